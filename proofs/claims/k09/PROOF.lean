import PyProof.Rows.All
import Wide.All
import OpenK.AllK
import Wide.FinOn
import Lean
import PyProof.EqAt
import PyProof.EqKinds
import PyProof.TupleCall
import KE.KRevIter
import KE.KIntText
import PyProof.Rows.StrNews
import KE.KSortTup
import PyProof.Rows.SetFrom
import PyProof.WalksMore
import KE.KRevSl
import PyProof.ZipIter
import PyProof.TupleIter
import KE.KItemsList
import PyProof.ListRange
import PyProof.Rows.SortRuns
import PySem.Challenge.RW_pathask_k09_whole_ways_that_fit
set_option compiler.extract_closed false
set_option genSizeOf false
def q0(h:0=0:=by rfl)(j:0=0:=by decide):True:=⟨⟩
def r0:=q0._auto_1
def r1:=q0._auto_3
open List renaming eq_nil_of_length_eq_zero->zaa,getElem?_append_right->zab,getElem?_eq_some_iff->zad,getElem?_append_left->zae,getElem?_zip_eq_some->zaf,drop_eq_getElem_cons->zag,pairwise_iff_getElem->zah,getElem?_eq_getElem->zak,length_erase_of_mem->zal,getElem?_cons_succ->zam,take_of_length_le->zao,length_pos_of_mem->zap,drop_of_length_le->zaq,mem_append_right->zau,getElem?_eq_none->zav,set_append_right->zaw,mem_cons_of_mem->zaz,mem_append_left->zaA,getElem?_set_ne->zaB,mem_of_getElem? -> zaC,mem_erase_of_ne->zaD,set_append_left->zaE,mem_of_mem_take->zaF,filterMap_cons->zaI,replicate_succ->zaJ,map_congr_left->zaK,getElem_of_mem->zaL,mem_cons_self->zaP,mem_filterMap->zaQ,length_append->zaR,getElem?_take->zaS,zip_cons_cons->zaT,mem_singleton->zaU,getElem_range->zaV,set_cons_zero->zaW,pairwise_cons->zaX,size_toArray->zbf,any_eq_false->zbg,getElem?_map->zbh,flatten_cons->zbi,append_assoc->zbj,getElem?_set->zbk,nodup_append->zbl,ext_getElem? -> zbm,length_range->zbn,pairwise_map->zbo,length_cons->zby,length_take->zbz,length_drop->zbA,lookup_cons->zbB,all_eq_true->zbC,take_length->zbD,any_eq_true->zbE,map_fst_zip->zbF,map_snd_zip->zbG,cons_append->zbH,ext_getElem->zbI,getElem_mem->zbJ,getElem_map->zbK,not_mem_nil->zbL,mem_filter->zbP,mem_append->zbQ,length_map->zbR,append_nil->zbS,nodup_cons->zbT,of_mem_zip->zbU,find?_cons->zbV,length_nil->zbW,foldl_cons->zbX,nil_append->zbY,map_append->zbZ,length_zip->zca,length_set->zcb,range_succ->zcc,take_left'->zcd,mem_range->zcj,replicate->zck,mem_cons->zcp,map_cons->zcq,any_cons->zcr,all_cons->zcs,map_take->zct,map_nil->zcz,any_map->zcA,set_set->zcB,map_map->zcC,mem_map->zcD,lookup->zcQ,length->zcR,range->zcX,cons->zda,getD->zdb
open Array renaming getElem?_eq_none_iff->zac,getElem?_eq_getElem->zai,getElem?_eq_none->zar,getElem?_toList->zax,toArray_toList->zaH,length_toList->zaN,forIn_toList->zbc,toList_push->zbt,getD->zcZ
open PySem.Calls renaming call_function_entry->zaj,spliced_cons->zbe,spliced_nil->zbx
open Nat renaming add_sub_cancel_left->zan,mul_le_mul_right->zaG,add_left_cancel->zaM,lt_of_lt_of_le->zaY,lt_succ_of_lt->zbp,le_of_lt_succ->zbq,lt_trichotomy->zbr,lt_succ_self->zbM,not_lt_zero->zce,lt_irrefl->zcu,add_assoc->zcv,ne_of_lt->zcE,le_trans->zcF,le_of_lt->zcG,ne_of_gt->zcH,lt_trans->zcI,lt_or_ge->zcJ,add_zero->zcK,sub_self->zcL,le_refl->zcS,zero_le->zcT,le_succ->zcU,add_mul->zcV,mod_lt->zcY
open PySem.Heap renaming get?_push_of_some->zas,get?_update_other->zat,get?_update_self->zay,get?_push_size->zaO,size_push->zco,lt_size->zcP
open Int renaming emod_lt_of_pos->zaZ,toNat_natCast->zbs,emod_nonneg->zcf
open Bool renaming false_ne_true->zba,false_eq_true->zbb,and_eq_true->zbN,or_eq_true->zcg,or_false->zcw,and_self->zcx
open PySem.W renaming mg_none_of->zbd,hasDictIn->zbu,emptyDict->zbv,plainGet->zbO,instObj->zch,kia_one->zci,findIn->zcl,keepIn->zcm,codeIn->zcn,mg_of->zcy,isFn->zcM,fnOf->zcN,nsIn->zcO
open Option renaming isSome_map->zbw,some->zcW
open PySem renaming wpAny_bind->yaa,wpAny_pure->yab,wpAny_mono->yac,wpAny_holding->yad,wpAny_newObj_type->yae,sizeLine_eq->yaf,sizeLine->yag,Shared->yah,Value->yai,Program->yaj,World->yak,Around->yal,PyData->yam,compareOp->yan,starEach->yao,FuncData->yap,mainGlobals->yaq,wpAny->yar,sysModules->yas,swapsWith->yat,backTo->yau,DictEntry->yav,GenState->yaw,codeAny_mono->yax,callWith->yay,bindArgs->yaz,BindsTo->yaA,wpAny_onRaise->yaB,getMethod->yaC,keywordEach->yaD,backToKw->yaE,wpAny_execs_nil->yaF,wpAny_execs_cons->yaG,wpAny_call->yaH
open PySem.W renaming Frag->yaI
def yDf{p:Prop}[Decidable p](h:¬p):decide p=false:=decide_eq_false h
def yDt{p:Prop}[Decidable p](h:p):decide p=true:=decide_eq_true h
theorem yIn.{u}{h:Decidable c} (n:¬c) {a:Sort u}{t e:a}:(ite c t e)=e:=if_neg n
theorem yIp.{u}{h:Decidable c} (n:c) {a:Sort u}{t e:a}:(ite c t e)=t:=if_pos n
def ySz(n:Nat)(h:autoParam (n<=100) r1):n<=PySem.sizeLine:=by rw[PySem.sizeLine_eq];lia
set_option Elab.async false
set_option linter.all false
set_option autoImplicit true
set_option relaxedAutoImplicit true
set_option maxRecDepth 100000
def x0_1{p q:Prop}{C:Prop}(k:p->q->C):(p/\q)->C:=λn=>k n.1 n.2
def x0_2{p q r:Prop}{C:Prop}(k:p->q->r->C):(p/\q/\r)->C:=λn=>k n.1 n.2.1 n.2.2
def x0_3{p q r s:Prop}{C:Prop}(k:p->q->r->s->C):(p/\q/\r/\s)->C:=λn=>k n.1 n.2.1 n.2.2.1 n.2.2.2
def x0_4{p q r s t:Prop}{C:Prop}(k:p->q->r->s->t->C):(p/\q/\r/\s/\t)->C:=λn=>k n.1 n.2.1 n.2.2.1 n.2.2.2.1 n.2.2.2.2
def x0_5{p q r s t u:Prop}{C:Prop}(k:p->q->r->s->t->u->C):(p/\q/\r/\s/\t/\u)->C:=λn=>k n.1 n.2.1 n.2.2.1 n.2.2.2.1 n.2.2.2.2.1 n.2.2.2.2.2
def x0_6{p q r s t u v:Prop}{C:Prop}(k:p->q->r->s->t->u->v->C):(p/\q/\r/\s/\t/\u/\v)->C:=λn=>k n.1 n.2.1 n.2.2.1 n.2.2.2.1 n.2.2.2.2.1 n.2.2.2.2.2.1 n.2.2.2.2.2.2
def x1_0{A:Type}{p:A->Prop}{C:Prop}(k:∀a,p a->C):(∃a,p a)->C:=λn=>n.elim k
def x1_1{A:Type}{p q:A->Prop}{C:Prop}(k:∀a,p a->q a->C):(∃a,p a/\q a)->C:=λn=>n.elim λn=>x0_1 (k n)
def x1_2{A:Type}{p q r:A->Prop}{C:Prop}(k:∀a,p a->q a->r a->C):(∃a,p a/\q a/\r a)->C:=λn=>n.elim λn=>x0_2 (k n)
def x1_3{A:Type}{p q r s:A->Prop}{C:Prop}(k:∀a,p a->q a->r a->s a->C):(∃a,p a/\q a/\r a/\s a)->C:=λn=>n.elim λn=>x0_3 (k n)
def x1_4{A:Type}{p q r s t:A->Prop}{C:Prop}(k:∀a,p a->q a->r a->s a->t a->C):(∃a,p a/\q a/\r a/\s a/\t a)->C:=λn=>n.elim λn=>x0_4 (k n)
def x1_5{A:Type}{p q r s t u:A->Prop}{C:Prop}(k:∀a,p a->q a->r a->s a->t a->u a->C):(∃a,p a/\q a/\r a/\s a/\t a/\u a)->C:=λn=>n.elim λn=>x0_5 (k n)
def x2_0{A B:Type}{p:A->B->Prop}{C:Prop}(k:∀a b,p a b->C):(∃a b,p a b)->C:=λn=>n.elim λn=>x1_0 (k n)
def x2_1{A B:Type}{p q:A->B->Prop}{C:Prop}(k:∀a b,p a b->q a b->C):(∃a b,p a b/\q a b)->C:=λn=>n.elim λn=>x1_1 (k n)
def x2_2{A B:Type}{p q r:A->B->Prop}{C:Prop}(k:∀a b,p a b->q a b->r a b->C):(∃a b,p a b/\q a b/\r a b)->C:=λn=>n.elim λn=>x1_2 (k n)
def x2_3{A B:Type}{p q r s:A->B->Prop}{C:Prop}(k:∀a b,p a b->q a b->r a b->s a b->C):(∃a b,p a b/\q a b/\r a b/\s a b)->C:=λn=>n.elim λn=>x1_3 (k n)
def x2_4{A B:Type}{p q r s t:A->B->Prop}{C:Prop}(k:∀a b,p a b->q a b->r a b->s a b->t a b->C):(∃a b,p a b/\q a b/\r a b/\s a b/\t a b)->C:=λn=>n.elim λn=>x1_4 (k n)
def x3_0{A B D:Type}{p:A->B->D->Prop}{C:Prop}(k:∀a b c,p a b c->C):(∃a b c,p a b c)->C:=λn=>n.elim λn=>x2_0 (k n)
def x3_1{A B D:Type}{p q:A->B->D->Prop}{C:Prop}(k:∀a b c,p a b c->q a b c->C):(∃a b c,p a b c/\q a b c)->C:=λn=>n.elim λn=>x2_1 (k n)
def x3_2{A B D:Type}{p q r:A->B->D->Prop}{C:Prop}(k:∀a b c,p a b c->q a b c->r a b c->C):(∃a b c,p a b c/\q a b c/\r a b c)->C:=λn=>n.elim λn=>x2_2 (k n)
def x3_3{A B D:Type}{p q r s:A->B->D->Prop}{C:Prop}(k:∀a b c,p a b c->q a b c->r a b c->s a b c->C):(∃a b c,p a b c/\q a b c/\r a b c/\s a b c)->C:=λn=>n.elim λn=>x2_3 (k n)
def x4_0{A B D E:Type}{p:A->B->D->E->Prop}{C:Prop}(k:∀a b c d,p a b c d->C):(∃a b c d,p a b c d)->C:=λn=>n.elim λn=>x3_0 (k n)
def x4_1{A B D E:Type}{p q:A->B->D->E->Prop}{C:Prop}(k:∀a b c d,p a b c d->q a b c d->C):(∃a b c d,p a b c d/\q a b c d)->C:=λn=>n.elim λn=>x3_1 (k n)
def x4_2{A B D E:Type}{p q r:A->B->D->E->Prop}{C:Prop}(k:∀a b c d,p a b c d->q a b c d->r a b c d->C):(∃a b c d,p a b c d/\q a b c d/\r a b c d)->C:=λn=>n.elim λn=>x3_2 (k n)
def x5_0{A B D E F:Type}{p:A->B->D->E->F->Prop}{C:Prop}(k:∀a b c d e,p a b c d e->C):(∃a b c d e,p a b c d e)->C:=λn=>n.elim λn=>x4_0 (k n)
def x5_1{A B D E F:Type}{p q:A->B->D->E->F->Prop}{C:Prop}(k:∀a b c d e,p a b c d e->q a b c d e->C):(∃a b c d e,p a b c d e/\q a b c d e)->C:=λn=>n.elim λn=>x4_1 (k n)
def x6_0{A B D E F G:Type}{p:A->B->D->E->F->G->Prop}{C:Prop}(k:∀a b c d e f,p a b c d e f->C):(∃a b c d e f,p a b c d e f)->C:=λn=>n.elim λn=>x5_0 (k n)
def xe2{A B:Type}{p:A->B->Prop}(a b)(k:p a b):∃a b,p a b:=⟨a,b,k⟩
def xe3{A B D:Type}{p:A->B->D->Prop}(a b c)(k:p a b c):∃a b c,p a b c:=⟨a,b,c,k⟩
def xe4{A B D E:Type}{p:A->B->D->E->Prop}(a b c d)(k:p a b c d):∃a b c d,p a b c d:=⟨a,b,c,d,k⟩
def xe5{A B D E F:Type}{p:A->B->D->E->F->Prop}(a b c d e)(k:p a b c d e):∃a b c d e,p a b c d e:=⟨a,b,c,d,e,k⟩
def xe6{A B D E F G:Type}{p:A->B->D->E->F->G->Prop}(a b c d e f)(k:p a b c d e f):∃a b c d e f,p a b c d e f:=⟨a,b,c,d,e,f,k⟩
def xe7{A B D E F G H:Type}{p:A->B->D->E->F->G->H->Prop}(a b c d e f g)(k:p a b c d e f g):∃a b c d e f g,p a b c d e f g:=⟨a,b,c,d,e,f,g,k⟩
def xe8{A B D E F G H I:Type}{p:A->B->D->E->F->G->H->I->Prop}(a b c d e f g h)(k:p a b c d e f g h):∃a b c d e f g h,p a b c d e f g h:=⟨a,b,c,d,e,f,g,h,k⟩
def xe9{A B D E F G H I J:Type}{p:A->B->D->E->F->G->H->I->J->Prop}(a b c d e f g h i)(k:p a b c d e f g h i):∃a b c d e f g h i,p a b c d e f g h i:=⟨a,b,c,d,e,f,g,h,i,k⟩
local macro_rules|`(tactic|let ⟨$x,*⟩:=$t)=>do
 let l:=x.getElems;let n:=l.size;if n>7 then let z<-`(z);return<-`(tactic|(let ⟨$[$((l.extract 0 6).push z)],*⟩:=$t;let ⟨$[$(l.extract 6 n)],*⟩:=$z)) else
 let y:Array (Lean.TSyntax `ident)<-l.mapM λ(e:Lean.Term)=>if e.raw.isIdent&&e.raw.getId != `rfl then pure ⟨e.raw⟩ else Lean.withFreshMacroScope `(z)
 let mut r<-`(tactic|fail)
 for k in [0:n] do
  let c:=Lean.mkIdent (.mkSimple s!"x{k}_{n-1-k}")
  r<-if t.raw.isIdent then `(tactic|first|(revert $(⟨t⟩):ident;refine $c fun $y* =>?_)|$r:tactic) else `(tactic|first|refine $c (fun $y* =>?_) $t|$r:tactic)
 for e in l,z in y do
  if e.raw.isOfKind `Lean.Parser.Term.anonymousCtor then r<-`(tactic|($r;let $e:term:=$z)) else if e.raw.getId==`rfl then r<-`(tactic|($r;subst $z))
 return r
local macro_rules|`(tactic|refine ⟨$x,*⟩)=>do
 let l:=x.getElems;let mut r<-`(tactic|refine (⟨$x,*⟩))
 for i in [2:min 10 l.size] do
  let c:=Lean.mkIdent (.mkSimple s!"xe{i}")
  let b:=l.extract i l.size
  let b<-if h:b.size=1 then pure b[0] else `(⟨$[$b],*⟩)
  r<-`(tactic|first|refine $c $((l.extract 0 i).push b)*|$r:tactic)
 return r
namespace L2
open PySem PySem.Spec PyProof.Rows
abbrev Key:=Sum Int Str
noncomputable def qu:Key->yai->Bool
 |.inl k,v=>Value.isInt k v
 |.inr x,v=>Value.isStrOf x v
noncomputable def Wh(w:yak):Key->Int
 |.inl k=>hashInt k
 |.inr x=>hashStr w x
theorem bL:∀{k:Key}{v:yai},qu k v=true->(∃i t,k=Sum.inl i/\v=Value.int i t)∨(∃x t,k=Sum.inr x/\v=Value.str x t)
 |.inl i,v,h=>by
  let⟨t,e⟩:=Value.isInt_shape (k:=i) (v:=v) h;exact .inl ⟨i,t,rfl,e⟩
 |.inr x,v,h=>by
  let⟨t,e⟩:=Value.isStrOf_shape (x:=x) (v:=v) h;exact .inr ⟨x,t,rfl,e⟩
def DV(i:Int)(t:Tok):qu (.inl i) (.int i t)=true:=by simp[qu,Value.isInt]
def DU(x:Str)(t:Tok):qu (.inr x) (.str x t)=true:=by simp[qu,Value.isStrOf]
def Qs(a b:Int):decide ((Sum.inl a:Key)=Sum.inl b)=(a==b):=by
 by_cases e:a=b
 ·subst e;simp
 ·have h:¬(Sum.inl a:Key)=Sum.inl b:=λq=>e (Sum.inl.inj q);rw[yDf h];exact(beq_eq_false_iff_ne.mpr e).symm
def Qo(a b:Str):decide ((Sum.inr a:Key)=Sum.inr b)=decide (a=b):=by
 by_cases e:a=b
 ·subst e;simp
 ·have h:¬(Sum.inr a:Key)=Sum.inr b:=λq=>e (Sum.inr.inj q);rw[yDf h,yDf e]
def Qq(a:Int)(b:Str):decide ((Sum.inl a:Key)=Sum.inr b)=false:=yDf (λq=>nomatch q)
def Qp(a:Str)(b:Int):decide ((Sum.inr a:Key)=Sum.inl b)=false:=yDf (λq=>nomatch q)
noncomputable def bA(prog:yaj)(w:yak):PySem.KeyKind prog w Key where
 is:=qu
 hash:=Wh w
 inj:=λv a b o m=>by
  rcases bL o with⟨i,t,rfl,rfl⟩|⟨x,t,rfl,rfl⟩
  ·rcases bL m with⟨j,u,rfl,e⟩|⟨y,u,rfl,e⟩
   ·injection e with e1 _;rw[e1]
   ·exact nomatch e
  ·rcases bL m with⟨j,u,rfl,e⟩|⟨y,u,rfl,e⟩
   ·exact nomatch e
   ·injection e with e1 _;rw[e1]
 byValue:=λk v h=>by
  rcases bL h with⟨i,t,rfl,rfl⟩|⟨x,t,rfl,rfl⟩<;>rfl
 pyHash:=λl h=>by
  rcases bL l with⟨i,t,rfl,rfl⟩|⟨x,t,rfl,rfl⟩
  ·exact wpAny_pyHash_int h
  ·exact wpAny_pyHash_str h
 eqBool:=λn l h=>by
  rcases bL n with⟨i,t,rfl,rfl⟩|⟨x,t,rfl,rfl⟩
  ·rcases bL l with⟨j,u,rfl,rfl⟩|⟨y,u,rfl,rfl⟩
   ·rw[Qs] at h;exact wpAny_eqBool_int h
   ·rw[Qq] at h;exact SeqAt.EqAt.int_str i t y u _ _ _ _ h
  ·rcases bL l with⟨j,u,rfl,rfl⟩|⟨y,u,rfl,rfl⟩
   ·rw[Qp] at h;exact SeqAt.EqAt.str_int x t j u _ _ _ _ h
   ·rw[Qo] at h;exact wpAny_eqBool_str h
 «strs»:=λk x t v h=>by
  rcases bL h with⟨i,u,rfl,e⟩|⟨y,u,rfl,e⟩
  ·exact nomatch e
  ·injection e with e1 _;subst e1;cases v<;>rfl
def wV(prog:yaj)(w:yak)(i:Int)(t:Tok):(bA prog w).is (.inl i) (.int i t)=true:=DV i t
def wU(prog:yaj)(w:yak)(x:Str)(t:Tok):(bA prog w).is (.inr x) (.str x t)=true:=DU x t
inductive V where
 |bx|bl (b:Bool)|int (i:Int)|str (x:Str)|yG (b:Array UInt8)|QI (b:UInt64)|ref (a:Addr)|ty (n:String)
 deriving DecidableEq
def RelV:V->yai->Prop
 |.bx,u=>u=Value.none
 |.bl b,u=>u=Value.bool b
 |.int i,u=>∃t,u=Value.int i t
 |.str x,u=>∃t,u=Value.str x t
 |.yG b,u=>∃t,u=Value.bytes b t
 |.QI b,u=>∃t,u=Value.float b t
 |.ref a,u=>u=Value.ref a
 |.ty n,u=>u=Value.type n
abbrev Vals:List V->List yai->Prop:=Paired RelV
theorem Vals.length(r:Vals a us):a.length=us.length:=Paired.length r
theorem Vals.get:∀{a:List V}{us:List yai}{i:Nat}{x:V},Vals a us->a[i]? =some x->∃u,us[i]? =some u/\RelV x u
 |_,_,_,_,.nil,e=>by simp at e
 |_,_,0,_,.cons r _,e=>by simp at e;subst e;refine⟨_,rfl,r⟩
 |_,_,i+1,x,.cons _ t,e=>by
  let⟨u,h1,h2⟩:=Vals.get t (by simpa using e);refine⟨u,by simp_all,h2⟩
def Vals.append:∀{e a:List V}{us ws:List yai},Vals e us->Vals a ws->Vals (e++a) (us++ws):=by
 intro e a us ws h g
 induction h with
 |nil=>exact g
 |cons r t ih=>exact .cons r ih
theorem Vals.take:∀{a:List V}{us:List yai}(n:Nat),Vals a us->Vals (a.take n) (us.take n)
 |_,_,0,_=>.nil
 |_,_,_+1,.nil=>.nil
 |_,_,n+1,.cons r t=>.cons r (Vals.take n t)
theorem Vals.drop:∀{a:List V}{us:List yai}(n:Nat),Vals a us->Vals (a.drop n) (us.drop n)
 |_,_,0,r=>r
 |_,_,_+1,.nil=>.nil
 |_,_,n+1,.cons _ t=>Vals.drop n t
def jf:Option V->Option yai->Prop
 |some v,some u=>RelV v u
 |none,none=>True
 |_,_=>False
def KV{κ:Type}:List (κ×V)->List (κ×yai)->Prop:=Paired λ(p:κ×V)(q:κ×yai)=>p.1=q.1/\RelV p.2 q.2
noncomputable def kV:Key->V
 |.inl i=>.int i
 |.inr x=>.str x
inductive HO where
 |lst (xs:List V)
 |tup (xs:List V)
 |dK (kvs:List (Key×V))|dT (kvs:List (List Key×V))
 |set (S:Int->Bool) (n:Nat)
 |ins (C dx:Addr) (fs:List (Str×V))
 |own (x:Addr)
 |xd (fs:List (Str×V))
 |met (f x:Addr)
 |VT (lo hi:Int)
 |B9 (o:Obj) (u:HO)
 |Ot (ps:Array yai)
 |ext (φ:Heap->Prop)
abbrev Hp:=Addr->Option HO
noncomputable def upd(H:Hp)(a:Addr)(o:HO):Hp:=λb=>if b=a then some o else H b
def bN:upd H a o a=some o:=by unfold upd;simp
def aM(h:b≠a):upd H a o b=H b:=by unfold upd;rw[yIn h]
def TZ{H:Hp}(h:H a=some o)(h':H b=some u)(d:o≠u):a≠b:=by
 lia
def bI{H:Hp}(h:H a=some o)(h':H b=none):a≠b:=by
 lia
section
variable (P:yaj)(w:yak)
def aQ(H:Hp)(h:Heap)(a:Addr):HO->Prop
 |.lst i=>i.length<=yag/\∃(e:List yai)(n:Nat),Vals i e/\h.get? a=some {cls:=.type "list",data:=.seq e.toArray n}
 |.tup i=>i.length<=yag/\∃e:List yai,Vals i e/\IsTup h a e.toArray
 |.dK kvs=>kvs.length<=yag/\(a==yas)=false/\∃vs,KV kvs vs/\h.DictOf (bA P w) a vs
 |.dT kvs=>kvs.length<=yag/\(a==yas)=false/\∃i:List (List Key×Addr×yai),
   Paired (λ(p:List Key×V)(q:List Key×Addr×yai)=>p.1=q.1/\H q.2.1=some (.tup (p.1.map kV))/\RelV p.2 q.2.2) kvs i/\
   ∃o j l,h.get? a=some o/\o.ExactDict/\o.data=.dict j l/\j.toList=i.map (entryOfKey (tupleKind (bA P w)))/\(i.map (·.1)).Nodup
 |.set S n=>h.SetOf (intKind P w) a S n
 |.ins C dx fs=>H dx=some (.own a)/\fs.length<=1000/\dx≠a/\h.get? a=some (zch C dx)/\
   ∃mA,h.Ns1 dx mA/\(∀f,jf (fs.lookup f) (mA f))/\PySem.Within mA (fs.map (·.1))
 |.own _=>∃o,h.get? a=some o
 |.xd fs=>∃mA,h.Ns1 a mA/\∀f,jf (fs.lookup f) (mA f)
 |.VT lo hi=>∃t u v,h.get? a=some {cls:=.type "range",data:=.fields #[.int lo t,.int hi u,.int 1 v]}
 |.B9 o u=>h.get? a=some o/\aQ H h a u
 |.Ot ps=>h.get? a=some {cls:=.none,data:=.fields ps}
 |.met f x=>h.get? a=some (PySem.W.methodObj (.ref f) (.ref x))
 |.ext φ=>φ h/\(∃o,h.get? a=some o)/\∀h1 h2:Heap,φ h1->(∀o,h1.get? a=some o->h2.get? a=some o)->φ h2
def jP(H:Hp)(h:Heap):Prop:=∀a o,H a=some o->aQ P w H h a o
end
section
variable {P:yaj}{w:yak}{H H':Hp}{h h':Heap}{a:Addr}{o:HO}
theorem aQ.lt(x:aQ P w H h a o):a<h.objs.size:=by
 cases o with
 |lst xs=>let⟨_,_,_,_,e⟩:=x;exact zcP e
 |tup xs=>let⟨_,_,_,p⟩:=x;exact p.lt
 |dK kvs=>let⟨_,_,_,_,o,_,_,e,_⟩:=x;exact zcP e
 |dT kvs=>let⟨_,_,_,_,o,_,_,e,_⟩:=x;exact zcP e
 |set S n=>let⟨o,_,_,_,e,_⟩:=x;exact zcP e
 |ins C dx fs=>let⟨_,_,_,e,_⟩:=x;exact zcP e
 |own y=>let⟨_,e⟩:=x;exact zcP e
 |xd fs=>obtain⟨_,⟨_,_,_,e,_⟩,_⟩:=x;exact zcP e
 |VT lo hi=>let⟨_,_,_,e⟩:=x;exact zcP e
 |B9 ob u=>let⟨e,_⟩:=x;exact zcP e
 |Ot ps=>exact zcP (show h.get? a=some _ from x)
 |met f y=>exact zcP (show h.get? a=some _ from x)
 |ext φ=>obtain⟨_,⟨_,e⟩,_⟩:=x;exact zcP e
def Paired.T4{l j:Type}{F G:l->j->Prop}:∀{i:List l}{e:List j},Paired F i e->(∀a b,F a b->G a b)->Paired G i e:=by
 intro a b h f
 induction h with
 |nil=>exact .nil
 |cons r t ih=>exact .cons (f _ _ r) ih
def aQ.stay(x:aQ P w H h a o)(k:∀b u,(b=a∨H b=some (.own a))->h.get? b=some u->h'.get? b=some u)(I:∀b,H b=some (.own a)->H' b=some (.own a))(G:∀b s,H b=some (.tup s)->H' b=some (.tup s)):aQ P w H' h' a o:=by
 induction o with
 |lst s=>let⟨z,m,n,r,e⟩:=x;refine⟨z,m,n,r,k _ _ (.inl rfl) e⟩
 |tup s=>let⟨z,m,r,i,e,c⟩:=x;refine⟨z,m,r,i,k _ _ (.inl rfl) e,c⟩
 |dK kvs=>let⟨z,y,vs,r,i,j,l,e,c⟩:=x;refine⟨z,y,vs,r,i,j,l,k _ _ (.inl rfl) e,c⟩
 |dT kvs=>
  let⟨z,y,s,r,i,j,l,e,c⟩:=x;refine⟨z,y,s,Paired.T4 r λp q z=>⟨z.1,G _ _ z.2.1,z.2.2⟩,i,j,l,k _ _ (.inl rfl) e,c⟩
 |set S n=>let⟨i,j,l,t,e,c⟩:=x;refine⟨i,j,l,t,k _ _ (.inl rfl) e,c⟩
 |ins C dx fs=>
  let⟨d,z,ne,e,mA,⟨E,j,l,L,c⟩,r⟩:=x;refine⟨I _ d,z,ne,k _ _ (.inl rfl) e,mA,⟨E,j,l,k _ _ (.inr d) L,c⟩,r⟩
 |own y=>let⟨i,e⟩:=x;exact⟨i,k _ _ (.inl rfl) e⟩
 |xd fs=>obtain⟨mA,⟨E,j,l,e,c⟩,r⟩:=x;refine⟨mA,⟨E,j,l,k _ _ (.inl rfl) e,c⟩,r⟩
 |VT lo hi=>let⟨t,u,v,e⟩:=x;refine⟨t,u,v,k _ _ (.inl rfl) e⟩
 |B9 i u ih=>let⟨e,q⟩:=x;exact⟨k _ _ (.inl rfl) e,ih q⟩
 |Ot ps=>
  exact k a _ (.inl rfl) x
 |met f y=>
  exact k a _ (.inl rfl) x
 |ext φ=>obtain⟨p,⟨o,e⟩,F⟩:=x;refine⟨F _ _ p λo q=>k _ _ (.inl rfl) q,⟨o,k _ _ (.inl rfl) e⟩,F⟩
theorem jP.lt(x:jP P w H h)(e:H a=some o):a<h.objs.size:=(x a o e).lt
def jP.fresh(x:jP P w H h)(e:h.objs.size<=a):H a=none:=by
 cases q:H a with
 |none=>rfl
 |some u=>exact absurd (zaY (x.lt q) e) (zcu _)
def jP.kept(x:jP P w H h)(k:∀b u,h.get? b=some u->h'.get? b=some u):jP P w H h':=λa o e=>
 (x a o e).stay (λb u _ q=>k b u q) (λ_ q=>q) λ_ _ q=>q
def jP.laid(x:jP P w H h)(k:∀b u,h.get? b=some u->h'.get? b=some u)(l:h.objs.size<=a)(new:aQ P w (upd H a o) h' a o):jP P w (upd H a o) h':=λb u e=>by
 have i:=x.fresh l;by_cases j:b=a
 ·subst j;rw[bN] at e;cases e;exact new
 ·rw[aM j] at e;exact(x b u e).stay (λc v _ q=>k c v q) (λc q=>by rw[aM (bI q i)];exact q) λc m q=>by rw[aM (bI q i)];exact q
end
def Rd(H:Hp)(a:Addr)(u:HO):Prop:=H a=some u∨∃o,H a=some (.B9 o u)
def Rd.ok(r:Rd H a u)(x:jP P w H h):aQ P w H h a u:=by
 obtain r|⟨o,r⟩:=r
 ·exact x a u r
 ·let⟨_,q⟩:=x a _ r;exact q
def R1:Option HO->Prop
 |some (.lst _)=>True
 |some (.dK _)=>True
 |some (.dT _)=>True
 |some (.set _ _)=>True
 |some (.ins _ _ _)=>True
 |some (.ext _)=>True
 |_=>False
section
variable {P:yaj}{w:yak}{H:Hp}{h h':Heap}{x e:Addr}{o':HO}
def jP.write(ok:jP P w H h)(j:R1 (H x))(s:e=x∨H e=some (.own x))(k:∀b u,b≠e->h.get? b=some u->h'.get? b=some u)(n:∃u,h'.get? e=some u)(new:aQ P w (upd H x o') h' x o'):jP P w (upd H x o') h':=λb u q=>by
 have t:∀c y,H c=some (.own y)->c≠x:=λc y r z=>by subst z;rw[r] at j;exact j
 have E:∀c i,H c=some (.tup i)->c≠x:=λc i r z=>by subst z;rw[r] at j;exact j
 by_cases m:b=x
 ·subst m;rw[bN] at q;cases q;exact new
 ·rw[aM m] at q;by_cases a:b=e
  ·have o:H b=some (.own x):=by
    lia
   rw[q] at o;cases o;let⟨v,C⟩:=n;exact⟨v,by simp_all⟩
  ·refine(ok b u q).stay (λc v l r=>k c v ?_ r) (λc r=>by rw[aM (t c b r)];exact r) λc i r=>by rw[aM (E c i r)];exact r
   grind
end
structure Un(fs ex:List Addr)(H H':Hp)(h h':Heap):Prop where
 keep:∀b o,h.get? b=some o->H b=none->b ∉ fs->b ∉ ex->h'.get? b=some o
 slot:∀b o,h.get? b=some o->H b=none->b∈fs->b ∉ ex->∃sl,h'.get? b=some {o with slots:=sl}
 free:∀b o,h.get? b=some o->H b=none->b ∉ ex->H' b=none
 there:∀b o,h.get? b=some o->b ∉ ex->∃o',h'.get? b=some o'
 tups:∀b xs,H b=some (.tup xs)->H' b=some (.tup xs)
 rM:∀b o u,H b=some (.B9 o u)->H' b=some (.B9 o u)
 tV:∀b ps,H b=some (.Ot ps)->∃more,H' b=some (.Ot (ps++more))
section
variable {fs fs' ex ex':List Addr}{H H1 H2:Hp}{h h1 h2 h':Heap}{a x e:Addr}{o:HO}
def Un.any(u:Un fs ex H H1 h h1)(q:h.get? b=some ob)(n:H b=none)(i:b ∉ ex):∃sl,h1.get? b=some {ob with slots:=sl}:=by
 by_cases j:b∈fs
 ·exact u.slot b ob q n j i
 ·exact⟨ob.slots,u.keep b ob q n j i⟩
def Un.kept(k:∀b u,h.get? b=some u->h'.get? b=some u):Un fs ex H H h h':=
 ⟨λb i q _ _ _=>k b i q,λb i q _ _ _=>⟨i.slots,k b i q⟩,λ_ _ _ n _=>n,λb i q _=>⟨i,k b i q⟩,λ_ _ q=>q,λ_ _ _ q=>q,λ_ j q=>⟨#[],by rw[q];simp⟩⟩
def Un.refl:Un fs ex H H h h:=Un.kept λ_ _ q=>q
def Un.laid(k:∀b u,h.get? b=some u->h'.get? b=some u)(l:h.objs.size<=a)(i:H a=none):Un fs ex H (upd H a o) h h' where
 keep:=λb u q _ _ _=>k b u q
 slot:=λb u q _ _ _=>⟨u.slots,k b u q⟩
 free:=λb u q n _=>by rw[aM (zcE (zaY (zcP q) l))];exact n
 there:=λb u q _=>⟨u,k b u q⟩
 tups:=λb j q=>by rw[aM (bI q i)];exact q
 rM:=λb u j q=>by rw[aM (bI q i)];exact q
 tV:=λb m q=>⟨#[],by rw[aM (bI q i),q];simp⟩
def Un.write(j:R1 (H x))(y:e=x∨H e=some (.own x))(k:∀b u,b≠e->h.get? b=some u->h'.get? b=some u)(m:∃u,h'.get? e=some u):Un fs ex H (upd H x o) h h':=by
 have s:∀b,H b=none->b≠x:=λb n z=>by subst z;rw[n] at j;exact j
 have t:∀b,H b=none->b≠e:=λb n z=>by
  simp_all
 have l:∀b u,H b=some u->¬R1 (some u)->b≠x:=λb u q nm z=>by simp_all
 refine⟨λb u q n _ _=>k b u (t b n) q,λb u q n _ _=>⟨u.slots,k b u (t b n) q⟩,λb u q n _=>by rw[aM (s b n)];exact n,λb u q _=>?_,
  λb v q=>by rw[aM (l b _ q λz=>z)];exact q,λb u v q=>by rw[aM (l b _ q λz=>z)];exact q,λb C q=>⟨#[],by rw[aM (l b _ q λz=>z),q];simp⟩⟩
 by_cases i:b=e
 ·subst i;exact m
 ·exact⟨u,k b u i q⟩
end
noncomputable def Vh(h:Heap)(H:Hp):List Addr:=(zcX h.objs.size).filter λa=>(H a).isSome
noncomputable def u6(h:Heap)(H:Hp):Heap:=PySem.W.hideAll h (Vh h H)
def D3(h:Heap)(H:Hp):(u6 h H).objs.size=h.objs.size:=PySem.W.hideAll_size _ _
def HN(e:h.get? b=some o)(n:H b=none):(u6 h H).get? b=some o:=
 PySem.W.hideAll_get _ e λa=>by
  have q:=(zbP.mp a).2;simp_all
def Lg(e:(u6 h H).get? b=some o):h.get? b=some o/\H b=none:=by
 have a:=PySem.W.of_hideAll (Vh h H) e;refine⟨a,?_⟩;cases q:H b with
 |none=>rfl
 |some x=>
  have i:b∈Vh h H:=zbP.mpr ⟨zcj.mpr (zcP a),by simp[q]⟩;have z:(u6 h H).get? b=none:=PySem.W.hideAll_none (Vh h H) i;simp_all
noncomputable def Mn(g h:Heap)(L:Addr):List (Addr×Obj):=(zcX h.objs.size).filterMap λa=>if a=L∨(g.get? a).isSome=true then none else(h.get? a).map λo=>(a,o)
noncomputable def rest(g h:Heap)(L d:Addr):List (Addr×Obj):=(Mn g h L).filter λp=>decide (p.1≠d)
structure Mod(K:yaI)(mg:Str->Option yai)(base:Heap):Prop where
 Vo:K.In base
 glob:base.Ns yaq mg
 blt:∃mb,base.Ns builtinsNs mb/\∀x:Str,x≠"__name__"->mb x=bootBuiltins x
 nolimit:base.NoLimit
structure Cx where
 prog:yaj
 w:yak
 K:yaI
 mg:Str->Option yai
 base:Heap
 A:yal
 N:List Str
 s₀:yah
 H₀:Hp
 env:Env
 outer:List Env
 stack:List Env
 ex:List Addr
 fn:Str->Bool
 calm:Bool
 pn:List (Addr×Obj)
 xe:yai->yah->Prop
end L2
variable {P prog:yaj}{K:yaI}{mg:PySem.Str->Option yai}{base:PySem.Heap}{C fi:PySem.Addr}{X:L2.Cx}{A:yal}{E:yai->yah->Prop}{pins:List (PySem.Addr×PySem.Obj)}{σ:List (Option L2.V)}{s:yah}{H:L2.Hp}{Q:yai->yah->Prop}{XP:(PySem.Str->Option yai)->PySem.Heap->Prop}{es:Array (Int×yai)}{osl sl:Array (Option yai)}{its items:Array yai}{G:Array yaw->Array yaw->Prop}{neg:Bool}{H':L2.Hp}{v:L2.V}{kvs:List (L2.Key×L2.V)}{caps:List (Option Nat)}{keys:List (Option PySem.Expr)}{ts:List (PySem.Str×PySem.Str×PySem.Str)}{kw:List (PySem.Str×yai)}{ks B:List (yam×PySem.Addr)}{xs:List L2.V}{ch fp:List PySem.Addr}{os:List PySem.Obj}{N ps loose ss ms:List PySem.Str}{us:List yai}{t' i j n m ep:Nat}{po:Option PySem.Obj}{a b f l I:PySem.Addr}{env:PySem.Env}{h h':PySem.Heap}{ob:PySem.Obj}{scope:PySem.Scope}{t:PySem.SetTable}{x y qual:PySem.Str}{u:yai}{YP:yak->PySem.Heap->Prop}{fd:yap}{values ifs:List PySem.Expr}{body:List PySem.Stmt}{e c tg iter value:PySem.Expr}{st:PySem.Stmt}{p pos pos' apos p2 cpos pos2:PySem.Pos}
namespace L2
open PySem PySem.Spec PyProof.Rows
noncomputable def frs(l:List Env):List Addr:=l.filterMap (·.frame)
noncomputable abbrev Cx.fs(X:Cx):List Addr:=frs X.outer
def Vu(a:Scope)(x:Str):Prop:=a.names.lookup x=some .local∨a.names.lookup x=some .cell∨a.names.lookup x=some .free
def Loc(a:Scope)(x:Str):Prop:=a.names.lookup x=some .local∨a.names.lookup x=some .cell
def Look(env:Env)(h:Heap)(m:Str->Option yai)(x:Str)(u:yai):Prop:=
 (env.kindOf x=some .local/\m x=some u)∨((env.kindOf x=some .cell∨env.kindOf x=some .free)/\∃c,env.cells.lookup x=some c/\h.IsCell c (some u))
structure Cx.Ok(X:Cx):Prop where
 mod:Mod X.K X.mg X.base
 kind:X.env.scope.kind=.function
 glob:X.env.globals=yaq
 blt:X.env.builtins=builtinsNs
 above:X.s₀.heap.objs.size<=X.env.locals
 inj:∀x y c,X.env.cells.lookup x=some c->X.env.cells.lookup y=some c->x=y
 has:∀x,(X.env.kindOf x=some .cell∨X.env.kindOf x=some .free)->∃c,X.env.cells.lookup x=some c
 UI:∀x c,X.fn x=true->X.env.cells.lookup x=some c->X.s₀.heap.objs.size<=c
 hd:X.calm=true->X.A.handled=none
 frames:X.A.frames=some X.stack
 stk:X.stack=X.outer∨(X.stack=X.env::X.outer/\X.env.frame=some X.env.locals)
 Wm:∀b∈X.ex,b≠X.env.locals/\∀x c,X.env.cells.lookup x=some c->c≠b
 bs:∀b o,X.base.get? b=some o->X.s₀.heap.get? b=some o/\X.H₀ b=none
 Mf:X.base.objs.size<=X.s₀.heap.objs.size
 G5:∀b o,X.base.get? b=some o->b ∉ X.ex
 LN:∀b∈X.ex,b ∉ X.fs
 oh:X.s₀.heap.FunFrames X.base X.outer
 QH:∀b∈X.fs,X.H₀ b=none
structure Inv(X:Cx)(pins:List (Addr×Obj))(σ:List (Option V))(H:Hp)(s:yah):Prop where
 ok:X.Ok
 os:s.os=X.s₀.os
 bare:AllBare s.gens
 base:Un X.fs X.ex X.H₀ H X.s₀.heap s.heap
 loc:∃m,s.heap.Ns X.env.locals m/\∀(i:Nat)(x:Str)(v:V),X.N[i]? =some x->σ[i]? =some (some v)->Vu X.env.scope x->∃u,RelV v u/\Look X.env s.heap m x u
 cell:∀x c,X.env.cells.lookup x=some c->∃v,s.heap.IsCell c v
 free:H X.env.locals=none
 iw:∀x c,X.env.cells.lookup x=some c->H c=none
 pin:∀p∈X.pn++pins,s.heap.get? p.1=some p.2/\H p.1=none/\p.1≠X.env.locals/\p.1 ∉ X.fs/\∀v,p.2.data≠ .cell v
 hok:jP X.prog X.w H s.heap
 len:σ.length=X.N.length
def Cx.Ok.Wb(ok:X.Ok)(e:X.base.get? b=some o):b ∉ X.fs:=λa=>by
 have:=(ok.oh.mem a).1;lia
theorem Inv.bs(I:Inv X pins σ H s):∀b o,X.base.get? b=some o->s.heap.get? b=some o/\H b=none:=λb o e=>
 ⟨I.base.keep b o (I.ok.bs b o e).1 (I.ok.bs b o e).2 (I.ok.Wb e) (I.ok.G5 b o e),I.base.free b o (I.ok.bs b o e).1 (I.ok.bs b o e).2 (I.ok.G5 b o e)⟩
def Inv.bk(I:Inv X pins σ H s):∀b o,X.base.get? b=some o->s.heap.get? b=some o:=λb o e=>(I.bs b o e).1
theorem Inv.mod(I:Inv X pins σ H s):Mod X.K X.mg X.base:=I.ok.mod
def Inv.nT(I:Inv X pins σ H s):X.K.In s.heap:=I.ok.mod.Vo.keeps I.bk
theorem Inv.lt(I:Inv X pins σ H s):X.env.locals<s.heap.objs.size:=by let⟨_,a,_⟩:=I.loc;exact a.lt
def Inv.sz(I:Inv X pins σ H s):X.s₀.heap.objs.size<=s.heap.objs.size:=zcF I.ok.above (zcG I.lt)
def Inv.TX(I:Inv X pins σ H s)(h:s.heap.objs.size<=a):a ∉ X.fs:=λi=>by
 let⟨_,o,e,_⟩:=I.ok.oh.mem i;exact absurd (zaY (zcP e) (zcF I.sz h)) (zcu _)
def Inv.Rb(I:Inv X pins σ H s):∀x c,X.env.cells.lookup x=some c->c≠X.env.locals:=λx c e z=>by
 let⟨v,o,i,hd⟩:=I.cell x c e;let⟨m,⟨j,l,n,a,h,_⟩,_⟩:=I.loc;simp_all
theorem Inv.oh(I:Inv X pins σ H s):s.heap.FunFrames X.base X.outer:=by
 have all:∀(l:List Env),(∀b∈frs l,b∈X.fs)->X.s₀.heap.FunFrames X.base l->s.heap.FunFrames X.base l:=by
  intro l
  induction l with
  |nil=>intro _ _;trivial
  |cons env r ih=>
   intro j t;obtain⟨u,⟨L,o,a,q,n,hd⟩,m⟩:=t;have i:=j L (by unfold frs;simp_all);let⟨v,e⟩:=I.base.slot L o n (I.ok.QH L i) i λz=>I.ok.LN L z i;refine⟨u,⟨L,_,a,q,e,hd⟩,ih (λb h=>j b (by unfold frs;rw[zaI,a];exact zaz _ h)) m⟩
 exact all X.outer (λ_ h=>h) I.ok.oh
theorem Inv.stack(I:Inv X pins σ H s):s.heap.FunFrames X.base X.stack:=by
 obtain e|⟨e,h⟩:=I.ok.stk
 ·rw[e];exact I.oh
 ·rw[e];let⟨m,a,_⟩:=I.loc;refine .cons (by rw[I.ok.kind];decide) h a ?_ I.oh;exact Heap.get?_none_of_le (zcF I.ok.Mf I.ok.above)
def Inv.pG(I:Inv X pins σ H s):∀b∈frs X.stack,b∈X.env.locals::X.fs:=λb a=>by
 obtain e|⟨e,h⟩:=I.ok.stk
 ·simp_all
 ·rw[e] at a;unfold frs at a;rw[zaI,h] at a;exact a
def Inv.A6(I:Inv X pins σ H s):∀b∈frs X.stack,H b=none:=λb a=>by
 obtain e|a:=zcp.mp (I.pG b a)
 ·rw[e];exact I.free
 ·let⟨_,o,h,_⟩:=I.ok.oh.mem a;exact I.base.free b o h (I.ok.QH b a) λz=>I.ok.LN b z a
def Inv.step{g':Array yaw}{d':Drawn}(I:Inv X pins σ H s)(j:∀b∈ch,(b∈X.ex∨X.s₀.heap.objs.size<=b)/\b≠X.env.locals/\(∀x c,X.env.cells.lookup x=some c->c≠b)/\∀p∈X.pn++pins,p.1≠b)(keep:∀b o,b≠X.env.locals->b ∉ X.fs->b ∉ ch->s.heap.get? b=some o->H b=none->h'.get? b=some o)(slot:∀b o,b≠X.env.locals->b∈X.fs->b ∉ ch->s.heap.get? b=some o->H b=none->∃sl,h'.get? b=some {o with slots:=sl})(free:∀b o,b ∉ ch->s.heap.get? b=some o->H b=none->H' b=none)(there:∀b o,b ∉ ch->s.heap.get? b=some o->∃o',h'.get? b=some o')(tups:∀b E,H b=some (.tup E)->H' b=some (.tup E))(rM:∀b o u,H b=some (.B9 o u)->H' b=some (.B9 o u))(tV:∀b ps,H b=some (.Ot ps)->∃more,H' b=some (.Ot (ps++more)))(ns:∀m,s.heap.Ns X.env.locals m->h'.Ns X.env.locals m)(hok:jP X.prog X.w H' h')(Y:AllBare g'):
  Inv X pins σ H' {s with heap:=h',gens:=g',drawn:=d',toks:=t'}:=by
 have L:∀b o,X.s₀.heap.get? b=some o->b≠X.env.locals:=λb o e=>zcE (zaY (zcP e) I.ok.above);have y:∀b o,X.s₀.heap.get? b=some o->b ∉ X.ex->b ∉ ch:=λb o e a F=>by
  rcases(j b F).1 with z|z
  ·exact a z
  ·exact absurd (zaY (zcP e) z) (zcu _)
 have t:∀x c,X.env.cells.lookup x=some c->∀v,s.heap.IsCell c v->h'.IsCell c v:=λx c e v ⟨o,G,hd⟩=>by
  have h:=λz=>(j c z).2.2.1 x c e rfl;by_cases S:c∈X.fs
  ·let⟨sl,q⟩:=slot c o (I.Rb x c e) S h G (I.iw x c e);refine⟨_,q,hd⟩
  ·refine⟨o,keep c o (I.Rb x c e) S h G (I.iw x c e),hd⟩
 refine⟨I.ok,I.os,Y,⟨λb o e n F a=>keep b o (L b o e) F (y b o e a) (I.base.keep b o e n F a) (I.base.free b o e n a),λb o e n F a=>?_,λb o e n a=>?_,λb o e a=>?_,λb E e=>tups b E (I.base.tups b E e),λb o E e=>rM b o E (I.base.rM b o E e),λb ps e=>?_⟩,?_,λx c e=>?_,?_,λx c e=>?_,λp Q=>?_,hok,I.len⟩
 ·let⟨sl,C⟩:=I.base.slot b o e n F a;let⟨P,O⟩:=slot b _ (L b o e) F (y b o e a) C (I.base.free b o e n a);exact⟨P,O⟩
 ·let⟨o',C⟩:=I.base.there b o e a;exact free b o' (y b o e a) C (I.base.free b o e n a)
 ·let⟨o',C⟩:=I.base.there b o e a;exact there b o' (y b o e a) C
 ·let⟨m1,C⟩:=I.base.tV b ps e;let⟨m2,O⟩:=tV b _ C;exact⟨m1++m2,by simp_all⟩
 ·let⟨m,U,W⟩:=I.loc;refine⟨m,ns m U,λi x v C O Z=>?_⟩;let⟨u,r,l⟩:=W i x v C O Z;refine⟨u,r,?_⟩;obtain l|⟨k,c,e,z⟩:=l
  ·exact .inl l
  ·exact .inr ⟨k,c,e,t x c e _ z⟩
 ·let⟨v,z⟩:=I.cell x c e;exact⟨v,t x c e v z⟩
 ·let⟨m,⟨o,_,_,G,_⟩,_⟩:=I.loc;exact free _ o (λz=>(j _ z).2.1 rfl) G I.free
 ·let⟨v,o,G,hd⟩:=I.cell x c e;exact free c o (λz=>(j c z).2.2.1 x c e rfl) G (I.iw x c e)
 ·let⟨e,n,ne,nf,d⟩:=I.pin p Q;have h:=λz=>(j p.1 z).2.2.2 p Q rfl;refine⟨keep p.1 p.2 ne nf h e n,free p.1 p.2 h e n,ne,nf,d⟩
def Inv.un(I:Inv X pins σ H s)(u:Un X.fs [] H H' s.heap h')(hok:jP X.prog X.w H' h'):Inv X pins σ H' {s with heap:=h',toks:=t'}:=by
 obtain⟨m,⟨o,E,F,l,r⟩,_⟩:=id I.loc;let⟨x,v⟩:=u.any l I.free (by simp);exact I.step (ch:=[]) (λ_ z=>nomatch z) (λb o _ h _ e n=>u.keep b o e n h (by simp)) (λb o _ h _ e n=>u.slot b o e n h (by simp)) (λb o _ e n=>u.free b o e n (by simp)) (λb o _ e=>u.there b o e (by simp)) u.tups u.rM u.tV (λC t=>by
  let⟨y,i,j,a,q⟩:=t;rw[l] at a;cases a;refine⟨_,i,j,v,q⟩) hok I.bare
def Inv.call{g':Array yaw}{d':Drawn}(I:Inv X pins σ H s)(u:Un (frs X.stack) ch H H' s.heap h')(hok:jP X.prog X.w H' h')(C:AllBare g')(i:∀b∈ch,(b∈X.ex∨X.s₀.heap.objs.size<=b)/\b≠X.env.locals/\(∀x c,X.env.cells.lookup x=some c->c≠b)/\∀p∈X.pn++pins,p.1≠b):
  Inv X pins σ H' {s with heap:=h',gens:=g',drawn:=d',toks:=t'}:=by
 obtain⟨m,⟨o,O,P,t,r⟩,_⟩:=id I.loc;let⟨F,j⟩:=u.any t I.free λz=>(i _ z).2.1 rfl;exact I.step i (λb o j E a e n=>u.keep b o e n (λz=>(zcp.mp (I.pG b z)).elim j E) a) (λb o _ _ a e n=>u.any e n a) (λb o a e n=>u.free b o e n a) (λb o a e=>u.there b o e a) u.tups u.rM u.tV (λL y=>by
  let⟨G,l,q,h,v⟩:=y;rw[t] at h;cases h;refine⟨_,l,q,j,v⟩) hok C
def Inv.turned(I:Inv X pins σ H s)(k:∀b o,b≠it->s.heap.get? b=some o->h'.get? b=some o)(l:H it=none)(i:it≠X.env.locals)(h1:it∈X.ex∨X.s₀.heap.objs.size<=it)(h2:∀x c,X.env.cells.lookup x=some c->c≠it)(C:∀p∈X.pn++pins,p.1≠it):Inv X pins σ H {s with heap:=h',toks:=t'}:=by
 refine I.step (ch:=[it]) (λb y=>?_) (λb o _ _ a e _=>k b o (λz=>a (by simp[z])) e) (λb o _ _ a e _=>⟨o.slots,k b o (λz=>a (by simp[z])) e⟩) (λ_ _ _ _ n=>n)
  (λb o a e=>⟨o,k b o (λz=>a (by simp[z])) e⟩) (λ_ _ e=>e) (λ_ _ _ e=>e) (λb G e=>⟨#[],by rw[e];simp⟩) (λm t=>?_) (λb u e=>?_) I.bare
 ·have e:b=it:=by simp_all
  subst e;refine⟨h1,i,h2,C⟩
 ·let⟨o,E,F,j,r⟩:=t;refine⟨o,E,F,k _ o (Ne.symm i) j,r⟩
 ·refine(I.hok b u e).stay (λc v a q=>k c v ?_ q) (λ_ q=>q) λ_ _ q=>q;lia
def Inv.tok(I:Inv X pins σ H s)(t:Nat):Inv X pins σ H {s with toks:=t}:=I.un (h':=s.heap) (t':=t) Un.refl I.hok
theorem Inv.kept(I:Inv X pins σ H s)(k:∀b u,s.heap.get? b=some u->h'.get? b=some u):Inv X pins σ H {s with heap:=h',toks:=t'}:=I.un (Un.kept k) (I.hok.kept k)
theorem Inv.laid(I:Inv X pins σ H s)(k:∀b u,s.heap.get? b=some u->h'.get? b=some u)(e:s.heap.objs.size<=a)(new:aQ X.prog X.w (upd H a o) h' a o):
  Inv X pins σ (upd H a o) {s with heap:=h',toks:=t'}:=I.un (Un.laid k e (I.hok.fresh e)) (I.hok.laid k e new)
theorem Inv.write{x e:Addr}(I:Inv X pins σ H s)(h:R1 (H x))(i:e=x∨H e=some (.own x))(k:∀b u,b≠e->s.heap.get? b=some u->h'.get? b=some u)(a:∃u,h'.get? e=some u)(new:aQ X.prog X.w (upd H x o) h' x o):Inv X pins σ (upd H x o) {s with heap:=h',toks:=t'}:=I.un (Un.write h i k a) (I.hok.write h i k a new)
def Inv.kW(I:Inv X pins σ H s)(h:∀p∈pins',s.heap.get? p.1=some p.2/\H p.1=none/\p.1≠X.env.locals/\p.1 ∉ X.fs/\∀v,p.2.data≠ .cell v):Inv X pins' σ H s:=
 ⟨I.ok,I.os,I.bare,I.base,I.loc,I.cell,I.free,I.iw,λp a=>(zbQ.mp a).elim (λz=>I.pin p (zaA _ z)) (h p),I.hok,I.len⟩
def wO(e:N.Nodup)(a:N[i]? =some x)(b:N[j]? =some x):i=j:=by
 let⟨h1,l⟩:=zad.mp a;let⟨h2,h⟩:=zad.mp b;exact(List.getElem_inj e).mp (l.trans h.symm)
def Dg(I:Inv X pins σ H s)(hN:X.N.Nodup)(hi:X.N[i]? =some x)(G:Loc X.env.scope x)(r:RelV v u)(h:∀s',Inv X pins (σ.set i (some v)) H s'->(∃a,Heap.SameBut a s.heap s'.heap/\(a=X.env.locals∨X.env.cells.lookup x=some a))->g () s')(hf:X.fn x=true∨X.env.scope.names.lookup x=some .local:=by first|exact .inl rfl|exact .inr rfl|assumption):yar M A (storeName X.env x u) g E s:=by
 let⟨m,hn,hl⟩:=id I.loc;have ac:(X.env.scope.kind== .class||(X.env.scope.kind== .module&&X.env.locals != X.env.globals))=false:=by rw[I.ok.kind];rfl
 have S:i<σ.length:=by rw[I.len];exact(zad.mp hi).1
 have Rb:=I.Rb;have t:∀{a:Addr}{Z:Heap},(∃o,s.heap.get? a=some o/\H a=none)->Heap.SameBut a s.heap Z->jP X.prog X.w H Z:=λ{a Z} ha l b ob e=>by
  refine(I.hok b ob e).stay (λc w' F q=>(l.2 c ?_).trans q) (λ_ q=>q) λ_ _ q=>q;lia
 obtain P|P:=G
 ·refine wpAny_storeName_local P hn (λZ hn' l=>?_) ac;let⟨oL,_,_,hoL,_⟩:=id hn;refine h _ ⟨I.ok,I.os,I.bare,⟨λb o e n Y G=>(l.2 b (zcE (zaY (zcP e) I.ok.above))).trans (I.base.keep b o e n Y G),λb o e n Y G=>?_,I.base.free,λb o e G=>?_,I.base.tups,I.base.rM,I.base.tV⟩,⟨_,hn',λj y v' C O e3=>?_⟩,λy c e=>?_,I.free,I.iw,λp hp=>?_,t ⟨oL,hoL,I.free⟩ l,by simpa using I.len⟩ ⟨_,l,.inl rfl⟩
  ·let⟨sl,C⟩:=I.base.slot b o e n Y G;exact⟨sl,(l.2 b (zcE (zaY (zcP e) I.ok.above))).trans C⟩
  ·let⟨o',C⟩:=I.base.there b o e G;exact⟨o',(l.2 b (zcE (zaY (zcP e) I.ok.above))).trans C⟩
  ·by_cases U:j=i
   ·subst U;rw[hi] at C;cases C;rw[List.getElem?_set_self S] at O;cases O;refine⟨u,r,.inl ⟨P,by simp⟩⟩
   ·rw[zaB (Ne.symm U)] at O;let⟨u',r',q⟩:=hl j y v' C O e3;refine⟨u',r',?_⟩;rcases q with⟨k,e⟩|⟨k,c,e,z⟩
    ·refine .inl ⟨k,?_⟩;have:y≠x:=λe=>U (wO hN C (e▸hi));simp_all
    ·exact .inr ⟨k,c,e,z.sameBut l (Rb y c e)⟩
  ·let⟨w',z⟩:=I.cell y c e;exact⟨w',z.sameBut l (Rb y c e)⟩
  ·let⟨e,n,ne,nf,d⟩:=I.pin p hp;refine⟨(l.2 p.1 ne).trans e,n,ne,nf,d⟩
 ·have W:X.fn x=true:=by
   simp_all
  let⟨c,F⟩:=I.ok.has x (.inl P);let⟨w',z⟩:=I.cell x c F;refine wpAny_storeName_cell I.ok.kind P F z (λZ hc' l=>?_);let⟨oc,hoc,ab⟩:=id z;refine h {s with heap:=Z} ⟨I.ok,I.os,I.bare,⟨λb o e n Y G=>(l.2 b (zcE (zaY (zcP e) (I.ok.UI x c W F)))).trans (I.base.keep b o e n Y G),λb o e n Y G=>?_,I.base.free,λb o e G=>?_,I.base.tups,I.base.rM,I.base.tV⟩,⟨m,hn.sameBut l (Ne.symm (Rb x c F)),λj y v' C O e3=>?_⟩,λy c' e=>?_,I.free,I.iw,λp hp=>?_,t ⟨oc,hoc,I.iw x c F⟩ l,by simpa using I.len⟩ ⟨c,l,.inr F⟩
  ·let⟨sl,C⟩:=I.base.slot b o e n Y G;exact⟨sl,(l.2 b (zcE (zaY (zcP e) (I.ok.UI x c W F)))).trans C⟩
  ·let⟨o',C⟩:=I.base.there b o e G;exact⟨o',(l.2 b (zcE (zaY (zcP e) (I.ok.UI x c W F)))).trans C⟩
  ·by_cases U:j=i
   ·subst U;rw[hi] at C;cases C;rw[List.getElem?_set_self S] at O;cases O;refine⟨u,r,.inr ⟨.inl P,c,F,hc'⟩⟩
   ·rw[zaB (Ne.symm U)] at O;let⟨u',r',q⟩:=hl j y v' C O e3;refine⟨u',r',?_⟩;obtain q|⟨k,c',e,z'⟩:=q
    ·exact .inl q
    ·refine .inr ⟨k,c',e,z'.sameBut l ?_⟩;rintro rfl;exact U (wO hN C (I.ok.inj _ _ _ e F▸hi))
  ·by_cases hcc:c'=c
   ·subst hcc;exact⟨_,hc'⟩
   ·let⟨w2,z2⟩:=I.cell y c' e;exact⟨w2,z2.sameBut l hcc⟩
  ·let⟨e,n,ne,nf,d⟩:=I.pin p hp;refine⟨(l.2 p.1 ?_).trans e,n,ne,nf,d⟩;grind
def kG(I:Inv X pins σ H s)(l:X.N.Nodup)(e:X.N[i]? =some x)(a:Loc X.env.scope x)(r:RelV v u)(h:∀s',Inv X pins (σ.set i (some v)) H s'->d () s')(j:X.fn x=true∨X.env.scope.names.lookup x=some .local:=by first|exact .inl rfl|exact .inr rfl|assumption):yar M A (storeName X.env x u) d E s:=
 Dg I l e a r (λs' m _=>h s' m) j
def Inv.UH(I:Inv X pins σ H s)(i:s'.os=s.os)(u:Un (frs X.stack) ch H H' s.heap s'.heap)(hok:jP X.prog X.w H' s'.heap)(j:AllBare s'.gens)(a:∀b∈ch,(b∈X.ex∨X.s₀.heap.objs.size<=b)/\b≠X.env.locals/\(∀x c,X.env.cells.lookup x=some c->c≠b)/\∀p∈X.pn++pins,p.1≠b):Inv X pins σ H' s':=by
 let⟨l,g',d',t',h⟩:=s';subst i;exact I.call u hok j a
abbrev XK:=yai->Option Addr->Hp->Prop
abbrev St:=List (Option V)
abbrev VK:=V->Hp->Prop
abbrev TE:=St->Hp->VK->Prop
abbrev TT:=St->Hp->(Bool->Hp->Prop)->Prop
abbrev TA:=St->Hp->(List V->Hp->Prop)->Prop
structure Ends where
 nx:St->Hp->Prop
 rt:VK
 bk:St->Hp->Prop:=λ_ _=>False
 ct:St->Hp->Prop:=λ_ _=>False
abbrev TS:=Ends->St->Hp->Prop
def EP(X:Cx)(a:List (Addr×Obj))(h:St)(Q:VK)(u:yai)(s':yah):Prop:=∃v e,Inv X a h e s'/\RelV v u/\Q v e
def TP(X:Cx)(a:List (Addr×Obj))(h:St)(Q:Bool->Hp->Prop)(b:Bool)(s':yah):Prop:=∃e,Inv X a h e s'/\Q b e
def AP(X:Cx)(a:List (Addr×Obj))(h:St)(Q:List V->Hp->Prop)(us:List yai)(s':yah):Prop:=∃vs e,Inv X a h e s'/\Vals vs us/\Q vs e
def SP(X:Cx)(e:List (Addr×Obj))(D:Ends)(f:Flow)(s':yah):Prop:=
 match f with
 |.next=>∃a h,Inv X e a h s'/\D.nx a h
 |.brk=>∃a h,Inv X e a h s'/\D.bk a h
 |.cont=>∃a h,Inv X e a h s'/\D.ct a h
 |.ret u=>∃v a h,Inv X e a h s'/\RelV v u/\D.rt v h
def PE(X:Cx)(e:Expr)(t:TE):Prop:=
 ∀(a:List (Addr×Obj))(s:yah)(h:St)(H:Hp)(Q:VK),Inv X a h H s->t h H Q->yar (model X.prog X.w) X.A (eval e X.env) (EP X a h Q) X.xe s
def PT(X:Cx)(e:Expr)(t:TT):Prop:=
 ∀(a:List (Addr×Obj))(s:yah)(h:St)(H:Hp)(Q:Bool->Hp->Prop),Inv X a h H s->t h H Q->yar (model X.prog X.w) X.A (isTrue e X.env (eval e X.env)) (TP X a h Q) X.xe s
def PW(X:Cx)(e:Expr)(t:TT):Prop:=
 ∀(h:Sem yai)(a:List (Addr×Obj))(s:yah)(i:St)(H:Hp)(Q:Bool->Hp->Prop),Inv X a i H s->t i H Q->yar (model X.prog X.w) X.A (isTrue e X.env h) (TP X a i Q) X.xe s
def PW.pt(h:PW X e d):PT X e d:=h _
def PA(X:Cx)(es:List Expr)(t:TA):Prop:=
 ∀(pos:Pos)(a:List (Addr×Obj))(s:yah)(e:St)(H:Hp)(Q:List V->Hp->Prop),Inv X a e H s->t e H Q->yar (model X.prog X.w) X.A (spliced (yau pos (yao es X.env))) (AP X a e Q) X.xe s
def PS(X:Cx)(st:Stmt)(t:TS):Prop:=
 ∀(a:List (Addr×Obj))(s:yah)(e:St)(H:Hp)(D:Ends),Inv X a e H s->t D e H->yar (model X.prog X.w) X.A (exec st X.env) (SP X a D) X.xe s
def yj(X:Cx)(st:List Stmt)(t:TS):Prop:=
 ∀(a:List (Addr×Obj))(s:yah)(e:St)(H:Hp)(D:Ends),Inv X a e H s->t D e H->yar (model X.prog X.w) X.A (execs st X.env) (SP X a D) X.xe s
def bW{e:Type}{t:Sem e}{Q i:e->yah->Prop}(h:yar M A t Q E s)(j:∀a s,Q a s->i a s):yar M A t i E s:=yac h j λ_ _ x=>x
section
def Sb(i:Nat):TE:=λa H Q=>∃v,a[i]? =some (some v)/\Q v H
def tC(v:V):TE:=λ_ H Q=>Q v H
def PL(L:X.N[i]? =some x)(C:Vu X.env.scope x)(hd:autoParam ((x==("__debug__":Str))=false) r1)(q:autoParam ((x==("__classdict__":Str))=false) r1):PE X (.Name x pos) (Sb i):=by
 intro o s y H Q I h;let⟨v,e,h⟩:=h;let⟨m,E,G⟩:=I.loc;let⟨u,r,l⟩:=G i x v L e C;have n:EP X o y Q u s:=⟨v,H,I,r,h⟩
 rcases l with⟨j,F⟩|⟨j,c,t,a⟩
 ·exact wpAny_Name (wpAny_loadName_local I.ok.kind j E F n) hd
 ·obtain j|j:=j
  ·exact wpAny_Name (wpAny_loadName_cell I.ok.kind j t a n) hd
  ·exact wpAny_Name (wpAny_loadName_free I.ok.kind j t a n q) hd
def ak:PE X (.Constant (.int d) g k) (tC (.int d)):=λ_ _ _ H _ I h=>wpAny_Constant_int ⟨.int d,H,I.tok _,⟨_,rfl⟩,h⟩
def fH:PE X (.Constant (.bool d) g k) (tC (.bl d)):=λ_ _ _ H _ I h=>Constant_bool ⟨.bl d,H,I,rfl,h⟩
def au:PE X (.Constant (.str d) g k) (tC (.str d)):=λ_ _ _ H _ I h=>Calls.Constant_str ⟨.str d,H,I.tok _,⟨_,rfl⟩,h⟩
def Gl(X:Cx)(x:Str):Prop:=X.env.kindOf x=some .globalImplicit
def uV(I:Inv X pins d H s)(i:Gl X x)(e:X.mg x=some u)(h:Q u s)(hd:autoParam ((x==("__debug__":Str))=false) r1):yar (model X.prog X.w) X.A (eval (.Name x pos) X.env) Q E s:=
 Calls.Name_function_global I.ok.kind i (Calls.loadGlobal_global (by rw[I.ok.glob];exact I.mod.glob.keeps I.bk) e h) hd
def dH(I:Inv X pins d H s)(l:Gl X x)(j:X.mg x=none)(e:bootBuiltins x=some u)(h:Q u s)(i:autoParam (x≠"__name__") r1)(hd:autoParam ((x==("__debug__":Str))=false) r1):yar (model X.prog X.w) X.A (eval (.Name x pos) X.env) Q E s:=by
 let⟨mb,h1,h2⟩:=I.mod.blt;exact Calls.Name_function_global I.ok.kind l (Calls.loadGlobal_builtin (by rw[I.ok.glob];exact I.mod.glob.keeps I.bk) j (by rw[I.ok.blt];exact h1.keeps I.bk) ((h2 x i).trans e) h) hd
def kX(e:Gl X x)(a:X.mg x=some u)(r:RelV v u)(hd:autoParam ((x==("__debug__":Str))=false) r1):PE X (.Name x pos) (tC v):=
 λ_ _ _ H _ I h=>uV I e a ⟨v,H,I,r,h⟩ hd
def K7(j:Gl X x)(i:X.mg x=none)(a:bootBuiltins x=some u)(r:RelV v u)(e:autoParam (x≠"__name__") r1)(hd:autoParam ((x==("__debug__":Str))=false) r1):PE X (.Name x pos) (tC v):=
 λ_ _ _ H _ I h=>dH I j i a ⟨v,H,I,r,h⟩ e hd
variable {a b:Expr}{ta tb:TE}
def tB(t:TE):TT:=λe H Q=>t e H λx h=>∃c,x=.bl c/\Q c h
variable {tA tB':TT}{rest:List Expr}
def Ss(t u:TT):TT:=λe H Q=>t e H λc h=>if c=true then u e h Q else Q false h
def WO(t u:TT):TT:=λe H Q=>t e H λc h=>if c=true then Q true h else u e h Q
def Sj(t:TT):TT:=λe H Q=>t e H λc h=>Q (!c) h
def pw_and1(l:PT X a tA):PW X (.BoolOp .And [a] pos) tA:=by
 intro m i s j H Q I h;refine isTrue_and (bW (l i s j H Q I h) λc n e=>?_);cases c with
 |true=>exact isTrue_and_nil e
 |false=>exact e
def pw_or1(l:PT X a tA):PW X (.BoolOp .Or [a] pos) tA:=by
 intro m i s j H Q I h;refine isTrue_or (bW (l i s j H Q I h) λc n e=>?_);cases c with
 |false=>exact isTrue_or_nil e
 |true=>exact e
def pw_and(u:PT X a tA)(t:PW X (.BoolOp .And (b::rest) pos) tB'):PW X (.BoolOp .And (a::b::rest) pos) (Ss tA tB'):=by
 intro o e s j H Q I h;refine isTrue_and (bW (u e s j H _ I h) λc q i=>?_);let⟨n,m,l⟩:=i;cases c with
 |true=>exact t o e q j n Q m l
 |false=>refine⟨n,m,l⟩
def pw_or(u:PT X a tA)(t:PW X (.BoolOp .Or (b::rest) pos) tB'):PW X (.BoolOp .Or (a::b::rest) pos) (WO tA tB'):=by
 intro o e s j H Q I h;refine isTrue_or (bW (u e s j H _ I h) λc q i=>?_);let⟨n,m,l⟩:=i;cases c with
 |true=>refine⟨n,m,l⟩
 |false=>exact t o e q j n Q m l
def uz(j:PT X a tA):PT X (.UnaryOp .Not a pos) (Sj tA):=by
 intro e s i H Q I h;exact isTrue_not (j e s i H (λc l=>Q (!c) l) I h)
def MU(ta tb:TE):TE:=λe H Q=>ta e H λx h=>∃c,x=.bl c/\if c=true then tb e h Q else Q (.bl false) h
def Sh(ta tb:TE):TE:=λe H Q=>ta e H λx h=>∃c,x=.bl c/\if c=true then Q (.bl true) h else tb e h Q
def m6(h:PE X a d):PE X (.BoolOp op [a] pos) d:=λe s i H Q I hw=>BoolOp_one (h e s i H Q I hw)
def m9(u:PE X a ta)(t:PE X (.BoolOp .And (b::rest) pos) tb):PE X (.BoolOp .And (a::b::rest) pos) (MU ta tb):=by
 intro e s l H Q I h;refine BoolOp_and (bW (u e s l H _ I h) λv o j=>?_);let⟨x,n,m,q,i⟩:=j;let⟨c,rfl,i⟩:=i;cases q;refine wpAny_truthy_bool ?_;cases c with
 |true=>exact t e o l n Q m i
 |false=>refine⟨.bl false,n,m,rfl,i⟩
def GN(u:PE X a ta)(t:PE X (.BoolOp .Or (b::rest) pos) tb):PE X (.BoolOp .Or (a::b::rest) pos) (Sh ta tb):=by
 intro e s l H Q I h;refine BoolOp_or (bW (u e s l H _ I h) λv o j=>?_);let⟨x,n,m,q,i⟩:=j;let⟨c,rfl,i⟩:=i;cases q;refine wpAny_truthy_bool ?_;cases c with
 |false=>exact t e o l n Q m i
 |true=>refine⟨.bl true,n,m,rfl,i⟩
def WQ(t:TT)(ta tb:TE):TE:=λe H Q=>t e H λc h=>if c=true then ta e h Q else tb e h Q
def qa(q:PT X c tA)(u:PE X a ta)(t:PE X b tb):PE X (.IfExp c a b pos) (WQ tA ta tb):=by
 intro e s i H Q I h;refine wpAny_IfExp (bW (q e s i H _ I h) λd l j=>?_);let⟨o,n,m⟩:=j;cases d with
 |true=>exact u e l i o Q n m
 |false=>exact t e l i o Q n m
end
def dS(K:yaI)(H:Hp)(a:Addr)(h:List V):Prop:=
 Rd H a (.lst h)∨
  ∃(o:Obj)(e:Array yai)(n:Nat),K.lookup a=some o/\o.cls=.type "list"/\o.dict=none/\o.data=.seq e n/\e.size<=yag/\Vals h e.toList
def eS(K:yaI)(H:Hp)(a:Addr)(h:List V):Prop:=
 Rd H a (.tup h)∨
  ∃(o:Obj)(e:Array yai)(n:Nat),K.lookup a=some o/\o.cls=.type "tuple"/\o.data=.seq e n/\e.size<=yag/\Vals h e.toList
noncomputable def Wu:yai->Option V
 |.none=>some .bx
 |.bool b=>some (.bl b)
 |.int i _=>some (.int i)
 |.str x _=>some (.str x)
 |.bytes b _=>some (.yG b)
 |.float b _=>some (.QI b)
 |.ref a=>some (.ref a)
 |.type n=>some (.ty n)
 |_=>none
def RelV.abs(r:RelV d u):Wu u=some d:=by
 cases d with
 |bx=>cases r;rfl
 |bl _=>cases r;rfl
 |int _=>let⟨t,rfl⟩:=r;rfl
 |str _=>let⟨t,rfl⟩:=r;rfl
 |yG _=>let⟨t,rfl⟩:=r;rfl
 |QI _=>let⟨t,rfl⟩:=r;rfl
 |ref _=>cases r;rfl
 |ty _=>cases r;rfl
theorem RelV.inj(r:RelV d u)(q:RelV g u):d=g:=zcW.inj (r.abs.symm.trans q.abs)
theorem Vals.inj:∀{e a:List V}{us:List yai},Vals e us->Vals a us->e=a:=by
 intro e a us h
 induction h generalizing a with
 |nil=>intro g;cases g;rfl
 |cons r t ih=>
  intro g;cases g with
  |cons r' t'=>rw[r.inj r',ih t']
section
variable {σ:St}{ys:List V}
def dS.of(h:H a=some (.lst xs)):dS K H a xs:=.inl (.inl h)
def eS.of(h:H a=some (.tup xs)):eS K H a xs:=.inl (.inl h)
def Inv.list(I:Inv X pins σ H s)(h:dS X.K H a xs):∃its:List yai,Vals xs its/\PlainL s.heap a its.toArray/\xs.length<=yag:=by
 obtain h|⟨o,its,n,j,l,hd,i,hz,r⟩:=h
 ·let⟨z,its,n,r,e⟩:=h.ok I.hok;refine⟨its,r,⟨_,n,e,rfl,rfl,rfl⟩,z⟩
 ·refine⟨its.toList,r,⟨o,n,I.nT a o j,l,hd,by simp_all⟩,?_⟩;have e:=r.length;simp_all
def Inv.tuple(I:Inv X pins σ H s)(h:eS X.K H a xs):∃its:List yai,Vals xs its/\IsTup s.heap a its.toArray/\xs.length<=yag:=by
 obtain h|⟨o,its,n,j,l,i,hz,r⟩:=h
 ·let⟨z,its,r,p⟩:=h.ok I.hok;refine⟨its,r,p,z⟩
 ·refine⟨its.toList,r,⟨o,I.nT a o j,l,n,by simp_all⟩,?_⟩;have e:=r.length;simp_all
def Inv.Hu(I:Inv X pins σ H s)(h:dS X.K H a xs)(h':dS X.K H a ys):xs=ys:=by
 obtain⟨j,r,⟨o,n,e,_,_,d⟩,_⟩:=I.list h;obtain⟨i,q,⟨t,u,l,_,_,m⟩,_⟩:=I.list h';have:j=i:=by simp_all
 subst this;exact r.inj q
def Inv.De(I:Inv X pins σ H s)(h:eS X.K H a xs)(h':eS X.K H a ys):xs=ys:=by
 obtain⟨j,r,⟨o,e,_,n,d⟩,_⟩:=I.tuple h;obtain⟨i,q,⟨t,l,_,u,m⟩,_⟩:=I.tuple h';have:j=i:=by simp_all
 subst this;exact r.inj q
end
noncomputable abbrev Cx.rz(X:Cx)(E:yai->yah->Prop):Cx:={X with xe:=E}
noncomputable abbrev Cx.JR(X:Cx):Cx:=X.rz λ_ _=>False
theorem Cx.Ok.rz(ok:X.Ok)(E:yai->yah->Prop):(X.rz E).Ok:=
 ⟨ok.mod,ok.kind,ok.glob,ok.blt,ok.above,ok.inj,ok.has,ok.UI,ok.hd,ok.frames,ok.stk,ok.Wm,ok.bs,ok.Mf,ok.G5,ok.LN,ok.oh,ok.QH⟩
def Cx.Ok.iI(ok:(X.rz E).Ok):X.Ok:=
 ⟨ok.mod,ok.kind,ok.glob,ok.blt,ok.above,ok.inj,ok.has,ok.UI,ok.hd,ok.frames,ok.stk,ok.Wm,ok.bs,ok.Mf,ok.G5,ok.LN,ok.oh,ok.QH⟩
section
variable {σ:St}
theorem Inv.rz(I:Inv X pins σ H s)(E:yai->yah->Prop):Inv (X.rz E) pins σ H s:=⟨I.ok.rz E,I.os,I.bare,I.base,I.loc,I.cell,I.free,I.iw,I.pin,I.hok,I.len⟩
theorem Inv.iI(I:Inv (X.rz E) pins σ H s):Inv X pins σ H s:=⟨I.ok.iI,I.os,I.bare,I.base,I.loc,I.cell,I.free,I.iw,I.pin,I.hok,I.len⟩
theorem SP.iI(h:SP (X.rz E) pins D d s'):SP X pins D d s':=by
 cases d with
 |next=>let⟨a,e,I,q⟩:=h;refine⟨a,e,I.iI,q⟩
 |brk=>let⟨a,e,I,q⟩:=h;refine⟨a,e,I.iI,q⟩
 |cont=>let⟨a,e,I,q⟩:=h;refine⟨a,e,I.iI,q⟩
 |ret u=>let⟨v,a,e,I,r,q⟩:=h;refine⟨v,a,e,I.iI,r,q⟩
theorem yj.JR(h:yj X.JR d g):yj X d g:=λa s σ H D I hw=>
 yac (h a s σ H D (I.rz _) hw) (λ_ _ q=>q.iI) λ_ _ z=>False.elim z
end
section
variable {rest:List Stmt}{t u:TS}{te:TE}
def MN:TS:=λD a H=>D.nx a H
def Sf(t u:TS):TS:=λD a H=>t {D with nx:=u D} a H
def aH:yj X [] MN:=λ_ _ a H _ I h=>yaF ⟨a,H,I,h⟩
def aa(h1:PS X st t)(h2:yj X rest u):yj X (st::rest) (Sf t u):=by
 intro a s i H D I h;refine yaG (bW (h1 a s i H {D with nx:=u D} I h) λf j q=>?_);cases f with
 |next=>
  let⟨e,m,l,q⟩:=q;exact h2 a j e m D l q
 |ret v=>exact q
 |brk=>exact q
 |cont=>exact q
def af(h1:PS X st t):yj X [st] t:=by
 intro a s e H D I h;refine yaG (bW (h1 a s e H D I h) λf i q=>?_);cases f with
 |next=>exact yaF q
 |ret v=>exact q
 |brk=>exact q
 |cont=>exact q
def Inv.quiet(I:Inv X pins d H s):interactive X.env=false:=by simp[interactive,I.ok.kind]
def MS(te:TE):TS:=λD a H=>te a H λ_ e=>D.nx a e
def aU(n:PE X e te)(m:autoParam (yat e none pos.line X.env=pure false) r0):PS X (.Expr e pos) (MS te):=by
 intro a s j H D I h;refine wpAny_Expr_any (bW (n a s j H _ I h) λv y i=>?_) I.quiet m;let⟨x,q,o,C,l⟩:=i;refine⟨j,q,o,l⟩
def Sg(te:TE):TS:=λD a H=>te a H D.rt
def aG(n:PE X e te):PS X (.Return (some e) pos) (Sg te):=by
 intro a s j H D I h;refine wpAny_Return_some (bW (n a s j H _ I h) λv y i=>?_);let⟨x,q,o,l,m⟩:=i;refine⟨x,j,q,o,l,m⟩
def Sm(c:TT)(t u:TS):TS:=λD a H=>c a H λb e=>if b=true then t D a e else u D a e
def aR(v:PT X c r)(y:yj X g t)(x:yj X k u):PS X (.If c g k pos) (Sm r t u):=by
 intro e s i H D I h;refine wpAny_If (bW (v e s i H _ I h) λd m j=>?_);let⟨q,o,n⟩:=j;cases d with
 |true=>exact y e m i q D o n
 |false=>exact x e m i q D o n
def Ou:TS:=λ_ _ _=>False
def fF:PS X st Ou:=λ_ _ _ _ _ _ h=>h.elim
end
abbrev TG:=V->St->Hp->(St->Hp->Prop)->Prop
abbrev Mu:=List V->St->Hp->(St->Hp->Prop)->Prop
def PG(X:Cx)(a:Expr)(t:TG):Prop:=
 ∀(e:List (Addr×Obj))(s:yah)(i:St)(H:Hp)(v:V)(u:yai)(Q:St->Hp->Prop),Inv X e i H s->RelV v u->t v i H Q->
  yar (model X.prog X.w) X.A (assign a X.env u) (λ_ l=>∃h j,Inv X e h j l/\Q h j) X.xe s
def RI(X:Cx)(ts:List Expr)(t:Mu):Prop:=
 ∀(a:List (Addr×Obj))(s:yah)(h:St)(H:Hp)(vs:List V)(i:List yai)(Q:St->Hp->Prop),Inv X a h H s->Vals vs i->t vs h H Q->
  yar (model X.prog X.w) X.A (assignInOrder ((assignEach ts X.env).map (·.2)) i) (λ_ l=>∃e j,Inv X a e j l/\Q e j) X.xe s
abbrev Vw:=V->V->Hp->VK->Prop
def W0(X:Cx)(op:Operator)(t:Vw):Prop:=
 ∀(a:List (Addr×Obj))(s:yah)(e:St)(H:Hp)(x y:V)(v u:yai)(Q:VK),Inv X a e H s->RelV x v->RelV y u->t x y H Q->
  yar (model X.prog X.w) X.A (inplaceOp op v u) (EP X a e Q) X.xe s
def B6(i:Nat):TG:=λv a H Q=>Q (a.set i (some v)) H
def fj(m:X.N.Nodup)(j:X.N[i]? =some x)(e:Loc X.env.scope x)(l:X.fn x=true∨X.env.scope.names.lookup x=some .local:=by first|exact .inl rfl|exact .inr rfl|assumption):PG X (.Name x pos) (B6 i):=by
 intro a s o H v u Q I r h;exact wpAny_assign_Name (kG I m j e r (λq n=>⟨_,H,n,h⟩) l)
def Uj:Mu:=λvs a H Q=>vs=[]/\Q a H
def Nx(t:TG)(u:Mu):Mu:=λvs e H Q=>∃v r,vs=v::r/\t v e H λa h=>u r a h Q
def fV:RI X [] Uj:=by
 intro a s i H vs j Q I r h;let⟨e,h⟩:=h;exact assignInOrder_nil ⟨i,H,I,h⟩
def br(h1:PG X e g)(h2:RI X d k)(n:autoParam ((assignEach (e::d) X.env).map (·.2)=assign e X.env::(assignEach d X.env).map (·.2)) r0):RI X (e::d) (Nx g k):=by
 intro a s j H vs C Q I r h;let⟨v,y,o,h⟩:=h;subst o;cases r with
 |cons r rr=>
  rw[n];refine assignInOrder_cons (bW (h1 a s j H _ _ _ I r h) λ_ l ⟨i,x,q,m⟩=>?_);exact h2 a l i x _ _ Q q rr m
def Ui(K:yaI)(n:Nat)(t:Mu):TG:=λv h H Q=>∃a e,v=.ref a/\eS K H a e/\e.length=n/\t e h H Q
def iQ(L:X.calm=true)(h:RI X d g)(F:autoParam ((assignEach d X.env).length=n) r0)(j:autoParam ((assignEach d X.env).findIdx? (·.1)=none) r0):PG X (.Tuple d k pos) (Ui X.K n g):=by
 intro i s l H v u Q I r hw;let⟨a,q,P,E,G,hw⟩:=hw;subst P;cases r;let⟨x,m,C,hz⟩:=I.tuple E;refine assign_Tuple_tuple (I.ok.hd L) C (by simp[F,<-G,m.length]) j λO y=>?_;have S:Inv X i l H {s with heap:=O}:=I.kept λb o e=>y b o (zcE (zcP e)) e;exact h i _ l H q _ Q S (by simpa using m) hw
def J9(e:TE)(g:TG):TS:=λD a H=>e a H λx h=>g x a h D.nx
def zA(y:PE X e d)(u:PG X tg g)(t:autoParam (swapsWithSole [tg] e pos.line X.env=pure false) r0)(hw:autoParam (swappedStores [tg] e X.env=pure none) r0)(h1:autoParam ((assignEach [tg] X.env).map (·.2)=[assign tg X.env]) r0):PS X (.Assign [tg] e pos) (J9 d g):=by
 intro a s j H D I h;refine wpAny_Assign_stores (bW (y a s j H _ I h) λv m i=>?_) t hw;let⟨x,E,C,n,o⟩:=i;rw[h1];exact bW (u a m j E x v _ C n o) λ_ F q=>q
def zy(F:X.N.Nodup)(u:X.N[i]? =some x)(q:Loc X.env.scope x)(E:PE X e d)(t:autoParam (yat e (some (.Name x pos')) pos.line X.env=pure false) r0)(C:X.fn x=true∨X.env.scope.names.lookup x=some .local:=by first|exact .inl rfl|exact .inr rfl|assumption):
  PS X (.Assign [.Name x pos'] e pos) (J9 d (B6 i)):=by
 intro a s m H D I h;refine wpAny_Assign_Name (bW (E a s m H _ I h) λv Q j=>?_) t;let⟨y,O,L,n,o⟩:=j;exact kG L F u q n (λP G=>⟨_,O,G,o⟩) C
def VH(i:Nat)(e:TE)(ti:Vw):TS:=λD a H=>∃x,a[i]? =some (some x)/\e a H λy j=>ti x y j λz h=>D.nx (a.set i (some z)) h
def PJ(hN:X.N.Nodup)(L:X.N[i]? =some x)(E:Loc X.env.scope x)(he:PE X e d)(U:W0 X op ti)(hf:X.fn x=true∨X.env.scope.names.lookup x=some .local:=by first|exact .inl rfl|exact .inr rfl|assumption):
  PS X (.AugAssign (.Name x pos') op e pos) (VH i d ti):=by
 intro a s F H D I h;let⟨v,e1,h⟩:=h;let⟨m,W,Z⟩:=I.loc;have C:Vu X.env.scope x:=by obtain k|k:=E;exact .inl k;exact .inr (.inl k)
 let⟨u,r,l⟩:=Z i x v L e1 C;refine wpAny_AugAssign_Name ?_;have go:yar (model X.prog X.w) X.A (eval e X.env) (λw t=>yar (model X.prog X.w) X.A (inplaceOp op u w) (λr q=>yar (model X.prog X.w) X.A (storeName X.env x r) (λ_=>SP X a D .next) X.xe q) X.xe t) X.xe s:=by
  refine bW (he a s F H _ I h) λw O n=>?_;let⟨y,H1,I1,Q,S⟩:=n;refine bW (U a O F H1 v y u w _ I1 r Q S) λz s2 n=>?_;let⟨zv,H2,I2,P,q2⟩:=n;exact kG I2 hN L E P (λs3 I3=>⟨_,H2,I3,q2⟩) hf
 rcases l with⟨j,Y⟩|⟨j,c,hc,o⟩
 ·exact wpAny_loadName_local I.ok.kind j W Y go
 ·obtain j|j:=j
  ·exact wpAny_loadName_cell I.ok.kind j hc o go
  ·obtain k|k:=E
   ·have:X.env.scope.names.lookup x=some .free:=j;rw[k] at this;cases this
   ·have:X.env.scope.names.lookup x=some .free:=j;rw[k] at this;cases this
def ipI(f:Int->Int->Int):Vw:=λx y H Q=>∃i j,x=.int i/\y=.int j/\Q (.int (f i j)) H
def Qx:W0 X .Add (ipI λi j=>i+j):=by
 intro a s o H x y v u Q I l e h;let⟨i,j,n,m,q⟩:=h;subst n;subst m;let⟨t,rfl⟩:=l;let⟨C,rfl⟩:=e;exact iadd_int ⟨.int _,H,I.tok _,⟨_,rfl⟩,q⟩
def EU(c:TT)(l:TS):TS:=λD a H=>∃W:Nat->St->Hp->Prop,(∃m,W m a H)/\∀m a H,W m a H->
 c a H λb i=>if b=true then∃N:St->Hp->Prop,(∀e j,N e j->∃h,h<m/\W h e j)/\l {D with nx:=N,ct:=N,bk:=D.nx} a i else D.nx a i
def kR(C:PassesOwn (model X.prog X.w) X.A X.env X.xe)(hc:PT X c d)(hb:yj X body g):PS X (.While c body [] pos) (EU d g):=by
 intro e s P H D I h;obtain⟨W,⟨m0,S⟩,turn⟩:=h;refine wpAny_While (codeAny_whileLoop (λn Z=>∃j O,Inv X e j O Z/\W n j O) ?_ m0 ⟨P,H,I,S⟩);intro n Y z;let⟨i,L,I1,Q⟩:=z;refine wpAny_passesOwn C (bW (hc e Y i L _ I1 (turn n i L Q)) λb U m=>?_);let⟨G,F,q2⟩:=m;cases b with
 |true=>
  let⟨N,E,q2⟩:=q2;refine wpAny_passesOwn C (bW (hb e U i G _ F q2) λf s3 q3=>?_);cases f with
  |next=>
   let⟨a,l,u,o⟩:=q3;let⟨q,t,w3⟩:=E a l o;refine⟨q,t,a,l,u,w3⟩
  |cont=>
   let⟨a,l,u,o⟩:=q3;let⟨q,t,w3⟩:=E a l o;refine⟨q,t,a,l,u,w3⟩
  |brk=>exact q3
  |ret v=>exact q3
 |false=>
  exact yaF ⟨i,G,F,q2⟩
structure It where
 go:Nat->Hp->Prop
 EJ:Nat->Hp->V->Hp->Prop
 stop:Nat->Hp->Prop
def nH(X:Cx)(a:List (Addr×Obj))(H:Hp)(b:Addr):Prop:=
 H b=none/\b≠X.env.locals/\b ∉ X.fs/\(b∈X.ex∨X.s₀.heap.objs.size<=b)/\(∀x c,X.env.cells.lookup x=some c->c≠b)/\∀p∈X.pn++a,p.1≠b
def Inv.vc(I:Inv X pins d H s)(a:s.heap.objs.size<=b)(j:H' b=none):nH X pins H' b:=by
 refine⟨j,zcH (zaY I.lt a),I.TX a,.inr (zcF I.sz a),λx c e z=>?_,λp i z=>absurd (zaY (zcP (I.pin p i).1) (by simp_all)) (zcu _)⟩
 ·let⟨v,q⟩:=I.cell x c e;exact absurd (zaY q.lt (by simp_all)) (zcu _)
structure Turn(P:yaj)(w:yak)(K:yaI)(tg:Expr)(J:It)(fp:List Addr)(it:Addr)(tn:Nat->Heap->Prop):Prop where
 mem:it∈fp
 obj:∀i h,tn i h->∀b∈fp,∃o,h.get? b=some o/\∀v,o.data≠ .cell v
 keep:∀i h h',tn i h->(∀b∈fp,∀o,h.get? b=some o->h'.get? b=some o)->tn i h'
 item:∀(X:Cx),X.prog=P->X.w=w->X.K=K->X.calm=true->∀(i:Nat)(pins:List (Addr×Obj))(s:yah)(σ:St)(H:Hp)(E:yai->yah->Prop),Inv X pins σ H s->(∀b∈fp,nH X pins H b)->tn i s.heap->J.go i H->
  yar (model P w) X.A (pyNext (.ref it)) (λr s1=>∃u,r=some u/\yar (model P w) X.A (letOwnedTupleGo tg (.ref it) u) (λ_ s2=>∃x H',Inv X pins σ H' s2/\RelV x u/\J.EJ i H x H'/\tn (i+1) s2.heap/\∀b∈fp,H' b=none) E s1) E s
 done:∀(X:Cx),X.prog=P->X.w=w->X.K=K->X.calm=true->∀(i:Nat)(pins:List (Addr×Obj))(s:yah)(σ:St)(H:Hp)(E:yai->yah->Prop),Inv X pins σ H s->(∀b∈fp,nH X pins H b)->tn i s.heap->J.stop i H->
  yar (model P w) X.A (pyNext (.ref it)) (λr s1=>r=none/\Inv X pins σ H s1) E s
 self:∀(A:yal)(i:Nat)(s:yah)(Q:yai->yah->Prop)(E:yai->yah->Prop),tn i s.heap->Q (.ref it) s->yar (model P w) A (pyIter (.ref it)) Q E s
abbrev TI:=St->Hp->(It->Hp->Prop)->Prop
def WG(X:Cx)(a:List (Addr×Obj))(l:St)(m:Expr)(R:It->Hp->Prop)(e:yai)(i:yah):Prop:=
 ∃(it:Addr)(j:List Addr)(tn:Nat->Heap->Prop)(J:It)(h:Hp),e=.ref it/\Inv X a l h i/\Turn X.prog X.w X.K m J j it tn/\tn 0 i.heap/\(∀b∈j,nH X a h b)/\R J h
def PI(X:Cx)(j e:Expr)(i:TI):Prop:=
 ∀(a:List (Addr×Obj))(s:yah)(h:St)(H:Hp)(R:It->Hp->Prop),Inv X a h H s->i h H R->
  yar (model X.prog X.w) X.A (eval e X.env) (λv l=>yar (model X.prog X.w) X.A (pyIter v) (WG X a h j R) X.xe l) X.xe s
def xD(e:s.heap.get? it=some o)(j:o.cls=.type d)(hd:o.data=.fields vs)(i:["enumerate","zip","dict_itemiterator","dict_reverseitemiterator","odict_iterator","itertools.zip_longest","itertools.pairwise"].contains d=false)(a:g () s):yar M A (letOwnedTupleGo tg (.ref it) u) g E s:=by
 cases tg<;>first
  |exact yab a
  |(cases u<;>first|exact yab a|(refine yaa (wpAny_load e ?_);rw[j,hd];show yar M A (if(["enumerate","zip","dict_itemiterator","dict_reverseitemiterator","odict_iterator","itertools.zip_longest","itertools.pairwise"].contains d&&vs[0]? ==some (rawInt _))=true then _ else _) g E s;rw[yIn (by lia)];exact yab a))
noncomputable def U7(K:yaI)(a:Addr):It:=
 ⟨λi H=>∃e x,dS K H a e/\e[i]? =some x,λi H x h=>h=H/\∀e,dS K H a e->e[i]? =some x,λi H=>∃e,dS K H a e/\e.length<=i⟩
noncomputable def Vz(K:yaI)(a:Addr):It:=
 ⟨λi H=>∃e x,eS K H a e/\e[i]? =some x,λi H x h=>h=H/\∀e,eS K H a e->e[i]? =some x,λi H=>∃e,eS K H a e/\e.length<=i⟩
noncomputable def VB(lo:Int)(n:Nat):It:=⟨λi _=>i<n,λi H x a=>a=H/\x=.int (lo+i),λi _=>n<=i⟩
def Dc(a it:Addr):Turn P w K tg (U7 K a) [it] it (λi h=>h.IsListIter it a i) where
 mem:=by simp
 obj:=λi h j b m=>by
  have e:b=it:=by simp_all
  subst e;let⟨o,e,c,d⟩:=j;refine⟨o,e,λv z=>by simp_all⟩
 keep:=λi h y j k=>j.at λo e=>k it (by simp) o e
 item:=by
  intro X O hw Q hc i l s σ H E I t j L;subst O hw Q;let⟨xs,x,q,G⟩:=L;let⟨F,C,p,hz⟩:=I.list q;let⟨u,hu,ru⟩:=C.get G;let⟨Z,Y,f2,W,U,S⟩:=t it (by simp);refine wpAny_pyNext_list_item j p.isList (x:=u) (by simp_all) λy n sb=>?_;have I1:Inv X l σ H {s with heap:=y}:=I.turned (λb o m e=>(sb.2 b m).trans e) Z Y W U S;let⟨o,e,c,d⟩:=id n;refine⟨u,rfl,xD e c d (by decide) ⟨x,H,I1,ru,⟨rfl,λys hy=>by rw[I.Hu hy q];exact G⟩,n,λb m=>(t b m).1⟩⟩
 done:=by
  intro X O hw Q hc i l s σ H E I t j L;subst O hw Q;let⟨xs,q,G⟩:=L;let⟨F,C,p,hz⟩:=I.list q;let⟨Z,Y,f2,W,U,S⟩:=t it (by simp);have hl:=C.length;exact wpAny_pyNext_list_end (I.ok.hd hc) j p.isList (by simp;lia) λy eb=>⟨rfl,I.turned (λb o m e=>eb b o m e) Z Y W U S⟩
 self:=λ_ _ _ _ _ j h=>wpAny_pyIter_listiter j h
def yL(a it:Addr):Turn P w K tg (Vz K a) [it] it (λi h=>h.IsTupleIter it a i) where
 mem:=by simp
 obj:=λi h j b n=>by
  have e:b=it:=by simp_all
  subst e;let⟨o,e,c,d⟩:=j;refine⟨o,e,λv z=>by simp_all⟩
 keep:=λi h C j k=>j.at λo e=>k it (by simp) o e
 item:=by
  intro X O hw Q hc i l s σ H E I y j L;subst O hw Q;let⟨xs,x,t,G⟩:=L;let⟨m,F,p,hz⟩:=I.tuple t;let⟨u,hu,ru⟩:=F.get G;let⟨Z,Y,f2,W,U,S⟩:=y it (by simp);refine wpAny_pyNext_tuple_item j (show s.heap.IsTuple a m.toArray from p) (x:=u) (by simp_all) λC q sb=>?_;have I1:Inv X l σ H {s with heap:=C}:=I.turned (λb o n e=>(sb.2 b n).trans e) Z Y W U S;let⟨o,e,c,d⟩:=id q;refine⟨u,rfl,xD e c d (by decide) ⟨x,H,I1,ru,⟨rfl,λys hy=>by rw[I.De hy t];exact G⟩,q,λb n=>(y b n).1⟩⟩
 done:=by
  intro X O hw Q hc i l s σ H E I y j L;subst O hw Q;let⟨xs,t,G⟩:=L;let⟨m,F,p,hz⟩:=I.tuple t;let⟨Z,Y,f2,W,U,S⟩:=y it (by simp);have hl:=F.length;exact wpAny_pyNext_tuple_end (I.ok.hd hc) j (show s.heap.IsTuple a m.toArray from p) (by simp;lia) λC eb=>⟨rfl,I.turned (λb o n e=>eb b o n e) Z Y W U S⟩
 self:=λ_ _ _ _ _ j h=>wpAny_pyIter_tupleiter j h
def yM(it:Addr)(lo:Int)(n:Nat):Turn P w K tg (VB lo n) [it] it (λi h=>IsRangeIter h it (lo+(i:Nat)*1) ((n:Int) - (i:Nat)) 1) where
 mem:=by simp
 obj:=λi h a b l=>by
  have e:b=it:=by simp_all
  subst e;refine⟨_,a,λv z=>by
   simp_all⟩
 keep:=λi h u a k=>k it (by simp) _ a
 item:=by
  intro X C hw F y i j s U H E I q a x;subst C hw F;let⟨S,Q,f2,O,L,G⟩:=q it (by simp);have W:=Walks.range (prog:=X.prog) (w:=X.w) (I.ok.hd y) it lo 1 n;refine W.item i s _ _ x a λv u Y hv m kk=>?_;let⟨t,rfl⟩:=hv;have I1:Inv X j U H {s with heap:=u,toks:=Y}:=I.turned (λb o l e=>kk b o (by simp_all) e) S Q O L G;refine⟨_,rfl,xD m rfl rfl (by decide) ⟨.int (lo+i),H,I1,⟨t,?_⟩,⟨rfl,rfl⟩,m,λb l=>(q b l).1⟩⟩;simp
 done:=by
  intro X C hw F y i j s U H E I q a x;let⟨S,Q,f2,O,L,G⟩:=q it (by simp);exact wpAny_pyNext_range_end (I.ok.hd y) a (by have:n<=i:=x;lia) λu eb=>⟨rfl,I.turned (λb o l e=>eb b o l e) S Q O L G⟩
 self:=λ_ _ _ _ _ a h=>wpAny_pyIter_rangeiter a h
def wC(I:Inv X pins d H s)(h1: -(2 ^ 62)<=g)(h2:g<2 ^ 62)(m: -(2 ^ 62)<=k)(l:k<2 ^ 62)(q:R (VB g (k - g).toNat) H):yar (model X.prog X.w) X.A (pyIter (.ref s.heap.objs.size)) (WG X pins d tg R) E {s with heap:=s.heap.push {cls:=.type "range",data:=.fields #[.int g r,.int k w,.int 1 z]},toks:=tk}:=by
 refine wpAny_pyIter_range (IsRange.new ..) (small_one h1 h2 m l) ?_;have i:Inv X pins d H {s with heap:=s.heap.push {cls:=.type "range",data:=.fields #[.int g r,.int k w,.int 1 z]},toks:=tk}:=I.kept λb o e=>zas _ e;refine⟨(s.heap.push {cls:=.type "range",data:=.fields #[.int g r,.int k w,.int 1 z]}).objs.size,[(s.heap.push {cls:=.type "range",data:=.fields #[.int g r,.int k w,.int 1 z]}).objs.size],_,_,H,rfl,i.kept λb o e=>zas _ e,yM _ g (k - g).toNat,?_,λb j=>?_,q⟩
 ·have x:g+((0:Nat):Int)*1=g:=by simp
  have n:(((k - g).toNat:Nat):Int) - ((0:Nat):Int)=Builtin.Range.rangeSize g k 1:=by rw[rangeSize_one];split<;>lia
  rw[x,n];exact zaO _ rfl
 ·have e:b=(s.heap.push {cls:=.type "range",data:=.fields #[.int g r,.int k w,.int 1 z]}).objs.size:=by simp_all
  subst e;exact i.vc (zcS _) (i.hok.fresh (zcS _))
def Nq(e:TA):TI:=λa H R=>e a H λvs h=>∃j:Int,vs=[.int j]/\-(2 ^ 62)<=j/\j<2 ^ 62/\R (VB 0 j.toNat) h
def qz(e:TA):TI:=λa H R=>e a H λvs h=>∃i j:Int,vs=[.int i,.int j]/\(-(2 ^ 62)<=i/\i<2 ^ 62/\-(2 ^ 62)<=j/\j<2 ^ 62)/\R (VB i (j - i).toNat) h
def bR(y:Gl X "range")(x:X.mg "range"=none)(C:PA X [d] g)(v:autoParam (yao [d] X.env=[(false,eval d X.env)]) r0):PI X tg (.Call (.Name "range" p) [d] [] pos) (Nq g):=by
 intro i s o H R I h;refine Call_ (dH I y x boot_range (PyProof.Rows.callWith_type1 (bW (C pos i s o H _ I h) λF G l=>?_) v rfl));let⟨vs,L,E,u,m⟩:=l;let⟨j,e,m,q2,q⟩:=m;subst e;cases u with
 |cons r rr=>
  cases rr;let⟨t,rfl⟩:=r;exact call_range_1 (wC E (by lia) (by lia) m q2 (by simpa using q))
theorem jz(E:Gl X "range")(C:X.mg "range"=none)(F:PA X [d,g] k)(y:autoParam (yao [d,g] X.env=[(false,eval d X.env),(false,eval g X.env)]) r0)(m:autoParam (yao [g] X.env=[(false,eval g X.env)]) r0):
  PI X tg (.Call (.Name "range" p) [d,g] [] pos) (qz k):=by
 intro l s v H R I h;refine Call_ (dH I E C boot_range (PyProof.Rows.callWith_type1 (bW (F pos l s v H _ I h) λL P n=>?_) (by rw[y,m]) (by rw[m];rfl)));let⟨vs,Q,G,x,o⟩:=n;obtain⟨i,j,e,⟨o,q2,q3,q4⟩,q⟩:=o;subst e;cases x with
 |cons r rr=>
  cases rr with
  |cons r' rr=>
   cases rr;let⟨t,rfl⟩:=r;let⟨O,rfl⟩:=r';exact call_range_2 (wC G o q2 q3 q4 q)
def Sn(n:TI)(g:TG)(o:TS):TS:=λD a H=>n a H λJ s=>∃W:Nat->Nat->St->Hp->Prop,(∃m,W 0 m a s)/\∀i m a H,W i m a H->
 (J.stop i H/\D.nx a H)∨(J.go i H/\∃N:St->Hp->Prop,(∀e h,N e h->∃l,l<m/\W (i+1) l e h)/\∀x h,J.EJ i H x h->g x a h λj q=>o {D with nx:=N,ct:=N,bk:=D.nx} j q)
noncomputable def j8(fp:List Addr)(h:Heap):List (Addr×Obj):=fp.filterMap λb=>(h.get? b).map λo=>(b,o)
def gU(a:b∈fp)(e:h.get? b=some o):(b,o)∈j8 fp h:=zaQ.mpr ⟨b,a,by rw[e];rfl⟩
def DG(a:d∈j8 fp h):d.1∈fp/\h.get? d.1=some d.2:=by
 let⟨b,i,e⟩:=zaQ.mp a;cases q:h.get? b with
 |none=>simp_all
 |some o=>
  grind
def Inv.pinned(I:Inv X pins g H s)(m:∀b∈fp,nH X pins H b)(l:∀b∈fp,∃o,s.heap.get? b=some o/\∀v,o.data≠ .cell v):Inv X (pins++j8 fp s.heap) g H s:=
 I.kW λp j=>(zbQ.mp j).elim (λz=>I.pin p (zau _ z)) λz=>by
  let⟨h,e⟩:=DG z;let⟨t,q,n,_⟩:=m p.1 h;let⟨o,i,d⟩:=l p.1 h;rw[e] at i;cases i;refine⟨e,t,q,n,d⟩
def Inv.gp(I:Inv X (pins++pl) d H s):Inv X pins d H s:=I.kW λp e=>I.pin p (zau _ (zaA _ e))
def bC(S:PassesOwn (model X.prog X.w) X.A X.env X.xe)(hc:X.calm=true)(hi:PI X tg iter wi)(hg:PG X tg g)(y:yj X body tb)(hs:∀x,foldedSetIterable iter X.env x=pure x:=by intro _;rfl):PS X (.For tg iter body [] pos) (Sn wi g tb):=by
 intro j s σ H D I h;refine wpAny_For (bW (hi j s σ H _ I h) λv s1 h1=>bW h1 λitv s2 h2=>?_) hs;let⟨it,Y,tn,J,H2,e,I2,T,st2,f2,W,⟨m0,w0⟩,turn⟩:=h2;subst e;have Ox:∀{G:Hp},(∀b∈Y,G b=none)->∀b∈Y,nH X j G b:=λhn b y=>⟨hn b y,(f2 b y).2⟩
 refine codeAny_forLoop_any (λn s'=>∃i t G,Inv X j t G s'/\tn i s'.heap/\(∀b∈Y,G b=none)/\W i n t G) ?_ m0 ⟨0,σ,H2,I2,st2,λb y=>(f2 b y).1,w0⟩;intro n s3 z;let⟨i,q,Z,I3,P,U,w3⟩:=z;rcases turn i n q Z w3 with⟨stop,qn⟩|⟨go,N,hN,step⟩
 ·refine wpAny_passesOwn S (bW (T.done X rfl rfl rfl hc i j s3 q Z X.xe I3 (Ox U) P stop) λr s4 l=>?_);let⟨hr,I4⟩:=l;subst hr;exact yaF ⟨q,Z,I4,qn⟩
 ·refine wpAny_passesOwn S (bW (T.item X rfl rfl rfl hc i j s3 q Z X.xe I3 (Ox U) P go) λr s4 l=>?_);let⟨u,hr,h4⟩:=l;subst hr;refine wpAny_passesOwn S (bW h4 λ_ s5 l=>?_);let⟨x,H5,I5,r5,y5,O,fr5⟩:=l;refine wpAny_passesOwn S (bW (hg _ s5 q H5 x u _ (I5.pinned (Ox fr5) (T.obj _ _ O)) r5 (step x H5 y5)) λ_ s6 l=>?_);let⟨σ6,H6,I6,q6⟩:=l;refine wpAny_passesOwn S (bW (y _ s6 σ6 H6 _ I6 q6) λf s7 L=>?_);have C:∀{a:St}{F:Hp},Inv X (j++j8 Y s5.heap) a F s7->N a F->∃m,m<n/\∃i t G,Inv X j t G s7/\tn i s7.heap/\(∀b∈Y,G b=none)/\W i m t G:=λ{a F} E Q=>by
   let⟨m',hm,w7⟩:=hN a F Q;refine⟨m',hm,i+1,a,F,E.gp,T.keep _ _ _ O λb y o e=>(E.pin (b,o) (zau _ (zau _ (gU y e)))).1,λb y=>?_,w7⟩;let⟨o,e,d⟩:=T.obj _ _ O b y;exact(E.pin (b,o) (zau _ (zau _ (gU y e)))).2.1
  cases f with
  |next=>let⟨a,F,E,Q⟩:=L;exact C E Q
  |cont=>let⟨a,F,E,Q⟩:=L;exact C E Q
  |brk=>let⟨a,F,E,L⟩:=L;refine⟨a,F,E.gp,L⟩
  |ret v=>let⟨x7,a,F,E,r7,L⟩:=L;refine⟨x7,a,F,E.gp,r7,L⟩
abbrev R2:=V->V->Hp->VK->Prop
def iy(X:Cx)(f:yai->yai->Sem yai)(r:R2):Prop:=
 ∀(a:List (Addr×Obj))(s:yah)(e:St)(H:Hp)(x y:V)(v u:yai)(Q:VK),Inv X a e H s->RelV x v->RelV y u->r x y H Q->
  yar (model X.prog X.w) X.A (f v u) (EP X a e Q) X.xe s
def RY(X:Cx)(f:yai->Sem yai)(r:V->Hp->VK->Prop):Prop:=
 ∀(a:List (Addr×Obj))(s:yah)(e:St)(H:Hp)(x:V)(v:yai)(Q:VK),Inv X a e H s->RelV x v->r x H Q->
  yar (model X.prog X.w) X.A (f v) (EP X a e Q) X.xe s
def b5(X:Cx)(f:yai)(r:List V->Hp->VK->Prop):Prop:=
 ∀(a:List (Addr×Obj))(s:yah)(e:St)(H:Hp)(h:List V)(i:List yai)(Q:VK),Inv X a e H s->Vals h i->r h H Q->
  yar (model X.prog X.w) X.A (call f i) (EP X a e Q) X.xe s
def Wy(X:Cx)(r:V->Hp->(Bool->Hp->Prop)->Prop):Prop:=
 ∀(a:List (Addr×Obj))(s:yah)(e:St)(H:Hp)(x:V)(v:yai)(Q:Bool->Hp->Prop),Inv X a e H s->RelV x v->r x H Q->
  yar (model X.prog X.w) X.A (truthy v) (TP X a e Q) X.xe s
def Si(r:R2)(h e:TE):TE:=λa H Q=>h a H λx j=>e a j λy i=>r x y i Q
def WM(r:V->Hp->VK->Prop)(e:TE):TE:=λa H Q=>e a H λx h=>r x h Q
def rI(C:Int->Int->Prop)(g:Int->Int->V):R2:=λx y H Q=>∃i j,x=.int i/\y=.int j/\C i j/\Q (g i j) H
def Nf(g:Int->Int->V):R2:=λx y H Q=>∃i j,x=.int i/\y=.int j/\Q (g i j) H
def rU(g:Int->V):V->Hp->VK->Prop:=λx H Q=>∃i,x=.int i/\Q (g i) H
section
variable {a b:Expr}{ta tb tc:TE}
def Rh(G:PE X a ta)(F:PE X b tb){R:V->V->Hp->Prop}(I:Inv X pins d H s)(h:ta d H λx n=>tb d n λy i=>R x y i){f:yai->yai->Sem yai}(E:∀v u m x y i,Inv X pins d i m->RelV x v->RelV y u->R x y i->yar (model X.prog X.w) X.A (f v u) Q X.xe m):
  yar (model X.prog X.w) X.A (eval a X.env) (λv l=>yar (model X.prog X.w) X.A (eval b X.env) (λu j=>yar (model X.prog X.w) X.A (f v u) Q X.xe j) X.xe l) X.xe s:=by
 refine bW (G pins s d H _ I h) λv o ⟨x,n,O,t,C⟩=>?_;refine bW (F pins o d n _ O C) λu m ⟨y,i,L,q,q2⟩=>?_;exact E v u m x y i L t q q2
def aK(n:iy X (binaryOp op) r)(t:PE X a ta)(o:PE X b tb):PE X (.BinOp a op b pos) (Si r ta tb):=by
 intro e s i H Q I h;exact wpAny_BinOp (Rh t o I h λv u j x y E C m l q=>n e j i E x y v u Q C m l q)
def BH(o:RY X (unaryOp op) r)(q:PE X a ta):PE X (.UnaryOp op a pos) (WM r ta):=by
 intro e s j H Q I h;refine UnaryOp_ (bW (q e s j H _ I h) λv l i=>?_);let⟨x,u,t,m,n⟩:=i;exact o e l j u x v Q t m n
def Vl{g:Int->Int->Int}(e:∀(i j:Int)(t u:Tok)(s:yah)(Q:yai->yah->Prop)(E:yai->yah->Prop),k i j->Q (.int (g i j) s.toks) {s with toks:=s.toks+1}->yar (model X.prog X.w) X.A (d (.int i t) (.int j u)) Q E s):
  iy X d (rI k λi j=>.int (g i j)):=by
 intro l s G H x y v u Q I o n h;let⟨i,j,rfl,rfl,F,q⟩:=h;let⟨t,rfl⟩:=o;let⟨m,rfl⟩:=n;exact e i j t m s _ _ F ⟨.int (g i j),H,I.tok _,⟨_,rfl⟩,q⟩
def TJ{g:Int->Int->Int}(e:∀(i j:Int)(t u:Tok)(s:yah)(Q:yai->yah->Prop)(E:yai->yah->Prop),Q (.int (g i j) s.toks) {s with toks:=s.toks+1}->yar (model X.prog X.w) X.A (d (.int i t) (.int j u)) Q E s):
  iy X d (Nf λi j=>.int (g i j)):=by
 intro l s C H x y v u Q I o n h;let⟨i,j,rfl,rfl,q⟩:=h;let⟨t,rfl⟩:=o;let⟨m,rfl⟩:=n;exact e i j t m s _ _ ⟨.int (g i j),H,I.tok _,⟨_,rfl⟩,q⟩
def P8{g:Int->Int->Bool}(e:∀(i j:Int)(t u:Tok)(s:yah)(Q:yai->yah->Prop)(E:yai->yah->Prop),Q (.bool (g i j)) s->yar (model X.prog X.w) X.A (d (.int i t) (.int j u)) Q E s):
  iy X d (Nf λi j=>.bl (g i j)):=by
 intro l s C H x y v u Q I o n h;let⟨i,j,rfl,rfl,q⟩:=h;let⟨t,rfl⟩:=o;let⟨m,rfl⟩:=n;exact e i j t m s _ _ ⟨.bl (g i j),H,I,rfl,q⟩
def Vc(i j:Int):Prop:=0<j/\j<1073741824
def Vb(i j:Int):Prop:=0<=j/\j<=1000000/\i.natAbs<2 ^ 64
def JO(i j:Int):Prop:=(-(2 ^ 64)<i/\i<2 ^ 64)∨(-(2 ^ 64)<j/\j<2 ^ 64)
def JO.ok(h:JO d g):IntMulOk d g:=by
 rcases h with⟨h1,h2⟩|⟨h1,h2⟩
 ·exact .of_left (intBits_le_64 h1 h2)
 ·exact .of_right (intBits_le_64 h1 h2)
def P7:iy X (binaryOp .Add) (Nf λi j=>.int (i+j)):=TJ λ_ _ _ _ _ _ _ q=>add_int q
def PR:iy X (binaryOp .Sub) (Nf λi j=>.int (i - j)):=TJ λ_ _ _ _ _ _ _ q=>sub_int q
def PY:iy X (binaryOp .Mult) (rI JO λi j=>.int (i*j)):=Vl λ_ _ _ _ _ _ _ e q=>mul_int q e.ok
def Lc:iy X (binaryOp .FloorDiv) (rI Vc λi j=>.int (i / j)):=Vl λi j _ _ _ _ _ e q=>by
 have h1:=e.1;have h2:=e.2;exact floordiv_int (by lia) (by rw[Int.fdiv_eq_ediv_of_nonneg i (by lia)];exact q) (.inl (PyProof.noPylong_small (by omega)))
def PZ:iy X (binaryOp .Mod) (rI (λ_ j=>0<j) λi j=>.int (i % j)):=Vl λi j _ _ _ _ _ e q=>by
 exact mod_int' (by lia) (by rw[Int.fmod_eq_emod_of_nonneg i (by lia)];exact q)
def PV:iy X (binaryOp .Pow) (rI Vb λi j=>.int (i ^ j.toNat)):=Vl λ_ _ _ _ _ _ _ e q=>pow_int_small e.1 e.2.1 e.2.2 q
def unI{g:Int->Int}(e:∀(i:Int)(t:Tok)(s:yah)(Q:yai->yah->Prop)(E:yai->yah->Prop),Q (.int (g i) s.toks) {s with toks:=s.toks+1}->yar (model X.prog X.w) X.A (d (.int i t)) Q E s):
  RY X d (rU λi=>.int (g i)):=by
 intro j s m H x v Q I l h;let⟨i,rfl,q⟩:=h;let⟨t,rfl⟩:=l;exact e i t s _ _ ⟨.int (g i),H,I.tok _,⟨_,rfl⟩,q⟩
def Oh:RY X (unaryOp .USub) (rU λi=>.int (-i)):=unI λ_ _ _ _ _ q=>neg_int q
end
noncomputable def Sx:V->V->Bool
 |.bx,.bx=>true|.bx,.int _=>true|.int _,.bx=>true|.bx,.bl _=>true|.bl _,.bx=>true|.bx,.str _=>true|.str _,.bx=>true
 |.int _,.int _=>true|.bl _,.bl _=>true|.str _,.str _=>true|.yG _,.yG _=>true
 |.int _,.str _=>true|.str _,.int _=>true|.bl _,.str _=>true|.str _,.bl _=>true
 |_,_=>false
def rEq:R2:=λx y H Q=>Sx x y=true/\Q (.bl (decide (x=y))) H
def rNe:R2:=λx y H Q=>Sx x y=true/\Q (.bl (!decide (x=y))) H
def Ci:decide (V.int d=V.int g)=(d==g):=by
 rw[Bool.eq_iff_iff];simp
def Ib:decide (V.bl d=V.bl g)=(d==g):=by
 rw[Bool.eq_iff_iff];simp
def Cg:decide (V.str d=V.str g)=(d==g):=by
 rw[Bool.eq_iff_iff];simp
def Cj:decide (V.yG d=V.yG g)=(d.toList==g.toList):=by
 rw[Bool.eq_iff_iff];simp
section
variable {a b:Expr}{ta tb tc:TE}
def aY(I:Inv X pins d H s)(q:g (.bl k) H)(e:k=o):EP X pins d g (.bool o) s:=by
 subst e;refine⟨.bl k,H,I,rfl,q⟩
def TH:iy X (yan .Eq) rEq:=by
 intro o s C H x y v u Q I n e h;let⟨m,q⟩:=h;cases x with
 |bx=>
  cases n;cases y with
  |bx=>cases e;exact PySem.EqNone.eq_none_none (aY I q (by simp))
  |bl j=>cases e;exact PySem.EqNone.eq_none_bool (aY I q (by simp))
  |int j=>let⟨l,rfl⟩:=e;exact PySem.EqNone.eq_none_int (aY I q (by simp))
  |str j=>let⟨l,rfl⟩:=e;exact PySem.EqNone.eq_none_str (aY I q (by simp))
  |_=>exact absurd (show false=true from m) zba
 |bl i=>
  cases n;cases y with
  |bx=>cases e;exact PySem.EqNone.eq_bool_none (aY I q (by simp))
  |bl j=>cases e;exact eq_bool (aY I q Ib)
  |str j=>let⟨l,rfl⟩:=e;exact PySem.EqMixed.eq_bool_str (aY I q (by simp))
  |_=>exact absurd (show false=true from m) zba
 |int i=>
  let⟨t,rfl⟩:=n;cases y with
  |bx=>cases e;exact PySem.EqNone.eq_int_none (aY I q (by simp))
  |int j=>let⟨l,rfl⟩:=e;exact eq_int (aY I q Ci)
  |str j=>let⟨l,rfl⟩:=e;exact PySem.EqMixed.eq_int_str (aY I q (by simp))
  |_=>exact absurd (show false=true from m) zba
 |str i=>
  let⟨t,rfl⟩:=n;cases y with
  |bx=>cases e;exact PySem.EqNone.eq_str_none (aY I q (by simp))
  |bl j=>cases e;exact PySem.EqMixed.eq_str_bool (aY I q (by simp))
  |int j=>let⟨l,rfl⟩:=e;exact PySem.EqMixed.eq_str_int (aY I q (by simp))
  |str j=>let⟨l,rfl⟩:=e;exact eq_str (aY I q Cg)
  |_=>exact absurd (show false=true from m) zba
 |yG i=>
  let⟨t,rfl⟩:=n;cases y with
  |yG j=>let⟨l,rfl⟩:=e;exact PySem.W.eq_bytes (aY I q Cj)
  |_=>exact absurd (show false=true from m) zba
 |_=>cases y<;>exact absurd (show false=true from m) zba
def Tv:iy X (yan .NotEq) rNe:=by
 intro o s C H x y v u Q I n e h;let⟨m,q⟩:=h;cases x with
 |bx=>
  cases n;cases y with
  |bx=>cases e;exact PySem.EqNone.ne_none_none (aY I q (by simp))
  |bl j=>cases e;exact PySem.EqNone.ne_none_bool (aY I q (by simp))
  |int j=>let⟨l,rfl⟩:=e;exact PySem.EqNone.ne_none_int (aY I q (by simp))
  |str j=>let⟨l,rfl⟩:=e;exact PySem.EqNone.ne_none_str (aY I q (by simp))
  |_=>exact absurd (show false=true from m) zba
 |bl i=>
  cases n;cases y with
  |bx=>cases e;exact PySem.EqNone.ne_bool_none (aY I q (by simp))
  |bl j=>cases e;exact ne_bool (aY I q (congrArg not Ib))
  |str j=>let⟨l,rfl⟩:=e;exact PySem.EqMixed.ne_bool_str (aY I q (by simp))
  |_=>exact absurd (show false=true from m) zba
 |int i=>
  let⟨t,rfl⟩:=n;cases y with
  |bx=>cases e;exact PySem.EqNone.ne_int_none (aY I q (by simp))
  |int j=>let⟨l,rfl⟩:=e;exact ne_int (aY I q (congrArg not Ci))
  |str j=>let⟨l,rfl⟩:=e;exact PySem.EqMixed.ne_int_str (aY I q (by simp))
  |_=>exact absurd (show false=true from m) zba
 |str i=>
  let⟨t,rfl⟩:=n;cases y with
  |bx=>cases e;exact PySem.EqNone.ne_str_none (aY I q (by simp))
  |bl j=>cases e;exact PySem.EqMixed.ne_str_bool (aY I q (by simp))
  |int j=>let⟨l,rfl⟩:=e;exact PySem.EqMixed.ne_str_int (aY I q (by simp))
  |str j=>let⟨l,rfl⟩:=e;exact ne_str (aY I q (congrArg not Cg))
  |_=>exact absurd (show false=true from m) zba
 |yG i=>
  let⟨t,rfl⟩:=n;cases y with
  |yG j=>let⟨l,rfl⟩:=e;exact PySem.W.ne_bytes (aY I q (congrArg not Cj))
  |_=>exact absurd (show false=true from m) zba
 |_=>cases y<;>exact absurd (show false=true from m) zba
def Tw:iy X (yan .Lt) (Nf λi j=>.bl (decide (i<j))):=P8 λ_ _ _ _ _ _ _ q=>lt_int q
def Tz:iy X (yan .Gt) (Nf λi j=>.bl (decide (j<i))):=P8 λ_ _ _ _ _ _ _ q=>gt_int q
def TF:iy X (yan .GtE) (Nf λi j=>.bl (decide (j<=i))):=P8 λ_ _ _ _ _ _ _ q=>ge_int q
def DE:iy X (yan .Lt) (λx y H Q=>∃i j,x=.str i/\y=.str j/\Q (.bl (decide (i.cps.toList<j.cps.toList))) H):=by
 intro e s n H x y v u Q I m l h;let⟨i,j,rfl,rfl,q⟩:=h;let⟨t,rfl⟩:=m;let⟨o,rfl⟩:=l;exact lt_str (aY I q rfl)
def aF(b:Expr)(h:autoParam (op≠ .In) r1)(h2:autoParam (op≠ .NotIn) r1):behindInMarks op b=false:=by
 have i:(op==CmpOp.In)=false:=by simp_all
 have e:(op==CmpOp.NotIn)=false:=by simp_all
 cases b<;>simp[behindInMarks,i,e]
def bq(n:iy X (yan op) r)(C:PE X a ta)(t:PE X b tb)(o:behindInMarks op b=false):PE X (.Compare a [op] [b] pos) (Si r ta tb):=by
 intro e s i H Q I h;exact wpAny_Compare1 (Rh C t I h λv u j x y F E m l q=>n e j i F x y v u Q E m l q) o
def Se(t:TE):TT:=λe H Q=>t e H λx h=>∃k,x=.bl k/\Q k h
def az(G:iy X (yan op) r)(P:PE X a ta)(O:PE X b tb)(L:behindInMarks op b=false):PT X (.Compare a [op] [b] pos) (Se (Si r ta tb)):=by
 intro i s j H Q I h;refine wpAny_isTrue_Compare1 (bW (P i s j H _ I h) λv q n=>?_) L;let⟨x,H1,W,E,F⟩:=n;refine bW (O i q j H1 _ W F) λu o m=>?_;let⟨y,Z,U,C,q2⟩:=m;refine bW (G i o j Z x y v u _ U E C q2) λc s3 l=>?_;let⟨z,Y,S,t,k,e,q3⟩:=l;subst e;cases t;exact wpAny_truthy_bool ⟨Y,S,q3⟩
def Jg(K:yaI)(x:V)(H:Hp)(k:Bool):Prop:=
 match x with
 |.bx=>k=false
 |.bl b=>k=b
 |.int i=>k=(i != 0)
 |.str y=>y.length<=yag/\k=((y.length:Int) != 0)
 |.yG y=>y.size<=yag/\k=((y.size:Int) != 0)
 |.ref p=>(∃e,dS K H p e/\k= !e.isEmpty)∨(∃e,eS K H p e/\k= !e.isEmpty)∨∃h,H p=some (.dK h)/\k= !h.isEmpty
 |_=>False
def zW{κ:Type}{kvs:List (κ×V)}{vs:List (κ×yai)}(r:KV kvs vs):(!vs.isEmpty)= !kvs.isEmpty:=by
 cases r<;>rfl
def qw(r:Vals xs d):(!d.toArray.isEmpty)= !xs.isEmpty:=by
 cases r<;>simp
def qo:(yag:Nat)<2 ^ 63:=by decide
def Ol:Wy X (λx H Q=>∃k,Jg X.K x H k/\Q k H):=by
 intro F s O H x v Q I u h;let⟨k,e,q⟩:=h;have S:=yaf;cases x with
 |bx=>
  cases u;subst e;exact truthy_none ⟨H,I,q⟩
 |bl b=>
  cases u;subst e;exact wpAny_truthy_bool ⟨H,I,q⟩
 |int i=>
  let⟨t,rfl⟩:=u;subst e;exact PySem.P.truthy_int ⟨H,I,q⟩
 |str y=>
  let⟨t,rfl⟩:=u;obtain⟨G,j⟩:y.length<=yag/\k=((y.length:Int) != 0):=e;subst j;exact PySem.P.truthy_str (by lia) ⟨H,I.tok _,q⟩
 |yG y=>
  let⟨t,rfl⟩:=u;obtain⟨G,j⟩:y.size<=yag/\k=((y.size:Int) != 0):=e;subst j;exact PySem.W.truthy_bytes (by lia) ⟨H,I.tok _,q⟩
 |ref p=>
  cases u;have j:=e;rcases j with⟨o,C,j⟩|⟨o,C,j⟩|⟨l,C,j⟩
  ·subst j;let⟨E,r,pl,hz⟩:=I.list C;have n:=r.length;exact wpAny_truthy_list pl.isList (by simp only[zbf];lia) ⟨H,I.tok _,by rw[qw r];exact q⟩
  ·subst j;let⟨E,r,pl,hz⟩:=I.tuple C;have n:=r.length;exact truthy_tuple pl (by simp only[zbf];lia) ⟨H,I.tok _,by rw[qw r];exact q⟩
  ·subst j;obtain⟨hz,L,vs,r,m⟩:l.length<=yag/\(p==yas)=false/\∃vs,KV l vs/\s.heap.DictOf (bA X.prog X.w) p vs:=I.hok p _ C;have n:=Paired.length r;exact wpAny_truthy_dict L m (by lia) ⟨H,I.tok _,by rw[zW r];exact q⟩
 |_=>exact(show False from e).elim
def GH(t:PE X a ta)(q:∀e,isTrue a X.env e=(do let v <-e;standAt a.pos;holding [v] (truthy v))):
  PT X a (λj H Q=>ta j H λx H'=>∃k,Jg X.K x H' k/\Q k H'):=by
 intro i s j H Q I h;refine isTrue_plain (bW (t i s j H _ I h) λv m l=>?_) (q _);let⟨x,y,u,n,o⟩:=l;exact Ol i m j y x v Q u n o
def zG:iy X (binaryOp .Add) (λx y H Q=>∃i j,x=.str i/\y=.str j/\i.length+j.length<=yag/\Q (.str (i++j)) H):=by
 intro e s o H x y v u Q I n m h;let⟨i,j,rfl,rfl,hz,q⟩:=h;let⟨t,rfl⟩:=n;let⟨l,rfl⟩:=m;exact add_str (λl C=>⟨.str (i++j),H,I.tok _,⟨_,rfl⟩,q⟩) hz
def vals1(r:Vals [d] us):∃u,us=[u]/\RelV d u:=by
 cases r with
 |cons r1 r2=>cases r2;refine⟨_,rfl,r1⟩
def vals2(r:Vals [d,g] us):∃u e,us=[u,e]/\RelV d u/\RelV g e:=by
 cases r with
 |cons r1 r2=>
  cases r2 with
  |cons r3 r4=>cases r4;refine⟨_,_,rfl,r1,r3⟩
def Ei(n:X.calm=true):b5 X (.builtin "max") (λl H Q=>∃i j,l=[.int i,.int j]/\Q (.int (if j> i then j else i)) H):=by
 intro m s o H l x Q I r h;let⟨i,j,rfl,q⟩:=h;obtain⟨u,v,rfl,⟨t,rfl⟩,⟨C,rfl⟩⟩:=vals2 r;refine max_two_ints (I.ok.hd n) λE y k=>⟨_,H,I.kept k,?_,q⟩
 by_cases e:j> i
 ·rw[yIp e,yIp e];exact⟨_,rfl⟩
 ·rw[yIn e,yIn e];exact⟨_,rfl⟩
def Eh(n:X.calm=true):b5 X (.builtin "min") (λl H Q=>∃i j,l=[.int i,.int j]/\Q (.int (if j<i then j else i)) H):=by
 intro m s o H l x Q I r h;let⟨i,j,rfl,q⟩:=h;obtain⟨u,v,rfl,⟨t,rfl⟩,⟨C,rfl⟩⟩:=vals2 r;refine min_two_ints (I.ok.hd n) λE y k=>⟨_,H,I.kept k,?_,q⟩
 by_cases e:j<i
 ·rw[yIp e,yIp e];exact⟨_,rfl⟩
 ·rw[yIn e,yIn e];exact⟨_,rfl⟩
def Em:b5 X (.type "int") (λe H Q=>(∃i,e=[.int i]/\Q (.int i) H)∨∃k,e=[.bl k]/\Q (.int (if k then 1 else 0)) H):=by
 intro j s m H e n Q I r h;rcases h with⟨i,rfl,q⟩|⟨k,rfl,q⟩
 ·obtain⟨u,rfl,t,rfl⟩:=vals1 r;exact call_int_int ⟨.int i,H,I,⟨_,rfl⟩,q⟩
 ·let⟨u,rfl,l⟩:=vals1 r;cases l;exact call_int_bool ⟨.int (if k then 1 else 0),H,I.tok _,⟨_,rfl⟩,q⟩
def WI(K:yaI)(x:V)(H:Hp)(n:Nat):Prop:=
 match x with
 |.str y=>y.length<=yag/\n=y.length
 |.yG y=>y.size<=yag/\n=y.size
 |.ref p=>(∃e,dS K H p e/\n=e.length)∨∃e,eS K H p e/\n=e.length
 |_=>False
def Iu:b5 X (.builtin "len") (λi H Q=>∃x n,i=[x]/\WI X.K x H n/\Q (.int n) H):=by
 intro E s G H i L Q I r h;let⟨x,n,rfl,e,q⟩:=h;let⟨u,rfl,m⟩:=vals1 r;have O:=yaf;cases x with
 |str y=>
  let⟨t,rfl⟩:=m;obtain⟨F,l⟩:y.length<=yag/\n=y.length:=e;subst l;exact len_str (by lia) ⟨.int _,H,I.tok _,⟨_,rfl⟩,q⟩
 |yG y=>
  let⟨t,rfl⟩:=m;obtain⟨F,l⟩:y.size<=yag/\n=y.size:=e;subst l;exact PySem.W.len_bytes (by lia) ⟨.int _,H,I.tok _,⟨_,rfl⟩,q⟩
 |ref p=>
  cases m;have l:=e;rcases l with⟨i,C,l⟩|⟨i,C,l⟩
  ·subst l;let⟨v,o,pl,hz⟩:=I.list C;have j:=o.length;exact Calls.call_len_list pl.isList (by simp only[zbf];lia) ⟨.int i.length,H,I.tok _,⟨_,by simp only[zbf];rw[j]⟩,q⟩
  ·subst l;let⟨v,o,pl,hz⟩:=I.tuple C;have j:=o.length;exact len_tuple pl (by simp only[zbf];lia) ⟨.int i.length,H,I.tok _,⟨_,by simp only[zbf];rw[j]⟩,q⟩
 |_=>exact(show False from e).elim
end
structure AH(h:Heap)(x dx C:Addr)(mA:Str->Option yai):Prop where
 obj:h.get? x=some (zch C dx)
 ns:h.Ns1 dx mA
 ne:dx≠x
def DR(n:h.Ns1 d mA):∃j,h.get? d=some j/\∀name,PySem.W.lookIn name j=some (mA name):=by
 let⟨o,l,E,u,hd,x,_,v⟩:=n;refine⟨o,u,λname=>?_⟩;have e:=v name;unfold nsFind findBy at e;unfold PySem.W.lookIn;rw[hd];dsimp only;split
 ·simp_all
 ·have a:l.toList.any (·.refKey)=false:=by
   rw[zbg];intro y s;let⟨z,t,i⟩:=x y (Array.mem_toList_iff.mp s);simp[DictEntry.refKey,i]
  grind
def AH.look(I:AH h d g C mA):∃a,PySem.W.InstAt h d (zch C g) C (some a)/\∀name,PySem.W.lookIn name a=some (mA name):=
 by let⟨a,i,j⟩:=DR I.ns;refine⟨a,⟨I.obj,rfl,rfl,i⟩,j⟩
section
variable {w:yak}{x dx:Addr}{mA:Str->Option yai}{name:Str}{v:yai}
def get_map(X:K.In s.heap)(I:AH s.heap x dx C mA)(m:zbO K C name=true)(l:zbu K C=true)(n:zcl K (.ref C) name=some none)(i:mA name=some v)(e:PySem.W.handedIn v=true)(h:Q v {s with toks:=s.toks+1}):
  yar (model prog w) A (getAttr (.ref x) name d) Q E s:=by
 let⟨o,J,j⟩:=I.look;exact PySem.W.get_value X J (PySem.W.plainGet_of m).1 (PySem.W.findObj_own l n rfl (by rw[j,i])) e h
def HR(X:K.In s.heap)(I:AH s.heap x dx C mA)(a:zbO K C name=true)(m:zcl K (.ref C) name=some (some (.ref f)))(j:zcM K (.ref f)=true)(i:mA name=none)(h:d (.ref f,[.ref x]) s):
  yar (model prog w) A (yaC (.ref x) name pl) d E s:=by
 let⟨e,J,l⟩:=I.look;exact PySem.W.method_fn X J (PySem.W.plainGet_of a).1 (PySem.W.plainGet_of a).2 m (beq_iff_eq.mp j) (by show(PySem.W.lookIn name e).map (·.isSome)=some false;rw[l,i];rfl) h
def Km(X:K.In s.heap)(I:AH s.heap x dx C mA)(t:zcl K (.ref C) "__setattr__"=some (some (.builtin "object.__setattr__")))(u:PySem.W.plainOver K C=true)(q:PySem.W.takerIn K C name=some none)(F:zbu K C=true)(hw:PySem.Within mA ns)(hsz:ns.length<=yag)(h:∀h',AH h' x dx C (λy=>if y=name then some v else mA y)->Heap.SameBut dx s.heap h'->d () {s with heap:=h',toks:=s.toks+2}):
  yar (model prog w) A (setAttr (.ref x) name v) d E s:=by
 let⟨O,J,S⟩:=I.look;refine PySem.W.set_plain X J t (PySem.W.osa_open X J u q λb=>?_);let⟨U,G,m⟩:=PySem.W.any_some F;refine yaa (yab (yaa (yaa (wpAny_loadPart I.obj (yaa (PySem.W.Looks.here (PySem.W.looks_clsIn X G) ?_))))));rw[m];refine yab (yaa (yab (yaa ?_)));refine wpAny_nsSet1 I.ns λh' i e=>?_;let⟨P,H,L,j,l,n⟩:=i.count (PySem.Within.cons name v hw);refine yaa (wpAny_lookBehind j (by rw[l];exact pastItsLine_dict (zcF n (by rw[zby];lia))) ?_);exact yab (h _ ⟨(e.2 _ (Ne.symm I.ne)).trans I.obj,i,I.ne⟩ e)
def Hi(X:K.In s.heap)(a:PySem.W.makesIn K C=true)(e:zcl K (.ref C) "__init__"=some (some (.ref f)))(i:PySem.W.typeIn K (.ref f)=some (.type "function"))(h:codeAny (model prog w) (A.under (.builtin "type.__call__" ⟨.ref C::vs,kw⟩)) (.call (.ref f) ⟨.ref (s.heap.objs.size+1)::vs,kw⟩) (PySem.W.InitBack (s.heap.objs.size+1) R) {s with heap:=(s.heap.push zbv).push (zch C s.heap.objs.size)}):
  codeAny (model prog w) A (.call (.ref C) ⟨vs,kw⟩) R s:=by
 exact PySem.W.make_core (PySem.W.makes_of X a) (PySem.W.looks_findIn X e) (λself=>PySem.W.bind_fn X self i) (.inl rfl) h
end
noncomputable def gQ(f:Str)(v:V):List (Str×V)->List (Str×V)
 |[]=>[(f,v)]
 |(g,x)::r=>if g=f then(g,v)::r else(g,x)::gQ f v r
theorem nQ(f g:Str)(v:V):∀fs:List (Str×V),(gQ f v fs).lookup g=if g=f then some v else fs.lookup g
 |[]=>by
  show zcQ g [(f,v)]=_;grind
 |(k,x)::r=>by
  have j:=nQ f g v r;rw[show gQ f v ((k,x)::r)=(if k=f then(k,v)::r else(k,x)::gQ f v r) from rfl];grind
theorem nj(f:Str)(v:V):∀fs:List (Str×V),f∈(gQ f v fs).map (·.1)/\∀g,g∈fs.map (·.1)->g∈(gQ f v fs).map (·.1)
 |[]=>⟨by simp[gQ],λg h=>by simp at h⟩
 |(k,x)::r=>by
  let⟨j,i⟩:=nj f v r;rw[show gQ f v ((k,x)::r)=(if k=f then(k,v)::r else(k,x)::gQ f v r) from rfl];grind
theorem nR(f:Str)(v:V):∀fs:List (Str×V),(gQ f v fs).length<=fs.length+1
 |[]=>by simp[gQ]
 |(k,x)::r=>by
  have e:=nR f v r;rw[show gQ f v ((k,x)::r)=(if k=f then(k,v)::r else(k,x)::gQ f v r) from rfl];by_cases a:k=f
  ·simp_all
  simp_all
def jf.some_of(r:jf (some v) o):∃u,o=some u/\RelV v u:=by
 cases o with
 |none=>exact(show False from r).elim
 |some u=>refine⟨u,rfl,r⟩
def jf.none_of(r:jf none o):o=none:=by
 cases o with
 |none=>rfl
 |some u=>exact(show False from r).elim
def D4(r:RelV v u):PySem.W.handedIn u=true:=by
 cases v with
 |bx=>cases(show u=Value.none from r);rfl
 |bl b=>cases(show u=Value.bool b from r);rfl
 |int i=>let⟨t,e⟩:=(show∃t,u=Value.int i t from r);cases e;rfl
 |str x=>let⟨t,e⟩:=(show∃t,u=Value.str x t from r);cases e;rfl
 |yG b=>let⟨t,e⟩:=(show∃t,u=Value.bytes b t from r);cases e;rfl
 |QI b=>let⟨t,e⟩:=(show∃t,u=Value.float b t from r);cases e;rfl
 |ref a=>cases(show u=Value.ref a from r);rfl
 |ty n=>cases(show u=Value.type n from r);rfl
section
variable {w:yak}{dx:Addr}{fs fs':List (Str×V)}
def oN(hok:jP P w H h)(e:H a=some (.ins C dx fs)):∃mA,AH h a dx C mA/\(∀f,jf (fs.lookup f) (mA f))/\PySem.Within mA (fs.map (·.1))/\fs.length<=1000/\H dx=some (.own a):=by
 let⟨d,z,ne,i,mA,n,r,q⟩:=(show aQ P w H h a (.ins C dx fs) from hok a _ e)
 refine⟨mA,⟨i,n,ne⟩,r,q,z,d⟩
end
structure AW(K:yaI)(C:Addr):Prop where
 pg:zbO K C Str.empty=true
 hd:zbu K C=true
 po:PySem.W.plainOver K C=true
 sa:zcl K (.ref C) "__setattr__"=some (some (.builtin "object.__setattr__"))
def AW.get(c:AW K C)(f:Str):zbO K C f=true:=c.pg
def fR(K:yaI)(C:Addr)(f:Str):Prop:=zcl K (.ref C) f=some none
def fR.R8(n:fR K C d):PySem.W.takerIn K C d=some none:=by
 unfold PySem.W.takerIn;rw[show zcl K (.ref C) d=some none from n];rfl
structure Meth(K:yaI)(C:Addr)(m:Str)(f:Addr):Prop where
 at_:zcl K (.ref C) m=some (some (.ref f))
 fn:zcM K (.ref f)=true
 kp:zcm K (.ref f)=true
section
variable {σ:St}{dx:Addr}{fs:List (Str×V)}{f:Str}
def z6(I:Inv X pins σ H s)(e:H a=some (.ins C dx fs))(c:AW X.K C)(n:fR X.K C f)(l:fs.lookup f=some v)(h:∀u s',Inv X pins σ H s'->RelV v u->Q u s'):yar (model X.prog X.w) A (getAttr (.ref a) f d) Q E s:=by
 let⟨mA,O,r,_,_,_⟩:=oN I.hok e;let⟨u,i,ru⟩:=jf.some_of (by rw[<-l];exact r f);exact get_map I.nT O (c.get f) c.hd n i (D4 ru) (h u _ (I.tok _) ru)
def qB(I:Inv X pins σ H s)(e:H a=some (.ins C dx fs))(c:AW X.K C)(k:Meth X.K C d g)(l:fs.lookup d=none)(h:o (.ref g,[.ref a]) s):yar (model X.prog X.w) A (yaC (.ref a) d pl) o E s:=by
 let⟨mA,O,r,_,_,_⟩:=oN I.hok e;exact HR I.nT O (c.get d) k.at_ k.fn (jf.none_of (by rw[<-l];exact r d)) h
def yU(I:Inv X pins σ H s)(e:H a=some (.ins C dx fs))(c:AW X.K C)(n:fR X.K C f)(L:fs.length<1000)(m:RelV d u)(h:∀s',Inv X pins σ (upd H a (.ins C dx (gQ f d fs))) s'->k () s'):yar (model X.prog X.w) A (setAttr (.ref a) f u) k E s:=by
 let⟨mA,O,r,j,_,l⟩:=oN I.hok e;have hz:(fs.map (·.1)).length<=yag:=by rw[zbR,yaf];lia
 refine Km I.nT O c.sa c.po n.R8 c.hd j hz λF i sb=>h _ ?_;have hd:∃o,F.get? dx=some o:=by let⟨o,_,_,G,_⟩:=i.ns;exact⟨o,G⟩
 refine I.write (by rw[e];exact True.intro) (.inr l) (λb q v z=>(sb.2 b v).trans z) hd ?_;refine⟨by rw[aM O.ne];exact l,?_,O.ne,i.obj,_,i.ns,λg=>?_,λg t=>?_⟩
 ·have:=nR f d fs;lia
 ·rw[nQ];by_cases q:g=f
  ·rw[yIp q,yIp q];exact m
  ·rw[yIn q,yIn q];exact r g
 ·by_cases q:g=f
  ·rw[q];exact(nj f d fs).1
  ·refine(nj f d fs).2 g (j g λz=>t ?_);simp_all
def Inv.made(I:Inv X pins σ H s):Inv X pins σ (upd (upd H s.heap.objs.size (.own (s.heap.objs.size+1))) (s.heap.objs.size+1) (.ins C s.heap.objs.size []))
  {s with heap:=(s.heap.push zbv).push (zch C s.heap.objs.size)}:=by
 have h:(s.heap.push zbv).get? s.heap.objs.size=some zbv:=zaO s.heap rfl;have m:=by
  have:=zaO (s.heap.push zbv) (o:=zch C s.heap.objs.size) rfl
  rwa [zco] at this
 have l:(s.heap.push zbv).Ns s.heap.objs.size (λ_=>none):=⟨zbv,#[],_,h,rfl,(λe j=>absurd j (by simp)),λ_=>rfl⟩
 have n:=I.laid (o:=.own (s.heap.objs.size+1)) (t':=s.toks) (λb u q=>zas _ q) (zcS _) ⟨_,h⟩;refine n.laid (λb u q=>zas _ q) (Nat.le_of_eq (zco _ _)) ?_;have ne:s.heap.objs.size≠s.heap.objs.size+1:=zcE (zbM _);refine⟨by rw[aM ne,bN],zcT _,ne,m,λ_=>none,(Heap.Ns1.of_empty l).at λo q=>zas _ q,λ_=>True.intro,λy i=>absurd rfl i⟩
def Mi(i:attributeBase e d env (eval e env)=eval e env)(h:yar (model prog w) A (eval e env) (λo a=>yar (model prog w) A (getAttr o d true) Q E a) E g):yar (model prog w) A (eval (.Attribute e d pos) env) Q E g:=
 Attribute_any_ h (by rw[arm_eval_Attribute,i])
end
def VF(K:yaI)(i:TE)(f:Str):TE:=λh H Q=>i h H λx e=>∃a C j fs v,x=.ref a/\e a=some (.ins C j fs)/\AW K C/\fR K C f/\fs.lookup f=some v/\Q v e
def VR(K:yaI)(l j:TE)(f:Str):TS:=λD e H=>j e H λy m=>l e m λx i=>∃a C h fs,x=.ref a/\i a=some (.ins C h fs)/\AW K C/\fR K C f/\fs.length<1000/\
 D.nx e (upd i a (.ins C h (gQ f y fs)))
section
variable {o:Expr}{f:Str}{tpos:Pos}{ta tv:TE}
def c9(y:PE X e ta)(E:attributeBase e f X.env (eval e X.env)=eval e X.env):PE X (.Attribute e f pos) (VF X.K ta f):=by
 intro i s m H Q I h;refine Mi E (bW (y i s m H _ I h) λu U j=>?_);let⟨x,O,L,t,a,C,W,fs,v,ex,F,c,n,l,q⟩:=j;subst ex;obtain rfl:u=Value.ref a:=t;exact z6 L F c n l λP S G ru=>⟨v,O,G,ru,q⟩
def pY(O:PE X o ta)(G:PE X value tv)(L:yat value (some (.Attribute o f pos')) pos.line X.env=pure false):PS X (.Assign [.Attribute o f pos'] value pos) (VR X.K ta tv f):=by
 intro e s i H D I h;refine plainObj_wpAny_Assign_Attribute (bW (G e s i H _ I h) λu t m=>?_) L;let⟨y,W,U,v,q⟩:=m;refine bW (O e t i W _ U q) λF Z j=>?_;let⟨x,H2,S,E,a,C,dx,fs,ex,P,c,n,l,q2⟩:=j;subst ex;obtain rfl:F=Value.ref a:=E;exact yU S P c n l v λY Q=>⟨i,_,Q,q2⟩
end
section
variable {σ:St}{c:yai}{b:Bool}
inductive lU(K:yaI)(H:Hp):V->yai->Prop where
 |bx:lU K H .bx (.type "NoneType")
 |bl (x:Bool):lU K H (.bl x) (.type "bool")
 |int (i:Int):lU K H (.int i) (.type "int")
 |str (x:Str):lU K H (.str x) (.type "str")
 |QI (x:UInt64):lU K H (.QI x) (.type "float")
 |lst {a:Addr}{xs:List V} (e:H a=some (.lst xs)):lU K H (.ref a) (.type "list")
 |B9 {a:Addr}{o:Obj}{xs:List V} (e:H a=some (.B9 o (.lst xs))):lU K H (.ref a) (.type "list")
 |tup {a:Addr}{xs:List V} (e:H a=some (.tup xs)):lU K H (.ref a) (.type "tuple")
 |dK {a:Addr}{kvs:List (Key×V)} (e:H a=some (.dK kvs)):lU K H (.ref a) (.type "dict")
 |dT {a:Addr}{kvs:List (List Key×V)} (e:H a=some (.dT kvs)):lU K H (.ref a) (.type "dict")
 |ins {a C dx:Addr}{fs:List (Str×V)} (e:H a=some (.ins C dx fs)) (cl:AW K C) (ha:zcl K (.ref C) "__class__"=some (some (.builtin "object.__class__")))
   (hn:PySem.W.specialIn K (.builtin "object.__class__") "__get__"=some (some (.builtin "getset_descriptor.__get__"))) (htk:PySem.W.takesIn K (.builtin "object.__class__")=some true)
   (hm:PySem.W.mroIn K C (.type "object")=some true):lU K H (.ref a) (.ref C)
theorem DW(I:Inv X pins σ H s)(j:RelV d u)(ty:lU X.K H d g)(e:PySem.W.kitOne X.K g c=some b)(h:∀tk,Q (.bool b) {s with toks:=tk}):
  yar (model X.prog X.w) A (call (.builtin "isinstance") [u,c]) Q E s:=by
 cases ty with
 |bx=>cases(show u=Value.none from j);exact zci PySem.W.kitx_none I.nT True.intro e (λz=>nomatch z) h
 |bl y=>cases(show u=Value.bool y from j);exact zci PySem.W.kitx_bool I.nT True.intro e (λz=>nomatch z) h
 |int i=>let⟨g,q⟩:=(show∃g,u=Value.int i g from j);cases q;exact zci PySem.W.kitx_int I.nT True.intro e (λz=>nomatch z) h
 |str y=>let⟨g,q⟩:=(show∃g,u=Value.str y g from j);cases q;exact zci PySem.W.kitx_str I.nT True.intro e (λz=>nomatch z) h
 |QI y=>let⟨g,q⟩:=(show∃g,u=Value.float y g from j);cases q;exact zci PySem.W.kitx_float I.nT True.intro e (λz=>nomatch z) h
 |@lst a l ea=>
  cases(show u=Value.ref a from j);let⟨_,_,n,_,h1⟩:=(show aQ X.prog X.w H s.heap a (.lst l) from I.hok a _ ea)
  exact zci PySem.W.kitx_list I.nT ⟨_,h1,rfl⟩ e (λz=>nomatch z) h
 |@B9 a ob l ea=>
  cases(show u=Value.ref a from j);let⟨_,_,_,n,_,h1⟩:=(show aQ X.prog X.w H s.heap a (.B9 ob (.lst l)) from I.hok a _ ea)
  exact zci PySem.W.kitx_list I.nT ⟨_,h1,rfl⟩ e (λz=>nomatch z) h
 |@tup a l ea=>
  cases(show u=Value.ref a from j);let⟨_,_,_,p⟩:=(show aQ X.prog X.w H s.heap a (.tup l) from I.hok a _ ea)
  let⟨o,h1,h2,_⟩:=p;exact zci PySem.W.kitx_tuple I.nT ⟨o,h1,h2⟩ e (λz=>nomatch z) h
 |@dK a kvs ea=>
  cases(show u=Value.ref a from j);let⟨_,_,vs,_,p⟩:=(show aQ X.prog X.w H s.heap a (.dK kvs) from I.hok a _ ea)
  let⟨o,m,v,h1,h2,_⟩:=p;exact zci PySem.W.kitx_dict I.nT ⟨o,h1,h2.1⟩ e (λz=>nomatch z) h
 |@dT a kvs ea=>
  cases(show u=Value.ref a from j);let⟨_,_,l,_,o,m,v,h1,h2,_⟩:=(show aQ X.prog X.w H s.heap a (.dT kvs) from I.hok a _ ea)
  exact zci PySem.W.kitx_dict I.nT ⟨o,h1,h2.1⟩ e (λz=>nomatch z) h
 |@ins a C dx fs ea cl ha hn htk hm=>
  cases(show u=Value.ref a from j);let⟨mA,O,_⟩:=oN I.hok ea;let⟨F,J,_⟩:=O.look;exact zci (PySem.W.kitx_own (cl.get _) cl.hd ha hn htk hm) I.nT J e (λz=>nomatch z) h
end
structure aT(k:Nat)(A:yal):Prop where
 hd:A.handled=none
 dp:A.depth+3*k+5<recursionLimit
 un:A.units+16*k+200<cLine
 gd:A.guards=some []
def aT.mono(r:aT k A)(h:j<=k):aT j A:=⟨r.hd,by have:=r.dp;lia,by have:=r.un;lia,r.gd⟩
theorem aT.deeper(r:aT (k+1) A)(env:Env):aT k (A.deeper env):=
 ⟨r.hd,by have:=r.dp;show A.depth+1+3*k+5<_;lia,by have:=r.un;show A.units+3+16*k+200<_;lia,r.gd⟩
def zR:(A.under (.builtin "type.__call__" ⟨.ref C::us,kw⟩)).depth=A.depth+1:=by
 rfl
def zQ:(A.under (.builtin "type.__call__" ⟨.ref C::us,kw⟩)).units=A.units+1:=by
 rfl
def aT.make(r:aT (k+1) A)(C:Addr)(us:List yai)(a:List (Str×yai)):aT k (A.under (.builtin "type.__call__" ⟨.ref C::us,a⟩)):=
 ⟨r.hd,by have:=r.dp;rw[zR];lia,by have:=r.un;rw[zQ];lia,r.gd⟩
theorem aT.depth(r:aT k A):A.depth<recursionLimit:=by have:=r.dp;lia
theorem aT.units(r:aT k A):A.units+64<cLine:=by have:=r.un;lia
def J8:TA:=λ_ H Q=>Q [] H
def E4(h:TE)(tr:TA):TA:=λa H Q=>h a H λx j=>tr a j λe i=>Q (x::e) i
section
variable {es:List Expr}{te:TE}{t:TA}
def ah:PA X [] J8:=λ_ _ _ _ H Q I h=>zbx ⟨[],H,I,.nil,h⟩
def K8(C:PE X e te)(y:PA X es t)(v:autoParam (yao (e::es) X.env=(false,eval e X.env)::yao es X.env) r0):PA X (e::es) (E4 te t):=by
 intro pos a s j H Q I h;rw[v];refine zbe (bW (C a s j H _ I h) λu m i=>?_);let⟨x,L,F,o,q⟩:=i;refine bW (y pos a m j L _ F q) λO P i=>?_;let⟨l,G,E,n,q2⟩:=i;refine⟨x::l,G,E,.cons o n,q2⟩
def Sd(t:TA):TE:=λh H Q=>t h H λa e=>a.length<=yag/\∀p,e p=none->Q (.ref p) (upd e p (.tup a))
def Sl(t:TA):TE:=λh H Q=>t h H λa e=>a.length<=yag/\∀p,e p=none->Q (.ref p) (upd e p (.lst a))
def aD(h:PA X es t):PE X (.Tuple es x1 pos) (Sd t):=by
 intro a s n H Q I x;refine wpAny_Tuple_spliced (bW (h pos a s n H _ I x) λv i j=>?_);let⟨o,m,l,r,z,q⟩:=j;refine⟨by rw[<-r.length];exact z,?_⟩;refine⟨.ref i.heap.objs.size,upd m i.heap.objs.size (.tup o),l.laid (λb u e=>zas _ e) (zcS _) ?_,rfl,q _ (l.hok.fresh (zcS _))⟩;refine⟨z,v,r,⟨_,zaO _ rfl,rfl,_,rfl⟩⟩
def aV(h:PA X es t):PE X (.List es pos) (Sl t):=by
 intro a s n H Q I x;refine wpAny_List_spliced (bW (h pos a s n H _ I x) λv i j=>?_);let⟨o,m,l,r,z,q⟩:=j;refine⟨by rw[<-r.length];exact z,?_⟩;refine⟨.ref i.heap.objs.size,upd m i.heap.objs.size (.lst o),l.laid (λb u e=>zas _ e) (zcS _) ?_,rfl,q _ (l.hok.fresh (zcS _))⟩;refine⟨z,v,0,r,zaO _ rfl⟩
end
abbrev Sp:=List V->Hp->VK->XK->Prop
abbrev JN:=List Env->Hp->yah->XK->yai->yah->Prop
structure AU(P:yaj)(w:yak)(K:yaI)(mg:Str->Option yai)(base:Heap)(A:yal)(outer:List Env)(s:yah)(H:Hp):Prop where
 frames:A.frames=some outer
 mod:Mod K mg base
 bs:∀b o,base.get? b=some o->s.heap.get? b=some o/\H b=none
 Mf:base.objs.size<=s.heap.objs.size
 oh:s.heap.FunFrames base outer
 QH:∀b∈frs outer,H b=none
 hok:jP P w H s.heap
 bare:AllBare s.gens
def CE(outer:List Env)(P:yaj)(w:yak)(H:Hp)(s:yah)(Q:VK)(u:yai)(s':yah):Prop:=
 ∃v a,s'.os=s.os/\AllBare s'.gens/\Un (frs outer) [] H a s.heap s'.heap/\jP P w a s'.heap/\RelV v u/\Q v a
def CR(CX:JN)(outer:List Env)(P:yaj)(w:yak)(H:Hp)(s:yah)(Q:VK)(E:XK)(r:Result)(s':yah):Prop:=
 match r with
 |.ok (.ret u)=>CE outer P w H s Q u s'
 |.ok _=>False
 |.error e=>CX outer H s E e s'
structure eV(P:yaj)(w:yak)(K:yaI)(mg:Str->Option yai)(base:Heap)(CX:JN)(k:Nat)(f:Addr)(fd:yap)(ps:List Str)(sp:Sp):Prop where
 len:∀vs H Q E,sp vs H Q E->vs.length=ps.length
 run:∀(A:yal)(outer:List Env)(s:yah)(H:Hp)(args:Args)(us:List yai)(vs:List V)(Q:VK)(E:XK),aT k A->AU P w K mg base A outer s H->yaA s fd args (ps.zip us)->Vals vs us->sp vs H Q E->
  codeAny (model P w) A (.call (.ref f) args) (CR CX outer P w H s Q E) s
def eV.imp(F:eV P w K mg base CX k f fd ps sp)(h:∀vs H Q E,d vs H Q E->sp vs H Q E):eV P w K mg base CX k f fd ps d:=
 ⟨λvs H Q E q=>F.len vs H Q E (h _ _ _ _ q),λA outer s H e i vs Q E m n o j l=>F.run A outer s H e i vs Q E m n o j (h _ _ _ _ l)⟩
def AU.make(e:AU P w K mg base A outer s H)(C:Addr)(us:List yai)(a:List (Str×yai)):
  AU P w K mg base (A.under (.builtin "type.__call__" ⟨.ref C::us,a⟩)) outer s H:=⟨by first|exact e.frames|(simpa[Around.under,Code.envs,Code.isFrame,pushEnvs] using e.frames),e.mod,e.bs,e.Mf,e.oh,e.QH,e.hok,e.bare⟩
section
variable {σ:St}{s':yah}
def Inv.Us(I:Inv X pins σ H s):AU X.prog X.w X.K X.mg X.base X.A X.stack s H:=
 ⟨I.ok.frames,I.ok.mod,I.bs,zcF I.ok.Mf I.sz,I.stack,I.A6,I.hok,I.bare⟩
def Inv.after(I:Inv X pins σ H s)(h:CE X.stack X.prog X.w H s k u s'):EP X pins σ k u s':=by
 let⟨v,i,os,bare,un,hok,r,q⟩:=h;let⟨e,g,d,t,a⟩:=s';obtain rfl:a=s.os:=os;refine⟨v,i,I.call un hok bare (λb z=>absurd z (by simp)),r,q⟩
end
def E6(sp:Sp)(a:List V)(E:XK)(t:TA):TE:=λe H Q=>t e H λvs h=>sp (vs++a) h Q E
def EW(C:Addr)(m:Str)(sp:Sp)(e:List V)(E:XK)(j:TE)(t:TA):TE:=λh H Q=>j h H λx i=>∃a l fs,x=.ref a/\i a=some (.ins C l fs)/\fs.lookup m=none/\
 t h i λvs n=>sp (x::(vs++e)) n Q E
def Sk(C:Addr)(sp:Sp)(e:List V)(E:XK)(t:TA):TE:=λi H Q=>t i H λvs h=>∀x a,h x=none->h a=none->a≠x->
 sp (.ref x::(vs++e)) (upd (upd h a (.own x)) x (.ins C a [])) (λv j=>v=.bx/\Q (.ref x) j) E
def Binds(K:yaI)(fd:yap)(ps:List Str)(ds:List yai):Prop:=
 ∀(s:yah)(a:List yai),K.In s.heap->(a++ds).length=ps.length->yaA s fd ⟨a,[]⟩ (ps.zip (a++ds))
def Binds.all(h:∀us:List yai,us.length=ps.length->yaz fd ⟨us,[]⟩=pure (ps.zip us)):Binds K fd ps []:=λs us _ a=>by
 rw[zbS] at a⊢;exact .of_eq (h us a)
def Passes(CX:JN)(X:Cx)(E:XK):Prop:=∀(a:List (Addr×Obj))(i:St)(H:Hp)(s:yah)(e:yai)(h:yah),Inv X a i H s->CX X.stack H s E e h->X.xe e h
section
variable {CX:JN}{k:Nat}{sp:Sp}{dvs:List V}{ds:List yai}{E:XK}{m:Str}{o:Expr}{es:List Expr}{ta:TE}{t:TA}
def zm(F:eV X.prog X.w X.K X.mg X.base CX k f fd ps sp)(q:aT k X.A)(x:Binds X.K fd ps ds)(hd:Vals dvs ds)(n:Passes CX X E)(I:Inv X pins d H s)(r:Vals vs us)(h:sp (vs++dvs) H g E):yar (model X.prog X.w) X.A (call (.ref f) us) (EP X pins d g) X.xe s:=by
 have j:=r.append hd;have v:(us++ds).length=ps.length:=by rw[<-j.length];exact F.len _ _ _ _ h
 refine yaH (yax (F.run X.A X.stack s H ⟨us,[]⟩ (us++ds) (vs++dvs) g E q I.Us (x s us I.nT v) j h) λr l a=>?_);cases r with
 |error e=>exact n pins d H s e l I a
 |ok fl=>
  cases fl with
  |ret u=>exact I.after a
  |next=>exact False.elim a
  |brk=>exact False.elim a
  |cont=>exact False.elim a
def K5(F:eV X.prog X.w X.K X.mg X.base CX k f fd ps sp)(y:aT k X.A)(L:Gl X x)(C:X.mg x=some (.ref f))(G:zcm X.K (.ref f)=true)(P:Binds X.K fd ps ds)(hd:Vals dvs ds)(v:Passes CX X E)(S:PA X (e::es) t)(l:autoParam ((x==("__debug__":Str))=false) r1)(O:autoParam (yao (e::es) X.env=(false,eval e X.env)::yao es X.env) r0)(j:autoParam ((yau pos (yao es X.env)).any (·.1)=false) r0):
  PE X (.Call (.Name x p) (e::es) [] pos) (E6 sp dvs E t):=by
 intro a s u H Q I h;refine wpAny_Call_Name_kw (uV I L C ?_ l);refine PySem.W.callWith_K I.ok.mod.Vo G (bW (S pos a s u H _ I h) λU Y i=>?_) O j;let⟨vs,Z,n,r,q⟩:=i;refine⟨n.nT,?_⟩;exact zm F y P hd v n r q
def cI{pl:Sem Bool}(he:PE X o ta)(c:AW X.K C)(G:Meth X.K C m f)(F:eV X.prog X.w X.K X.mg X.base CX k f fd ps sp)(Z:aT k X.A)(hb:Binds X.K fd ps ds)(hd:Vals dvs ds)(U:Passes CX X E)(ha:PA X (e::es) t)(n:autoParam (yao (e::es) X.env=(false,eval e X.env)::yao es X.env) r0)(v:autoParam ((yau pos (yao es X.env)).any (·.1)=false) r0)(Y:autoParam (eval (.Call (.Attribute o m apos) (e::es) [] pos) X.env=(do
   let ov <-eval o X.env
   standAt apos.atName
   let(f,first) <-holding [ov] (yaC ov m pl)
   yay pos f first (yau pos (yao (e::es) X.env)) (yaE pos (yaD [] X.env)))) r0):
  PE X (.Call (.Attribute o m apos) (e::es) [] pos) (EW C m sp dvs E ta t):=by
 intro i s y H Q I h;refine PySem.W.methodCall_KW (bW (he i s y H _ I h) λu P j=>?_) Y;let⟨x,H1,O,S,a,dx,fs,ex,ea,l,q⟩:=j;subst ex;obtain rfl:u=Value.ref a:=S;refine qB O ea c G l ?_;refine PySem.W.callWith_K I.ok.mod.Vo G.kp (bW (ha pos i P y H1 _ O q) λus s2 j=>?_) n v;let⟨vs,H2,L,r,q2⟩:=j;refine⟨L.nT,?_⟩;exact zm (vs:=.ref a::vs) F Z hb hd U L (.cons rfl r) q2
def iS(P:PE X o ta)(c:AW X.K C)(n:Meth X.K C m f)(F:eV X.prog X.w X.K X.mg X.base CX k f fd ps sp)(O:aT k X.A)(S:Binds X.K fd ps ds)(hd:Vals dvs ds)(G:Passes CX X E)(L:autoParam (eval (.Call (.Attribute o m apos) [] [] pos) X.env=(do
   let ov <-eval o X.env
   standAt apos.atName
   let(f,first) <-holding [ov] (yaC ov m pl)
   yay pos f first (yau pos (yao [] X.env)) (yaE pos (yaD [] X.env)))) r0):
  PE X (.Call (.Attribute o m apos) [] [] pos) (EW C m sp dvs E ta J8):=by
 intro e s v H Q I h;refine PySem.W.methodCall_KW (bW (P e s v H _ I h) λu Y i=>?_) L;let⟨x,H1,j,y,a,Z,fs,ex,U,l,q⟩:=i;subst ex;obtain rfl:u=Value.ref a:=y;refine qB j U c n l ?_;exact PySem.W.callWith_K0 j.nT n.kp (zm (vs:=[.ref a]) F O S hd G j (.cons rfl .nil) q)
structure Mk(K:yaI)(C f:Addr):Prop where
 makes:PySem.W.makesIn K C=true
 init:zcl K (.ref C) "__init__"=some (some (.ref f))
 fn:zcM K (.ref f)=true
 kp:zcm K (.ref C)=true
theorem Ge(M:Mk X.K C f)(F:eV X.prog X.w X.K X.mg X.base CX k f fd ps sp)(O:aT (k+1) X.A)(S:Binds X.K fd ps ds)(hd:Vals dvs ds)(L:Passes CX X E)(I:Inv X pins d H s)(r:Vals vs us)(h:∀x i,H x=none->H i=none->i≠x->sp (.ref x::(vs++dvs)) (upd (upd H i (.own x)) x (.ins C i [])) (λv Y=>v=.bx/\g (.ref x) Y) E):
  yar (model X.prog X.w) X.A (call (.ref C) us) (EP X pins d g) X.xe s:=by
 have q:=h (s.heap.objs.size+1) s.heap.objs.size (I.hok.fresh (zcU _)) (I.hok.fresh (zcS _)) (zcE (zbM _));have j:=Inv.made (C:=C) I;have n:Vals (V.ref (s.heap.objs.size+1)::(vs++dvs)) (Value.ref (s.heap.objs.size+1)::(us++ds)):=.cons rfl (r.append hd);have P:=by
  have e:=n.length;rw[F.len _ _ _ _ q] at e;exact e.symm
 refine yaH (Hi I.nT M.makes M.init (beq_iff_eq.mp M.fn) (yax (F.run _ X.stack _ _ ⟨Value.ref (s.heap.objs.size+1)::us,[]⟩ (Value.ref (s.heap.objs.size+1)::(us++ds)) _ _ E (O.make C us []) (j.Us.make C us []) (S _ (Value.ref (s.heap.objs.size+1)::us) j.nT P) n q) λr y a=>?_));cases r with
 |error e=>exact L pins d _ _ e y j a
 |ok fl=>
  cases fl with
  |ret u=>
   let⟨v,Z,W,G,U,q3⟩:=j.after a;subst U;exact⟨G,⟨V.ref (s.heap.objs.size+1),Z,W,rfl,q3⟩⟩
  |next=>exact False.elim a
  |brk=>exact False.elim a
  |cont=>exact False.elim a
def p9(M:Mk X.K C f)(F:eV X.prog X.w X.K X.mg X.base CX k f fd ps sp)(j:aT (k+1) X.A)(n:Gl X x)(l:X.mg x=some (.ref C))(q:Binds X.K fd ps ds)(hd:Vals dvs ds)(i:Passes CX X E)(a:autoParam ((x==("__debug__":Str))=false) r1):PE X (.Call (.Name x p) [] [] pos) (Sk C sp dvs E J8):=by
 intro e s u H Q I h;refine wpAny_Call_Name_kw (uV I n l ?_ a);exact PySem.W.callWith_K0 I.nT M.kp (Ge M F j q hd i I .nil h)
end
structure aE(N P:List Str)(sc:Scope):Prop where
 kind:sc.kind=.function
 co:sc.isCoroutine=false
 gen:sc.isGenerator=false
 nd:N.Nodup
 pre:N.take P.length=P
 par:∀x∈P,sc.names.lookup x=some .local∨sc.names.lookup x=some .cell
 Qf:∀y∈sc.names,y.2≠ .free
theorem tw:∀{binds:List (Str×yai)}{m:Str->Option yai},(∀v,(g,v) ∉ binds)->bindL d binds m g=m g
 |[],_,_=>rfl
 |(n,v)::r,m,h=>by
  unfold bindL;rw[tw λw hw=>h w (zaz _ hw)];split
  ·grind
  ·rfl
theorem tF:∀{binds:List (Str×yai)}{m:Str->Option yai},(∀v,(g,v) ∉ binds)->bindC d binds m g=m g
 |[],_,_=>rfl
 |(n,v)::r,m,h=>by
  unfold bindC;rw[tF λw hw=>h w (zaz _ hw)];split
  ·rfl
  grind
theorem tE{a:Str->Option NameKind}{x:Str}{v:yai}:∀{P:List Str}{vs:List yai}{i:Nat}{m:Str->Option yai},P.Nodup->P[i]? =some x->vs[i]? =some v->a x=some .local->
  bindL a (P.zip vs) m x=some v
 |[],_,_,_,_,h,_,_=>by simp at h
 |_::_,[],_,_,_,_,h,_=>by simp at h
 |p::P,w::vs,0,m,nd,h1,h2,hk=>by
  simp at h1 h2;subst h1;subst h2;show bindL a ((p,w)::P.zip vs) m p=_;unfold bindL;rw[tw λv e=>(zbT.mp nd).1 (zbU e).1,yIp hk];simp
 |p::P,w::vs,i+1,m,nd,h1,h2,hk=>by
  show bindL a ((p,w)::P.zip vs) m x=_;exact tE (zbT.mp nd).2 (by simpa using h1) (by simpa using h2) hk
theorem tG{a:Str->Option NameKind}{x:Str}{v:yai}:∀{P:List Str}{vs:List yai}{i:Nat}{m:Str->Option yai},P.Nodup->P[i]? =some x->vs[i]? =some v->a x≠some .local->
  bindC a (P.zip vs) m x=some v
 |[],_,_,_,_,h,_,_=>by simp at h
 |_::_,[],_,_,_,_,h,_=>by simp at h
 |p::P,w::vs,0,m,nd,h1,h2,hk=>by
  simp at h1 h2;subst h1;subst h2;show bindC a ((p,w)::P.zip vs) m p=_;unfold bindC;rw[tF λv e=>(zbT.mp nd).1 (zbU e).1,yIn hk];simp
 |p::P,w::vs,i+1,m,nd,h1,h2,hk=>by
  show bindC a ((p,w)::P.zip vs) m x=_;exact tG (zbT.mp nd).2 (by simpa using h1) (by simpa using h2) hk
noncomputable def start(N:List Str)(vs:List V):St:=vs.map some++zck (N.length - vs.length) none
noncomputable def nv(CX:JN)(P:yaj)(w:yak)(K:yaI)(mg:Str->Option yai)(base:Heap)(N:List Str)(a:Str)(scope:Scope)(f:Addr)(i:yai)(A:yal)(outer:List Env)(s:yah)(H:Hp)(E:XK):Cx where
 prog:=P
 w:=w
 K:=K
 mg:=mg
 base:=base
 A:=A.deeper (envOfC a scope s.heap.objs.size f i)
 N:=N
 s₀:=s
 H₀:=H
 env:=envOfC a scope s.heap.objs.size f i
 outer:=outer
 stack:=envOfC a scope s.heap.objs.size f i::outer
 ex:=[]
 calm:=true
 fn:=λ_=>true
 pn:=[]
 xe:=λe j=>yar (model P w) (A.deeper (envOfC a scope s.heap.objs.size f i)) (leaving (envOfC a scope s.heap.objs.size f i) e) (λ_ h=>CX outer H s E e h) (λl h=>CX outer H s E l h) j
def xX{a:Scope}(h:a.names.lookup x=some .cell):∃c,(cellsFrom n a.names []).lookup x=some c:=by
 exact Option.isSome_iff_exists.mp (PySem.W.cellsFrom_some a.names n [] (.inl h))
def DX(S:aE N ps scope)(hd:A.handled=none)(j:AU P w K mg base A outer s H)(W:vs.length=ps.length)(r:Vals vs us)(x:InCallC s s.heap.objs.size (bindL (envOfC qual scope s.heap.objs.size f F).kindOf (ps.zip us) λ_=>none) (cellsFrom (s.heap.objs.size+1) scope.names []) (bindC (envOfC qual scope s.heap.objs.size f F).kindOf (ps.zip us) λ_=>none) s1):
  Inv (nv CX P w K mg base N qual scope f F A outer s H d) [] (start N vs) H s1:=by
 have O:ps.length<=N.length:=by have:=congrArg zcR S.pre;rw[zbz] at this;lia
 obtain⟨h1,U,rfl,I⟩:=x.done;have l:∀b,b ∉ (nv CX P w K mg base N qual scope f F A outer s H d).ex:=λb z=>absurd (show b∈([]:List Addr) from z) (by simp);refine⟨⟨j.mod,S.kind,rfl,rfl,zcS _,λy z c h1 h2=>name_of_addr x.apart (PySem.mem_of_lookup h1) (PySem.mem_of_lookup h2),λy m=>?_,λy c _ h=>zcG (x.above y c (PySem.mem_of_lookup h)),λ_=>hd,Around.frames_deeper j.frames,.inr ⟨rfl,rfl⟩,λb z=>absurd z (l b),j.bs,j.Mf,λb _ _=>l b,λb z=>absurd z (l b),j.oh,j.QH⟩,rfl,j.bare,Un.kept I,⟨_,x.toInCall.ns,λi y v h1 h2 X=>?_⟩,λy c h=>⟨_,x.cell y c h⟩,j.hok.fresh (zcS _),λy c h=>j.hok.fresh (zcG (x.above y c (PySem.mem_of_lookup h))),λp t=>absurd (show p∈([]:List (Addr×Obj)) from t) (by simp),j.hok.kept I,?_⟩
 ·obtain m|m:=m
  ·exact xX m
  ·exact absurd rfl (S.Qf _ (PySem.mem_of_lookup m))
 ·have C:i<vs.length:=by
   unfold start at h2;by_cases C:i<vs.length
   ·exact C
   ·rw[zab (by simpa using C)] at h2;rw[List.getElem?_replicate] at h2;simp_all
  have Q:vs[i]? =some v:=by
   unfold start at h2;rw[zae (by simp_all)] at h2;simp_all
  let⟨u,G,L⟩:=r.get Q;have t:ps[i]? =some y:=by
   rw[<-S.pre,List.getElem?_take_of_lt (by lia)];exact h1
  have o:ps.Nodup:=by rw[<-S.pre];exact S.nd.sublist (List.take_sublist _ _)
  refine⟨u,L,?_⟩;obtain k|k:=S.par y (zaC t)
  ·exact .inl ⟨k,tE o t G k⟩
  ·obtain⟨c,e⟩:=xX k;refine .inr ⟨.inl k,c,e,?_⟩;have q:=x.cell y c e;rw[tG o t G (by show scope.names.lookup y≠_;lia)] at q;exact q
 ·unfold start;show _=N.length;simp_all
theorem Uo(lk:K.lookup f=some ⟨oc,od,.func (zcN name qual d body scope dV g L pm an z ct),osl⟩)(Z:zcn K z qual=true)(S:aE N ps scope)(len:∀vs H Q E,sp vs H Q E->vs.length=ps.length)(l:∀(A:yal)(outer:List Env)(s:yah)(H:Hp)(vs:List V)(Q:VK)(E:XK),aT k (A.deeper (envOfC qual scope s.heap.objs.size f z))->sp vs H Q E->∃t,yj (nv CX P w K mg base N qual scope f z A outer s H E) body t/\t {nx:=λ_ H'=>Q .bx H',rt:=Q} (start N vs) H):
  eV P w K mg base CX (k+1) f (zcN name qual d body scope dV g L pm an z ct) ps sp:=by
 refine⟨len,λA outer s H ab us vs Q E Y G hb r C=>?_⟩;have KX:=G.mod.Vo.keeps λb o e=>(G.bs b o e).1;have X:=G.mod.nolimit.keeps λb o e=>(G.bs b o e).1;have j:∀y∈ps.zip us,scope.names.lookup y.1=some .local∨(scope.names.lookup y.1=some .cell/\((cellsFrom (s.heap.objs.size+1) scope.names []).lookup y.1).isSome=true):=λ⟨n,v⟩ hy=>by
  obtain q|q:=S.par n (zbU hy).1
  ·exact .inl q
  ·exact .inr ⟨q,PySem.W.cellsFrom_some _ _ _ (.inl q)⟩
 refine codeAny_call_function Y.depth (KX _ _ lk) rfl S.co S.gen rfl (PySem.W.codeRec_of KX Z) (hb _ _ _ _ ?_);refine wpAny_newFunctionEnv_cells S.kind j λenv he s1 x=>?_;subst he;refine⟨X.keeps x.toInCall.keep,codeAny_func ?_⟩;let⟨t,ht,hq⟩:=l A outer s H vs Q E (Y.deeper _) C;have I:Inv (nv CX P w K mg base N qual scope f z A outer s H E) [] (start N vs) H s1:=DX S Y.hd G (len _ _ _ _ C) r x;refine yac (ht [] s1 (start N vs) H _ I hq) (λfl O m=>?_) λe O m=>m;have F:∀{i:St}{H':Hp}{v:V}{u:yai},Inv (nv CX P w K mg base N qual scope f z A outer s H E) [] i H' O->RelV v u->Q v H'->CE outer P w H s Q u O:=
  λ{i H' v u} J U q=>⟨v,H',J.os,J.bare,J.base,J.hok,U,q⟩
 cases fl with
 |ret u=>
  let⟨v,i,H',J,U,q⟩:=m;exact F J U q
 |next=>
  let⟨i,H',J,q⟩:=m;exact F (v:=V.bx) J rfl q
 |brk=>
  let⟨_,_,_,q⟩:=m;exact False.elim q
 |cont=>
  let⟨_,_,_,q⟩:=m;exact False.elim q
section
variable {es:List Expr}{t:TA}{id T:String}{r:List V->Hp->VK->Prop}
def So(r:List V->Hp->VK->Prop)(t:TA):TE:=λa H Q=>t a H λvs e=>r vs e Q
def GP(G:b5 X (.builtin id) r)(E:Gl X x)(C:X.mg x=none)(v:bootBuiltins x=some (.builtin id))(L:PA X (e::es) t)(y:autoParam (x≠"__name__") r1)(l:autoParam ((x==("__debug__":Str))=false) r1)(F:autoParam (yao (e::es) X.env=(false,eval e X.env)::yao es X.env) r0)(j:autoParam ((yau pos (yao es X.env)).any (·.1)=false) r0):PE X (.Call (.Name x p) (e::es) [] pos) (So r t):=by
 intro a s m H Q I h;refine wpAny_Call_Name_kw (dH I E C v ?_ y l);refine PyProof.Rows.callWith_builtin1 (bW (L pos a s m H _ I h) λn o i=>?_) F j;let⟨vs,P,O,q,u⟩:=i;exact G a o m P vs n Q O q u
def Dy(F:b5 X (.type T) r)(C:Gl X x)(y:X.mg x=none)(u:bootBuiltins x=some (.type T))(G:PA X (e::es) t)(v:autoParam (x≠"__name__") r1)(j:autoParam ((x==("__debug__":Str))=false) r1)(E:autoParam (yao (e::es) X.env=(false,eval e X.env)::yao es X.env) r0)(i:autoParam ((yau pos (yao es X.env)).any (·.1)=false) r0):PE X (.Call (.Name x p) (e::es) [] pos) (So r t):=by
 intro a s l H Q I h;refine wpAny_Call_Name_kw (dH I C y u ?_ v j);exact PyProof.Rows.callWith_type1 (bW (G pos a s l H _ I h) λm n ⟨vs,O,L,o,q⟩=>F a n l O vs m Q L o q) E i
end
section
variable {κ:Type}[DecidableEq κ]
noncomputable def iz(kvs:List (κ×V))(k:κ):Option V:=(kvs.find? λa=>decide (a.1=k)).map (·.2)
noncomputable def putK(kvs:List (κ×V))(k:κ)(v:V):List (κ×V):=
 if(kvs.any λa=>decide (a.1=k))=true then kvs.map (λa=>if a.1=k then(a.1,v) else a) else kvs++[(k,v)]
def o9{k:κ}(e:d.1=k):iz (d::r) k=some d.2:=by simp[iz,e]
def pq{k:κ}(e:¬d.1=k):iz (d::r) k=iz r k:=by simp[iz,e]
theorem pA(k:κ):∀kvs:List (κ×V),(kvs.any λa=>decide (a.1=k))=(iz kvs k).isSome
 |[]=>rfl
 |p::r=>by
  rw[zcr];by_cases e:p.1=k
  ·simp only[o9 e,yDt e,Bool.true_or,Option.isSome_some]
  ·rw[pq e,yDf e];exact pA k r
def fX(kvs:List (κ×V))(k:κ)(v:V):(putK kvs k v).length<=kvs.length+1:=by
 unfold putK;split
 ·simp
 simp
def jf.gD(r:jf o d):o.isSome=d.isSome:=by
 cases o with
 |none=>cases d with
  |none=>rfl
  |some _=>exact(show False from r).elim
 |some _=>cases d with
  |none=>exact(show False from r).elim
  |some _=>rfl
def KV.val(r:KV d vs)(k:κ):jf (iz d k) (valueAt vs k):=by
 induction r with
 |nil=>exact True.intro
 |@cons p q ps qs h t ih=>
  let⟨h1,h2⟩:=h;by_cases e:p.1=k
  ·have b:valueAt (q::qs) k=some q.2:=by simp[valueAt,(h1.symm.trans e)]
   rw[o9 e,b];exact h2
  ·have a:¬q.1=k:=λz=>e (h1.trans z);have b:valueAt (q::qs) k=valueAt qs k:=by simp[valueAt,a]
   rw[pq e,b];exact ih
theorem KV.any(r:KV d vs)(k:κ):(d.any λa=>decide (a.1=k))=vs.any λa=>decide (a.1=k):=by
 induction r with
 |nil=>rfl
 |cons h t ih=>simp_all
theorem KV.repl(r:KV d vs)(k:κ)(i:RelV g u):
  KV (d.map λa=>if a.1=k then(a.1,g) else a) (vs.map λa=>if a.1=k then(a.1,u) else a):=by
 induction r with
 |nil=>exact .nil
 |@cons p q ps qs h t ih=>
  refine .cons ?_ ih;lia
def KV.put(r:KV d vs)(k:κ)(a:RelV g u):KV (putK d k g) (stored vs k u):=by
 unfold putK stored;rw[r.any k];by_cases e:(vs.any λh=>decide (h.1=k))=true
 ·rw[yIp e,yIp e];exact r.repl k a
 ·rw[yIn e,yIn e];exact Paired.snoc r ⟨rfl,a⟩
theorem KV.length{vs:List (κ×yai)}(r:KV d vs):d.length=vs.length:=Paired.length r
end
def nS(r:RelV (kV k) u):(bA P w).is k u=true:=by
 cases k with
 |inl i=>let⟨t,e⟩:=(show∃t,u=Value.int i t from r);subst e;exact wV P w i t
 |inr x=>let⟨t,e⟩:=(show∃t,u=Value.str x t from r);subst e;exact wU P w x t
theorem sQ:∀{ks:List Key}{us:List yai},Vals (ks.map kV) us->ItemsAre (bA d w) ks us
 |[],_,r=>by cases r;exact .nil
 |k::ks,_,r=>by
  cases r with
  |cons h t=>exact .cons (nS h) (sQ t)
abbrev KT(H:Hp):List (List Key×V)->List (List Key×Addr×yai)->Prop:=Paired λp q=>p.1=q.1/\H q.2.1=some (.tup (p.1.map kV))/\RelV p.2 q.2.2
def KT.val(r:KT H d g)(k:List Key):jf (iz d k) ((atKey g k).map (·.2)):=by
 induction r with
 |nil=>exact True.intro
 |@cons p q ps qs h t ih=>
  let⟨h1,_,h2⟩:=h;by_cases e:p.1=k
  ·have b:atKey (q::qs) k=some q.2:=by simp[atKey,(h1.symm.trans e)]
   rw[o9 e,b];exact h2
  ·have a:¬q.1=k:=λz=>e (h1.trans z);have b:atKey (q::qs) k=atKey qs k:=by simp[atKey,a]
   rw[pq e,b];exact ih
theorem KT.repl(r:KT H d g)(k:List Key)(j:RelV o u):
  KT H (d.map λa=>if a.1=k then(a.1,o) else a) (g.map (putAt k u)):=by
 induction r with
 |nil=>exact .nil
 |@cons p q ps qs h t ih=>
  refine .cons ?_ ih;unfold putAt;lia
def KT.put(r:KT H d g)(k:List Key)(j:H b=some (.tup (k.map kV)))(h:RelV o u):
  KT H (putK d k o) (storedH g k b u):=by
 have e:(d.any λi=>decide (i.1=k))=(atKey g k).isSome:=by
  rw[pA,(r.val k).gD,zbw]
 unfold putK storedH;rw[e];by_cases q:(atKey g k).isSome=true
 ·rw[yIp q,yIp q];exact r.repl k h
 ·rw[yIn q,yIn q];exact Paired.snoc r ⟨rfl,j,h⟩
def KT.keeps(r:KT H d g)(h:∀b a,H b=some (.tup a)->H' b=some (.tup a)):KT H' d g:=
 Paired.T4 r λ_ _ z=>⟨z.1,h _ _ z.2.1,z.2.2⟩
section
variable {w:yak}
def Nd(ok:jP P w H h)(e:Rd H a d):aQ P w H h a d:=e.ok ok
def sW(ok:jP P w H h)(e:Rd H a (.dK kvs)):kvs.length<=yag/\(a==yas)=false/\∃vs,KV kvs vs/\h.DictOf (bA P w) a vs:=
 show aQ P w H h a (.dK kvs) from Nd ok e
def Cf(ok:jP P w H h)(e:H a=some (.dK kvs)):kvs.length<=yag/\(a==yas)=false/\∃vs,KV kvs vs/\h.DictOf (bA P w) a vs:=sW ok (.inl e)
def qt(ok:jP P w H h)(e:H a=some (.tup (d.map kV))):(tupleKind (bA P w)).is h d a:=by
 let⟨_,i,r,o,h1,h2,n,j⟩:=(show aQ P w H h a (.tup (d.map kV)) from ok a _ e)
 refine⟨o,i.toArray,n,h1,h2,j,by simpa using sQ r⟩
def xJ(ok:jP P w H h)(e:Rd H a (.dT d)):d.length<=yag/\(a==yas)=false/\
  ∃j,KT H d j/\h.DictOfH (tupleKind (bA P w)) a j:=by
 let⟨z,y,j,r,o,v,C,h1,h2,u,s,n⟩:=(show aQ P w H h a (.dT d) from Nd ok e)
 refine⟨z,y,j,r,o,v,C,h1,h2,u,s,λx i=>?_,n⟩;have all:∀{l:List (List Key×V)}{m:List (List Key×Addr×yai)},KT H l m->∀x∈m,(tupleKind (bA P w)).is h x.1 x.2.1:=by
  intro l m q
  induction q with
  |nil=>intro x i;exact nomatch i
  |@cons p q ps qs hq t ih=>
   intro x i;obtain e|i:=zcp.mp i
   ·exact qt ok (by simp_all)
   ·exact ih x i
 exact all r x i
def Uu(ok:jP P w H h)(e:H a=some (.dT d)):d.length<=yag/\(a==yas)=false/\
  ∃i,KT H d i/\h.DictOfH (tupleKind (bA P w)) a i:=xJ ok (.inl e)
end
def rg(H:Hp)(a:Addr)(y:V)(r:Option V):Prop:=
 (∃e k,Rd H a (.dK e)/\y=kV k/\r=iz e k)∨∃e k b,Rd H a (.dT e)/\y=.ref b/\H b=some (.tup (k.map kV))/\r=iz e k
def EE(H:Hp)(a:Addr)(y v:V)(H':Hp):Prop:=
 (∃e k,H a=some (.dK e)/\y=kV k/\e.length<yag/\H'=upd H a (.dK (putK e k v)))∨
 ∃e k b,H a=some (.dT e)/\y=.ref b/\H b=some (.tup (k.map kV))/\e.length<yag/\H'=upd H a (.dT (putK e k v))
theorem rg.k{H:Hp}{a:Addr}{kvs:List (Key×V)}{k:Key}(e:H a=some (.dK kvs)):rg H a (kV k) (iz kvs k):=.inl ⟨kvs,k,.inl e,rfl,rfl⟩
theorem EE.k{H:Hp}{a:Addr}{kvs:List (Key×V)}{k:Key}{v:V}(e:H a=some (.dK kvs))(h:kvs.length<yag):EE H a (kV k) v (upd H a (.dK (putK kvs k v))):=.inl ⟨kvs,k,e,rfl,h,rfl⟩
section
variable {σ:St}{y:V}{r:yai}{o:Option V}
def Inv.big(I:Inv X pins σ H s):yas<s.heap.objs.size:=by
 exact zcI (by decide) ((I.mod.glob.keeps I.bk).lt)
def D8(G:A.units+1<cLine)(I:Inv X pins σ H s)(g:rg H a y (some v))(C:RelV y u)(h:∀m s',Inv X pins σ H s'->RelV v m->Q m s'):
  yar (model X.prog X.w) A (getItem (.ref a) u) Q E s:=by
 rcases g with⟨n,k,e,t,l⟩|⟨n,k,b,e,t,O,l⟩
 ·subst t;let⟨z,hd,vs,j,x⟩:=sW I.hok e;let⟨m,hw,i⟩:=jf.some_of (by rw[l];exact j.val k);exact wpAny_getItem_of (nS C) x.mapOf hw (h m _ (I.tok _) i)
 ·subst t;cases(show u=Value.ref b from C);let⟨z,hd,F,j,x⟩:=xJ I.hok e;let⟨m,hw,i⟩:=jf.some_of (by rw[l];exact j.val k);let⟨p,L,q⟩:=Option.map_eq_some_iff.mp hw;refine wpAny_getItem_heap (tupleKind_room_in1 G) (qt I.hok O) x L ?_;rw[q];exact h m _ (I.tok _) i
def Wn(v:A.units+1<cLine)(I:Inv X pins σ H s)(g:rg H a y o)(t:RelV y u)(h:∀s',Inv X pins σ H s'->Q (.bool o.isSome) s'):
  yar (model X.prog X.w) A (yan .In u (.ref a)) Q E s:=by
 rcases g with⟨j,k,e,m,l⟩|⟨j,k,b,e,m,x,l⟩
 ·subst m;let⟨z,hd,vs,i,n⟩:=sW I.hok e;refine wpAny_in_of (nS t) hd n.mapOf ?_;rw[<-(i.val k).gD,<-l];exact h _ (I.tok _)
 ·subst m;cases(show u=Value.ref b from t);let⟨z,hd,C,i,n⟩:=xJ I.hok e;refine wpAny_in_heap (tupleKind_room_in1 v) (qt I.hok x) hd n ?_;have q:=(i.val k).gD;rw[zbw] at q;rw[<-q,<-l];exact h _ (I.tok _)
def LR(v:A.units+1<cLine)(I:Inv X pins σ H s)(g:rg H a y o)(t:RelV y u)(h:∀s',Inv X pins σ H s'->Q (.bool (!o.isSome)) s'):
  yar (model X.prog X.w) A (yan .NotIn u (.ref a)) Q E s:=by
 rcases g with⟨j,k,e,m,l⟩|⟨j,k,b,e,m,x,l⟩
 ·subst m;let⟨z,hd,vs,i,n⟩:=sW I.hok e;refine wpAny_notIn_of (nS t) hd n.mapOf ?_;rw[<-(i.val k).gD,<-l];exact h _ (I.tok _)
 ·subst m;cases(show u=Value.ref b from t);let⟨z,hd,C,i,n⟩:=xJ I.hok e;refine wpAny_notIn_heap (tupleKind_room_in1 v) (qt I.hok x) hd n ?_;have q:=(i.val k).gD;rw[zbw] at q;rw[<-q,<-l];exact h _ (I.tok _)
def lJ(I:Inv X pins σ H s)(h:R1 (H a))(i:Heap.SameBut a s.heap h')(j:∃q,h'.get? a=some q)(new:aQ X.prog X.w (upd H a d) h' a d):
  Inv X pins σ (upd H a d) {s with heap:=h',toks:=t'}:=
 I.write (x:=a) (e:=a) h (.inl rfl) (λb q l z=>(i.2 b l).trans z) j new
def Ia(z:kvs.length<=yag)(hd:(a==yas)=false)(e:KV kvs vs)(dd:h'.DictOf (bA P w) a vs):
  aQ P w H' h' a (.dK kvs):=⟨z,hd,vs,e,dd⟩
def D7(Y:A.units+1<cLine)(I:Inv X pins σ H s)(g:EE H a y v H')(L:RelV y u)(O:RelV v r)(h:∀s',Inv X pins σ H' s'->d () s'):
  yar (model X.prog X.w) A (setItem (.ref a) u r) d E s:=by
 rcases g with⟨j,k,e,C,l,F⟩|⟨j,k,b,e,C,U,l,F⟩
 ·subst C F;let⟨z,hd,vs,i,G⟩:=Cf I.hok e;have hz:vs.length<=yag:=by rw[<-i.length];exact z
  have x:(putK j k v).length<=yag:=by have:=fX j k v;lia
  refine wpAny_setItem_pairs (nS L) G λP m t=>h _ ?_;have Z:∃q,P.get? a=some q:=by let⟨q,_,_,n,_⟩:=m;exact⟨q,n⟩
  exact lJ I (by rw[e];exact True.intro) t Z (Ia x hd (i.put k O) m)
 ·subst C F;cases(show u=Value.ref b from L);let⟨z,hd,W,i,G⟩:=Uu I.hok e;have hz:W.length<=yag:=by rw[<-Paired.length i];exact z
  have x:(putK j k v).length<=yag:=by have:=fX j k v;lia
  refine wpAny_setItem_heap (tupleKind_room_in1 Y) (qt I.hok U) G λP m t=>h _ ?_;let⟨q,es,ep,n,h2,h3,h4,_,h5⟩:=m;refine lJ I (by rw[e];exact True.intro) t ⟨q,n⟩ ⟨x,hd,_,(i.put k U O).keeps λc ys S=>?_,q,es,ep,n,h2,h3,h4,h5⟩;rw[aM (TZ S e (λz=>nomatch z))];exact S
end
section
variable {σ:St}{k:Key}
def Ux(I:Inv X pins σ H s)(e:Rd H a (.dK kvs))(h:∀t s',Inv X pins σ H s'->Q (.int kvs.length t) s'):yar (model X.prog X.w) A (call (.builtin "len") [.ref a]) Q E s:=by
 let⟨z,hd,vs,i,j⟩:=sW I.hok e;refine call_len_dict hd j (by rw[<-i.length];rw[yaf] at z;lia) ?_;rw[<-i.length];exact h _ _ (I.tok _)
end
def yw(i:Expr):Prop:=∀a e,subscripted i false a e=operate [a,e] (getItem a e)
def tZ(y:typeLookup (.type T) "__getitem__"=pure (some (.builtin g)))(v:yw d)(h:yar (model prog w) A (eval value env) (λo m=>yar (model prog w) A (eval d env) (λi e=>e.TypeIs o T/\yar (model prog w) A (getItem o i) Q E e) E m) E s):
  yar (model prog w) A (eval (.Subscript value d pos) env) Q E s:=by
 refine Subscript_ (yac h (λo m t=>yac t (λi e j=>?_) λ_ _ x=>x) λ_ _ x=>x);let⟨u,j⟩:=j;refine yaa ?_;refine yaa (wpAny_specialOf u y ?_);have n:yar (model prog w) A (subscripted d false o i) (λr l=>yar (model prog w) A (letTemporaryGo value o r >>= λ_=>pure r) Q E l) E e:=by
  rw[v o i];exact wpAny_operating (yac j (λr l q=>yaa (wpAny_letTemporaryGo (yab q))) λ_ _ x=>x)
 first
  |exact yab (yaa n)
  |exact yaa (yab (yaa n))
  |exact yaa n
def xO(I:Inv X pins d H s)(g:rg H a q o):s.TypeIs (.ref a) "dict":=by
 rcases g with⟨h,k,e,_,_⟩|⟨h,k,b,e,_,_,_⟩
 ·let⟨_,_,vs,_,i⟩:=sW I.hok e;exact i.typeIs
 ·let⟨_,_,l,_,i⟩:=xJ I.hok e;exact i.typeIs
def E1(i ty:TE):TE:=λe H Q=>i e H λx j=>ty e j λy h=>∃a v,x=.ref a/\rg h a y (some v)/\Q v h
def Gb(j ty i:TE):TS:=λD e H=>i e H λv n=>j e n λx m=>ty e m λy l=>∃a h,x=.ref a/\EE l a y v h/\D.nx e h
section
variable {o i:Expr}{tpos:Pos}{td ty tv:TE}
def dB(L:X.A.units+1<cLine)(P:PE X o td)(S:PE X i ty)(O:yw i):PE X (.Subscript o i pos) (E1 td ty):=by
 intro e s n H Q I h;refine tZ PySem.F.slot_dict_getitem.lookup O (bW (P e s n H _ I h) λu t l=>?_);let⟨x,Z,W,E,G⟩:=l;refine bW (S e t n Z _ W G) λiv s2 j=>?_;let⟨y,Y,q,C,a,v,ex,g,q2⟩:=j;subst ex;obtain rfl:u=Value.ref a:=E;exact⟨xO q g,D8 L q g C λw' s3 U m=>⟨v,Y,U,m,q2⟩⟩
def kU(O:X.A.units+1<cLine)(Q:PE X o td)(S:PE X i ty)(L:PE X value tv)(P:yat value (some (.Subscript o i pos')) pos.line X.env=pure false):
  PS X (.Assign [.Subscript o i pos'] value pos) (Gb td ty tv):=by
 intro e s j H D I h;refine wpAny_Assign_Subscript (bW (L e s j H _ I h) λr t n=>?_) P;let⟨v,H1,Z,F,G⟩:=n;refine bW (Q e t j H1 _ Z G) λu q m=>?_;let⟨x,H2,Y,E,q2⟩:=m;refine bW (S e q j H2 _ Y q2) λiv s3 l=>?_;let⟨y,H3,W,C,a,H4,ex,g,q3⟩:=l;subst ex;obtain rfl:u=Value.ref a:=E;exact D7 O W g C F λs4 U=>⟨j,H4,U,q3⟩
end
def xN(h:Heap)(a:yas<h.objs.size):aQ P w H (h.push {cls:=.type "dict",data:=.dict #[]}) h.objs.size (.dK []):=
 ⟨zcT _,beq_eq_false_iff_ne.mpr (Ne.symm (zcE a)),[],.nil,Heap.DictOf.new h⟩
def EY:TE:=λ_ H Q=>∀p,H p=none->Q (.ref p) (upd H p (.dK []))
def fG:PE X (.Dict [] [] pos) EY:=λe s i H Q I h=>
 wpAny_Dict_empty ⟨.ref s.heap.objs.size,_,I.laid (a:=s.heap.objs.size) (o:=.dK []) (t':=s.toks) (λ_ _ q=>zas _ q) (zcS _) (xN s.heap I.big),rfl,h _ (I.hok.fresh (zcS _))⟩
def tX:List (TE×TE)->St->Hp->(List (V×V)->Hp->Prop)->Prop
 |[],_,H,Q=>Q [] H
 |(tk,tv)::r,σ,H,Q=>tk σ H λx i=>tv σ i λy h=>tX r σ h λa e=>Q ((x,y)::a) e
abbrev VV:List (V×V)->List (yai×yai)->Prop:=Paired λp q=>RelV p.1 q.1/\RelV p.2 q.2
def U6(X:Cx)(pos:Pos)(h:List (Option Expr))(a:List Expr)(AZ:List (TE×TE)):Prop:=
 ∀(e:List (Addr×Obj))(s:yah)(i:St)(H:Hp)(Q:List (V×V)->Hp->Prop),Inv X e i H s->tX AZ i H Q->
  yar (model X.prog X.w) X.A (evalPairs (pairTrees h a X.env pos)) (λvs m=>∃j l,Inv X e i l m/\VV j vs/\Q j l) X.xe s
def uB:U6 X pos [] [] []:=λa s e H Q I h=>pairTrees_nil_walk ⟨[],H,I,.nil,h⟩
def iP(O:PE X k tk)(G:PE X d r)(L:U6 X pos g vs AZ):
  U6 X pos (some k::g) (d::vs) ((tk,r)::AZ):=by
 refine λa s e H Q I h=>pairTrees_cons_walk (bW (O a s e H _ I h) λu q l=>?_);let⟨x,Z,U,C,E⟩:=l;refine bW (G a q e Z _ U E) λw2 o j=>?_;let⟨y,Y,S,t,q2⟩:=j;refine bW (L a o e Y _ S q2) λws s3 i=>?_;let⟨F,W,P,m,q3⟩:=i;refine⟨(x,y)::F,W,P,.cons ⟨C,t⟩ m,q3⟩
noncomputable def iV(kvs more:List (Key×V)):List (Key×V):=more.foldl (λa e=>putK a e.1 e.2) kvs
def KV.merge:∀{more:List (Key×V)}{rs:List (Key×yai)}{kvs:List (Key×V)}{vs:List (Key×yai)},KV more rs->KV kvs vs->KV (iV kvs more) (merged vs rs):=by
 intro more rs kvs vs r;induction r generalizing kvs vs with
 |nil=>intro q;exact q
 |@cons p q ps qs h t ih=>
  intro a;have e:KV (putK kvs p.1 p.2) (stored vs q.1 q.2):=by
   have:=a.put p.1 h.2;rw[<-h.1];exact this
  exact ih e
theorem jU:∀(more kvs:List (Key×V)),(iV kvs more).length<=kvs.length+more.length
 |[],kvs=>by show kvs.length<=kvs.length+0;lia
 |p::r,kvs=>by
  have h1:=jU r (putK kvs p.1 p.2);have h2:=fX kvs p.1 p.2;show(iV (putK kvs p.1 p.2) r).length<=_;rw[zby];lia
theorem qN:∀{kvs:List (Key×V)}{ws:List (yai×yai)},VV (kvs.map λe=>(kV e.1,e.2)) ws->∃rs,Carries (bA d w) ws rs/\KV kvs rs
 |[],_,r=>by cases r;refine⟨[],True.intro,.nil⟩
 |p::kvs,_,r=>by
  cases r with
  |@cons a b as bs h t=>
   obtain⟨rs,c,q⟩:=qN t;obtain⟨i,b2⟩:=b;refine⟨(p.1,b2)::rs,⟨nS h.1,rfl,c⟩,.cons ⟨rfl,h.2⟩ q⟩
def MT(AZ:List (TE×TE)):TE:=λi H Q=>∀p,H p=none->tX AZ i (upd H p (.dK [])) λj h=>h p=some (.dK [])/\∃a:List (Key×V),j=a.map (λe=>(kV e.1,e.2))/\a.length<=15/\Q (.ref p) (upd h p (.dK (iV [] a)))
def uG(h:U6 X pos keys values AZ)(l:keys.all (·.isSome)=true)(S:keys.length=values.length)(h0:keys≠[])(u:keys.length<=15):PE X (.Dict keys values pos) (MT AZ):=by
 intro i s x H Q I q;refine wpAny_Dict_walk (knd:=bA X.prog X.w) l S h0 u (bW (h i _ x _ _ (I.laid (t':=s.toks) (λ_ _ q=>zas _ q) (zcS _) (xN s.heap I.big)) (q _ (I.hok.fresh (zcS s.heap.objs.size)))) λws s2 n=>?_);let⟨ps,H2,v,t,e,j,W,lk,q2⟩:=n;subst W;obtain⟨C,c,E⟩:=qN t;let⟨z,hd,y,F,Y⟩:=Cf v.hok e;cases F;refine⟨C,c,Y,λh' m G=>⟨.ref s.heap.objs.size,_,?_,rfl,q2⟩⟩;have hz:(iV [] j).length<=yag:=by
  have h1:=jU j [];rw[zbW] at h1;rw[yaf];lia
 have U:∃q,h'.get? s.heap.objs.size=some q:=by let⟨q,_,_,L,_⟩:=m;exact⟨q,L⟩
 exact lJ v (by rw[e];exact True.intro) G U (Ia hz hd (E.merge .nil) m)
structure M1(X:Cx)(o:Expr)(m:Str)(apos:Pos)(e:Expr)(cpos:Pos):Prop where
 base:attributeBase o m X.env (eval o X.env)=eval o X.env
 few:((yau cpos (yao [e] X.env)).all (λx=>!x.1)&&(yaE cpos (yaD [] X.env)).all (λx=>x.1.isSome)&&decide (([e]:List Expr).length+([]:List Keyword).length+(if([]:List Keyword).isEmpty then 0 else 1)<30))=true
 line:(apos.endLine==cpos.line)=true
 trees:yau cpos (yao [e] X.env)=[(false,eval e X.env)]
structure M2(X:Cx)(o:Expr)(m:Str)(apos:Pos)(e f:Expr)(cpos:Pos):Prop where
 base:attributeBase o m X.env (eval o X.env)=eval o X.env
 few:((yau cpos (yao [e,f] X.env)).all (λx=>!x.1)&&(yaE cpos (yaD [] X.env)).all (λx=>x.1.isSome)&&decide (([e,f]:List Expr).length+([]:List Keyword).length+(if([]:List Keyword).isEmpty then 0 else 1)<30))=true
 line:(apos.endLine==cpos.line)=true
 trees:yau cpos (yao [e,f] X.env)=[(false,eval e X.env),(false,eval f X.env)]
end L2
variable {te:L2.TE}
namespace HT
open PySem PyProof.Rows
section
variable {w:yak}
def Me(G:IsTup s.heap d vs.toArray)(H:IsTup s.heap b ws.toArray)(v:vs≠[])(h1:ws=[]->Q (.ref d) s)(h2:ws≠[]->Q (.ref s.heap.objs.size) {s with heap:=s.heap.push {cls:=.type "tuple",data:=.seq (vs++ws).toArray}})(hsz:vs.length+ws.length<=yag):yar (model prog w) A (binaryOp .Add (.ref d) (.ref b)) Q E s:=by
 let⟨⟨cls,y,data,q⟩,m,x,n,hd⟩:=id G;let⟨⟨C,l,o,h⟩,a,j,u,i⟩:=id H;subst x hd j i;have e:vs.toArray++ws.toArray=(vs++ws).toArray:=by simp
 by_cases hw:ws=[]
 ·exact concat_meets ⟨_,m,rfl⟩ ⟨_,a,rfl⟩ noFill_tuple_add seq_tuple_add PySem.F.slot_tuple_add PySem.F.entry_tuple_add (PySem.F.args_tuple_add_2 _ _)
   (tuple_addW1 d b vs.toArray ws.toArray n u y l q h (by simp_all) (by simp[hw])) ⟨m,a,h1 hw⟩
 ·refine concat_meets ⟨_,m,rfl⟩ ⟨_,a,rfl⟩ noFill_tuple_add seq_tuple_add PySem.F.slot_tuple_add PySem.F.entry_tuple_add (PySem.F.args_tuple_add_2 _ _)
   (tuple_addW2 d b vs.toArray ws.toArray n u y l q h (by simp_all) (by simp_all) (by simp_all)) ⟨m,a,?_⟩
  rw[e];exact h2 hw
noncomputable def cC(n d:Nat):Option Int->Nat
 |none=>d
 |some v=>if v<0 then(v+(n:Int)).toNat else min v.toNat n
def kL(n d k:Nat):cC n d (some (k:Int))=min k n:=by
 rfl
def Ph(n d:Nat)(hd:d<=n)(o:Option Int):cC n d o<=n:=by
 cases o with
 |none=>exact hd
 |some v=>
  show(if v<0 then(v+n).toNat else min v.toNat n)<=n;by_cases a:v<0
  ·lia
  ·rw[yIn a];exact Nat.min_le_right _ _
def Cs(v:Int)(n d:Nat):(if v<0 then max (v+(n:Int)) 0 else min v (n:Int))=((cC n d (some v):Nat):Int):=by
 show(if v<0 then max (v+n) 0 else min v n)=(((if v<0 then(v+n).toNat else min v.toNat n):Nat):Int);by_cases a:v<0
 ·simp_all
 ·lia
def Ax(lo a:Option Int)(n:Nat):Builtin.Slice.sliceAdjust lo a 1 (n:Int)=(((cC n 0 lo:Nat):Int),((cC n n a:Nat):Int)):=by
 refine Prod.ext ?_ ?_
 ·cases lo with
  |none=>rfl
  |some v=>exact Cs v n 0
 ·cases a with
  |none=>rfl
  |some v=>exact Cs v n n
def zB(i j:Nat):Builtin.Slice.slicePlaces (i:Int) (j:Int) 1=j - i:=by
 unfold Builtin.Slice.slicePlaces;split<;>lia
def pI(p:IsPart d o)(h:g o s):yar (model prog w) A (Builtin.Slice.slicePartIndex d) g E s:=by
 cases p with
 |none=>exact slicePart_none h
 |int i t=>exact slicePart_int h
def gu(m:s.heap.IsSliceOf d g k .none)(pl:IsPart g q)(pu:IsPart k r)(h:z (((cC n 0 q:Nat):Int),1,cC n n r - cC n 0 q) s):yar (model prog w) A (Builtin.Slice.sliceApplied (.ref d) (pure (n:Int))) z E s:=by
 let⟨os,a,o,i⟩:=id m;refine yaa (yaa (wpAny_field a i rfl (yaa (wpAny_field a i rfl (yaa (wpAny_field a i rfl (yab ?_)))))));refine yaa (slicePart_none ?_);refine yaa (pI pl (yaa (pI pu (yaa (yab ?_)))));show yar _ _ (match Builtin.Slice.sliceAdjust q r 1 n with|(q,r)=>pure (q,(1:Int),Builtin.Slice.slicePlaces q r 1)) _ _ s;rw[Ax q r n];show yar _ _ (pure (((cC n 0 q:Nat):Int),(1:Int),Builtin.Slice.slicePlaces ((cC n 0 q:Nat):Int) ((cC n n r:Nat):Int) 1)) _ _ s;rw[zB];exact yab h
def GK(a:Array yai)(i k:Nat):((zcX k).filterMap λ(m:Nat)=>a[((i:Int)+(m:Int)*1).toNat]?).toArray=((a.toList.drop i).take k).toArray:=by
 have e:(λ(m:Nat)=>a[((i:Int)+m*1).toNat]?)=λm=>a[i+m]?:=by
  funext m;have:((i:Int)+m*1).toNat=i+m:=by lia
  rw[this]
 have:=pick_run a i k;have h:((λx=>a[x]?) ∘ λx=>i+x)=λm=>a[i+m]?:=rfl;simp_all
def lA(e:IsTup s.heap d items)(x:s.heap.IsSliceOf g k q .none)(pl:IsPart k r)(pu:IsPart q z)(hw:¬(cC items.size 0 r=0/\cC items.size items.size z=items.size))(h:Q (.ref s.heap.objs.size) {s with heap:=s.heap.push {cls:=.type "tuple",data:=.seq ((items.toList.drop (cC items.size 0 r)).take (cC items.size items.size z - cC items.size 0 r)).toArray}})(hsz:items.size<=yag):yar (model prog w) A (getItem (.ref d) (.ref g)) Q E s:=by
 have i:=by
  show((items.toList.drop (cC items.size 0 r)).take (cC items.size items.size z - cC items.size 0 r)).toArray.size<=yag;rw[zbf,zbz,zbA,zaN];omega
 let⟨os,j,n,y⟩:=id x;have o:s.TypeIs (.ref g) "slice":=⟨os,j,n⟩
 unfold getItem
 try with_reducible refine yad ?_
 refine yaa (wpAny_sequenceKey e.typeIs (by decide) ?_);refine yaa (wpAny_callSpecial?_slot e.typeIs PyProof.Rows.slot_tuple_getitem (wpAny_call_entry PyProof.Rows.slot_tuple_getitem e.typeIs entry_tuple_getitem ?_ (args_tuple_getitem _ _)));show yar _ _ (Builtin.Tuple.tupleItemsOf (.ref d) >>= _) _ _ s;refine yaa (tupleItemsOf_ e ?_);refine yaa (wpAny_typeOf o ?_);refine yaa (gu x pl pu ?_);have l:¬((((cC items.size 0 r:Nat):Int)==0&&(1:Int)==1&&(cC items.size items.size z - cC items.size 0 r)==items.size)=true):=by
  simp_all
 show yar _ _ (if(((cC items.size 0 r:Nat):Int)==0&&(1:Int)==1&&(cC items.size items.size z - cC items.size 0 r)==items.size)=true then _ else _) _ _ s;rw[yIn l,GK]
 first
  |exact yaa (yae (yab ⟨_,rfl,yab h⟩) i)
  |exact yaa (m:=Builtin.Tuple.tupleExact _) (yae (yaa (yab (yab ⟨_,rfl,yab h⟩))) i)
  |exact yaa (yaa (m:=Builtin.Tuple.tupleExact _) (yae (yab (yab ⟨_,rfl,yab h⟩)) i))
  |exact yaa (yaa (m:=Builtin.Tuple.tupleExact _) (yae (yab ⟨_,rfl,yab h⟩) i))
end
end HT
namespace L2
open PySem PySem.Spec PyProof.Rows
abbrev TO:=St->Hp->(Option Int->Hp->Prop)->Prop
def PO(X:Cx)(e:Option Expr)(t:TO):Prop:=
 ∀(a:List (Addr×Obj))(s:yah)(h:St)(H:Hp)(Q:Option Int->Hp->Prop),Inv X a h H s->t h H Q->
  yar (model X.prog X.w) X.A (evalPart e X.env) (λu j=>∃o i,Inv X a h i j/\IsPart u o/\Q o i) X.xe s
def A3:TO:=λ_ H Q=>Q none H
def MM(t:TE):TO:=λa H Q=>t a H λx e=>∃i,x=.int i/\Q (some i) e
def intsAre_of:∀{us:List yai},Vals (ns.map V.int) us->IntsAre us ns:=by
 induction ns with
 |nil=>intro us r;cases r;exact .nil
 |cons n ns ih=>
  intro us r;cases r with
  |cons r1 r2=>
   let⟨t,e⟩:=r1;subst e;exact .cons n t (ih r2)
section
variable {lo hi:Option Expr}{tl th:TO}
def dz:PO X none A3:=by
 intro a s e H Q I h;exact yab ⟨none,H,I,.none,h⟩
def cH(h:PE X e te):PO X (some e) (MM te):=by
 intro a s l H Q I hw;refine bW (h a s l H _ I hw) λu y j=>?_;let⟨x,v,o,m,n⟩:=j;let⟨i,rfl,q⟩:=n;let⟨t,rfl⟩:=m;refine⟨some i,v,o,.int i t,q⟩
def JX(X:Cx)(r:V->Option Int->Option Int->Hp->VK->Prop):Prop:=
 ∀(a:List (Addr×Obj))(s:yah)(e:St)(H:Hp)(x:V)(v i h:yai)(lo hi:Option Int)(j:Addr)(Q:VK),Inv X a e H s->RelV x v->s.heap.IsSliceOf j i h .none->IsPart i lo->IsPart h hi->r x lo hi H Q->
  ∃T id,typeLookup (.type T) "__getitem__"=pure (some (.builtin id))/\s.TypeIs v T/\yar (model X.prog X.w) X.A (getItem v (.ref j)) (EP X a e Q) X.xe s
def JX.or(h:JX X r)(h':JX X d):JX X (λx lo hi H Q=>r x lo hi H Q∨d x lo hi H Q):=by
 intro a s e H x v j i lo hi l Q I m o pl pu q;obtain q|q:=q
 ·exact h a s e H x v j i lo hi l Q I m o pl pu q
 ·exact h' a s e H x v j i lo hi l Q I m o pl pu q
def WN(r:V->Option Int->Option Int->Hp->VK->Prop)(e:TE)(tl th:TO):TE:=λa H Q=>e a H λx j=>tl a j λl i=>th a i λu h=>r x l u h Q
def cu(P:JX X r)(W:PE X e te)(S:PO X lo tl)(L:PO X hi th):PE X (.Subscript e (.Slice lo hi none p2) pos) (WN r te tl th):=by
 intro a s m H Q I h;refine Subscript_ (bW (W a s m H _ I h) λv E j=>?_);let⟨x,H1,I1,F,G⟩:=j;refine wpAny_Slice (bW (S a E m H1 _ I1 G) λo C j=>?_);let⟨l,H2,I2,pl,q2⟩:=j;refine bW (L a C m H2 _ I2 q2) λn i t=>?_;let⟨u,y,I3,pu,q3⟩:=t;refine yab ?_;have Z:Inv X a m y {i with heap:=i.heap.push {cls:=.type "slice",data:=.fields #[o,n,.none]}}:=I3.kept λb ob q=>zas _ q;let⟨T,id,Y,O,U⟩:=P a {i with heap:=i.heap.push {cls:=.type "slice",data:=.fields #[o,n,.none]}} m y x v o n l u i.heap.objs.size Q Z F (Heap.IsSliceOf.new ..) pl pu q3;exact tail_any O Y U (by rfl)
noncomputable def xQ(a:List V)(lo hi:Option Int):List V:=(a.drop (HT.cC a.length 0 lo)).take (HT.cC a.length a.length hi - HT.cC a.length 0 lo)
def nW(a:List V)(lo hi:Option Int):(xQ a lo hi).length<=a.length:=by
 unfold xQ;rw[zbz,zbA];lia
def VX(K:yaI):V->Option Int->Option Int->Hp->VK->Prop:=λx lo hi H Q=>∃a e,x=.ref a/\eS K H a e/\
 ¬(HT.cC e.length 0 lo=0/\HT.cC e.length e.length hi=e.length)/\∀p,H p=none->Q (.ref p) (upd H p (.tup (xQ e lo hi)))
def OE:JX X (VX X.K):=by
 intro l s y H x v E C lo hi F Q I n u pl pu h;let⟨a,i,rfl,t,hw,q⟩:=h;cases n;let⟨j,r,m,hz⟩:=I.tuple t;have e:j.toArray.size=i.length:=by exact r.length.symm
 refine⟨"tuple",_,PyProof.Rows.slot_tuple_getitem.lookup,m.typeIs,?_⟩;refine HT.lA m u pl pu (by rw[e];exact hw) ?_ (by rw[e];exact hz);rw[e];refine⟨.ref s.heap.objs.size,_,I.laid (λb G q=>zas _ q) (zcS _) ?_,rfl,q _ (I.hok.fresh (zcS _))⟩;refine⟨zcF (nW i lo hi) hz,_,(r.drop (HT.cC i.length 0 lo)).take (HT.cC i.length i.length hi - HT.cC i.length 0 lo),IsTup.new _ _⟩
def Tn(K:yaI):R2:=λx y H Q=>∃a b h e,x=.ref a/\y=.ref b/\eS K H a h/\eS K H b e/\h≠[]/\h.length+e.length<=yag/\
 (e=[]->Q (.ref a) H)/\(e≠[]->∀p,H p=none->Q (.ref p) (upd H p (.tup (h++e))))
def Vals.uO(r:Vals xs us):us=[]↔xs=[]:=by
 cases r with
 |nil=>simp
 |cons _ _=>simp
def Ld:iy X (binaryOp .Add) (Tn X.K):=by
 intro j s U H x y v u Q I C t h;let⟨a,b,n,m,rfl,rfl,S,P,O,hz,E,q2⟩:=h;cases C;cases t;let⟨L,i,G,_⟩:=I.tuple S;let⟨l,e,F,_⟩:=I.tuple P;refine HT.Me G F (λz=>O (i.uO.mp z)) (λz=>⟨.ref a,H,I,rfl,E (e.uO.mp z)⟩) (λz=>?_) (by rw[<-i.length,<-e.length];exact hz);refine⟨.ref s.heap.objs.size,_,I.laid (λb W q=>zas _ q) (zcS _) ?_,rfl,q2 (λw=>z (e.uO.mpr w)) _ (I.hok.fresh (zcS _))⟩;refine⟨by simp_all,_,i.append e,IsTup.new _ _⟩
end
noncomputable def JU(n:Nat)(i:Int):Option Nat:=if 0<=i then(if i<n then some i.toNat else none) else if -(n:Int)<=i then some (i+n).toNat else none
noncomputable def kq{a:Type}(e:List a)(i:Int):Option a:=(JU e.length i).bind λj=>e[j]?
def Lw(h:JU n d=some j):seqIndex? d n=some j/\j<n/\-(n:Int)<=d/\d<n:=by
 unfold JU at h;by_cases a:0<=d
 ·rw[yIp a] at h;by_cases h1:d<n
  ·rw[yIp h1] at h;refine⟨by rw[seqIndex_of a h1,(zcW.inj h)],by lia,by lia,h1⟩
  simp_all
 ·rw[yIn a] at h;by_cases h1: -n<=d
  ·rw[yIp h1] at h;refine⟨by rw[seqIndex_neg (by lia) h1,(zcW.inj h)],by lia,h1,by lia⟩
  simp_all
def vq{l:Type}{a:List l}{v:l}(h:kq a d=some v):∃j,seqIndex? d a.length=some j/\a[j]? =some v/\j<a.length/\-(a.length:Int)<=d/\d<a.length:=by
 unfold kq at h;cases e:JU a.length d with
 |none=>rw[e] at h;cases h
 |some j=>
  rw[e] at h;let⟨h1,h2,n,m⟩:=Lw e;refine⟨j,h1,h,h2,n,m⟩
def cL{i:Type}{a:List i}{v:i}(h:a[j]? =some v):kq a (j:Int)=some v:=by
 have l:=(zad.mp h).1;have e:JU a.length j=some j:=by
  unfold JU;simp_all
 unfold kq;rw[e];exact h
def oX(b:Expr):Prop:=∀o i,subscripted b false o i=operate [o,i] (getItem o i)
def JY(X:Cx)(r:R2):Prop:=
 ∀(h a:Expr)(e:List (Addr×Obj))(s:yah)(i:St)(H:Hp)(x y:V)(v u:yai)(Q:VK),Inv X e i H s->RelV x v->RelV y u->r x y H Q->
  subscripted a false v u=operate [v,u] (getItem v u)->yar (model X.prog X.w) X.A (subscriptTail h a v u) (EP X e i Q) X.xe s
def AJ(X:Cx)(id:String)(r:V->List V->Hp->VK->Prop):Prop:=
 ∀(a:List (Addr×Obj))(s:yah)(e:St)(H:Hp)(x:V)(h:List V)(v:yai)(i:List yai)(Q:VK),Inv X a e H s->RelV x v->Vals h i->r x h H Q->
  yar (model X.prog X.w) X.A (call (.builtin id) (v::i)) (EP X a e Q) X.xe s
section
variable {a b:Expr}{ta tb:TE}
def JY.or(h:JY X r)(h':JY X o):JY X (λx y H Q=>r x y H Q∨o x y H Q):=by
 intro e i j s l H x y v u Q I n m q t;obtain q|q:=q
 ·exact h e i j s l H x y v u Q I n m q t
 ·exact h' e i j s l H x y v u Q I n m q t
def AJ.or(h:AJ X d r)(h':AJ X d o):AJ X d (λx i H Q=>r x i H Q∨o x i H Q):=by
 intro e s j H x i v l Q I m n q;obtain q|q:=q
 ·exact h e s j H x i v l Q I m n q
 ·exact h' e s j H x i v l Q I m n q
def BI(o:JY X r)(C:PE X a ta)(t:PE X b tb)(n:oX b):PE X (.Subscript a b pos) (Si r ta tb):=by
 intro e s i H Q I h;exact Subscript_ (Rh C t I h λv u j x y F E m l q=>o a b e j i F x y v u Q E m l q (n _ _))
def Th(K:yaI):R2:=λx y H Q=>∃p e i v,x=.ref p/\y=.int i/\dS K H p e/\kq e i=some v/\Q v H
def Tf(K:yaI):R2:=λx y H Q=>∃p e i v,x=.ref p/\y=.int i/\eS K H p e/\kq e i=some v/\Q v H
def Tg:R2:=λx y H Q=>∃z i c,x=.str z/\y=.int i/\z.length<=yag/\kq z.cps.toList i=some c/\Q (.str ⟨#[c]⟩) H
def Lv:JY X (Th X.K):=by
 intro m n e s F H x y v u Q I U S h G;let⟨p,xs,i,z,rfl,rfl,W,Z,q⟩:=h;cases U;let⟨t,rfl⟩:=S;let⟨C,r,pl,hz⟩:=I.list W;let⟨j,h1,h2,h3,h4,h5⟩:=vq Z;let⟨w,O,o⟩:=r.get h2;have Y:=r.length;have hn:=qo;have l:EP X e F Q w s:=⟨z,H,I,o,q⟩
 by_cases L:0<=i
 ·have E:i.toNat=j:=by
   rw[seqIndex_of L h5] at h1;simp_all
  exact item_listR pl.isList L (by lia) (by rw[E];simpa using O) l G
 ·have E:(i+C.toArray.size).toNat=j:=by
   rw[seqIndex_neg (by lia) h4] at h1;simp_all
  exact subscriptTail_builtinR pl.isList.typeIs slot_list_getitem.lookup
   (wpAny_getItem_list_neg pl.isList (by lia) (by rw[zbf]<;>lia) (by lia) (by rw[E];simpa using O) ⟨rfl,l⟩) G
def bf:JY X (Tf X.K):=by
 intro l m e s C H x y v u Q I G F h O;let⟨p,Y,i,z,rfl,rfl,P,U,q⟩:=h;cases G;let⟨t,rfl⟩:=F;let⟨L,r,pl,hz⟩:=I.tuple P;let⟨j,h1,h2,h3,h4,h5⟩:=vq U;let⟨w,W,n⟩:=r.get h2;have S:=r.length;have Z:=qo;have o:EP X e C Q w s:=⟨z,H,I,n,q⟩
 exact subscriptTail_builtinR pl.typeIs slot_tuple_getitem.lookup
  (getItem_tuple (j:=j) pl (by lia) (by lia) (by simp_all) (by simpa using W) ⟨rfl,o⟩) O
def Qu:JY X Tg:=by
 intro e l m s S H x y v u Q I o n h C;let⟨z,i,c,rfl,rfl,hz,F,q⟩:=h;let⟨t,rfl⟩:=o;let⟨U,rfl⟩:=n;let⟨j,h1,h2,Y,L,G⟩:=vq F;have E:z.cps.toList.length=z.length:=by rfl
 rw[E] at h1 L G;have W:=qo;exact tail_any (typeIs_str s z t) slot_str_getitem.lookup (getItem_str (by
  lia) (by rw[h1];simpa using h2) ⟨.str ⟨#[c]⟩,H,I.tok _,⟨_,rfl⟩,q⟩) C
def rIx(K:yaI):R2:=λx y H Q=>Th K x y H Q∨Tf K x y H Q∨Tg x y H Q
def Qv:JY X (rIx X.K):=Lv.or (bf.or Qu)
theorem Inv.lst{i:St}{p:Addr}(I:Inv X pins i H s)(h:H p=some (.lst xs)):
  ∃(its:List yai)(n:Nat),Vals xs its/\s.heap.get? p=some {cls:=.type "list",data:=.seq its.toArray n}/\xs.length<=yag:=by
 let⟨z,its,n,r,e⟩:=I.hok p _ h;refine⟨its,n,r,e,z⟩
def ue(lo e:Option Int)(n:Nat):(sliceBounds lo e none n).1=((HT.cC n 0 lo:Nat):Int)/\(sliceBounds lo e none n).2.1=((HT.cC n n e:Nat):Int)/\(sliceBounds lo e none n).2.2=1:=by
 refine⟨?_,?_,rfl⟩
 ·cases lo with
  |none=>rfl
  |some i=>
   simp only[sliceBounds,HT.cC,Option.getD_none];by_cases h:i<0
   ·simp only[h]<;>lia
   ·simp only[h]<;>lia
 ·cases e with
  |none=>rfl
  |some i=>
   simp only[sliceBounds,HT.cC,Option.getD_none];by_cases h:i<0
   ·simp only[h]<;>lia
   ·simp only[h]<;>lia
def rD(its:List yai)(lo e:Option Int):slicePick its.toArray lo e none=((its.drop (HT.cC its.length 0 lo)).take (HT.cC its.length its.length e - HT.cC its.length 0 lo)).toArray:=by
 let⟨h1,h2,h⟩:=ue lo e its.toArray.size;unfold slicePick;rw[h1,h2,h];simp only[sliceRange_one,pick_run]<;>rfl
def VY(K:yaI):V->Option Int->Option Int->Hp->VK->Prop:=λx lo h H Q=>∃a e,x=.ref a/\dS K H a e/\∀p,H p=none->Q (.ref p) (upd H p (.lst (xQ e lo h)))
def Kf:JX X (VY X.K):=by
 intro l s C H x v F E lo j G Q I n y pl pu h;let⟨a,e,rfl,u,q⟩:=h;cases n;let⟨t,r,m,hz⟩:=I.list u;have i:=r.length;refine⟨"list",_,slot_list_getitem.lookup,m.isList.typeIs,?_⟩;refine wpAny_getItem_list_slice m.isList y pl pu .none (by simp) ?_ (by simp_all);rw[rD,<-i];refine⟨.ref s.heap.objs.size,_,I.laid (λb L q=>zas _ q) (zcS _) ?_,rfl,q _ (I.hok.fresh (zcS _))⟩;refine⟨zcF (nW e lo j) hz,_,0,(r.drop (HT.cC e.length 0 lo)).take (HT.cC e.length e.length j - HT.cC e.length 0 lo),zaO _ rfl⟩
def vp:b5 X (.type "list") (λL H Q=>∃p m,L=[.ref p]/\(dS X.K H p m∨eS X.K H p m)/\∀l,H l=none->Q (.ref l) (upd H l (.lst m))):=by
 intro x s P H L U Q I r h;let⟨p,m,rfl,y,q⟩:=h;let⟨u,rfl,S⟩:=vals1 r;cases S;have E:∀(i:List yai),Vals m i->m.length<=yag->∀(j:Heap)(v:Nat),(∀b O,s.heap.get? b=some O->j.get? b=some O)->
   j.get? s.heap.objs.size=some {cls:=.type "list",dict:=none,data:=.seq i.toArray v,slots:=#[]}->EP X x P Q (.ref s.heap.objs.size) {s with heap:=j}:=λi t hz j v kp e=>
  ⟨.ref s.heap.objs.size,_,I.laid kp (zcS _) (show aQ X.prog X.w _ j _ (.lst m) from⟨hz,i,v,t,e⟩),rfl,q _ (I.hok.fresh (zcS _))⟩
 obtain y|y:=y
 ·let⟨i,t,pl,hz⟩:=I.list y;have C:=t.length;let⟨o,F,G,n,hd⟩:=pl.isList;exact call_list_seq p (.inl rfl) F G hd (λj v kp e=>E i t hz j v kp e) (by simp_all)
 ·let⟨i,t,pl,hz⟩:=I.tuple y;have C:=t.length;let⟨o,F,G,n,hd⟩:=pl;exact call_list_seq p (.inr rfl) F G hd (λj v kp e=>E i t hz j v kp e) (by simp_all)
def rP:b5 X (.type "tuple") (λy H Q=>∃p m,y=[.ref p]/\((dS X.K H p m/\∀l,H l=none->Q (.ref l) (upd H l (.tup m)))∨(eS X.K H p m/\Q (.ref p) H))):=by
 intro i s x H y L Q I r h;let⟨p,m,rfl,h⟩:=h;let⟨u,rfl,F⟩:=vals1 r;cases F;rcases h with⟨v,q⟩|⟨v,q⟩
 ·let⟨j,t,pl,hz⟩:=I.list v;have C:=t.length;refine call_tuple_list pl.isList (λn kp=>?_) (by simp_all);have E:Inv X i x H {s with heap:=n}:=I.kept kp;have G:Inv X i x (upd H n.objs.size (.tup m)) {s with heap:=n.push {cls:=.type "tuple",data:=.seq j.toArray}}:=
   E.laid (λb o e=>zas _ e) (zcS _) (show aQ X.prog X.w _ _ _ (.tup m) from⟨hz,j,t,IsTup.new _ _⟩)
  refine⟨.ref n.objs.size,_,G,rfl,q _ (E.hok.fresh (zcS _))⟩
 ·let⟨j,t,pl,hz⟩:=I.tuple v;exact call_tuple_same pl ⟨.ref p,H,I,rfl,q⟩
def Vg(K:yaI)(T:String)(x:V)(H:Hp):Prop:=match x with
 |.str _=>T="str"
 |.int _=>T="int"
 |.ref p=>(T="list"/\∃h,dS K H p h)∨(T="tuple"/\∃o,K.lookup p=some o/\o.cls=.type "tuple"/\o.dict=none)∨
   (T="dict"/\((∃e,H p=some (.dK e))∨∃e,H p=some (.dT e)))∨(T="set"/\∃S n,H p=some (.set S n))
 |_=>False
theorem EM(I:Inv X pins d H s)(r:RelV g k)(ty:Vg X.K T g H):
  s.TypeIs k T/\∀a,k=.ref a->∃ob,s.heap.get? a=some ob/\ob.dict=none:=by
 cases g with
 |str z=>
  let⟨t,rfl⟩:=r;cases(show T="str" from ty);exact⟨typeIs_str s z t,λ_ e=>nomatch e⟩
 |int i=>
  let⟨t,rfl⟩:=r;cases(show T="int" from ty);exact⟨typeIs_int s i t,λ_ e=>nomatch e⟩
 |ref p=>
  cases r;rcases ty with⟨rfl,C,u⟩|⟨rfl,o,h,y,hd⟩|⟨rfl,h⟩|⟨rfl,S,n,h⟩
  ·let⟨q,_,pl,_⟩:=I.list u;refine⟨pl.isList.typeIs,λa e=>?_⟩;cases e;let⟨o,n,e,c,hd,_⟩:=pl;refine⟨o,e,hd⟩
  ·refine⟨⟨o,I.nT p o h,y⟩,λa e=>?_⟩;cases e;refine⟨o,I.nT _ o h,hd⟩
  ·have z:∃o,s.heap.get? p=some o/\o.ExactDict:=by
    rcases h with⟨j,h⟩|⟨j,h⟩
    ·let⟨_,_,_,_,o,_,_,e,ex,_⟩:=I.hok p _ h;refine⟨o,e,ex⟩
    ·let⟨_,_,_,_,o,_,_,e,ex,_⟩:=I.hok p _ h;refine⟨o,e,ex⟩
   let⟨o,e,ex⟩:=z;refine⟨⟨o,e,ex.1⟩,λa l=>?_⟩;cases l;refine⟨o,e,ex.2.1⟩
  ·let⟨o,_,_,_,e,ex,_⟩:=I.hok p _ h;refine⟨⟨o,e,ex.1⟩,λa l=>?_⟩;cases l;refine⟨o,e,ex.2.1⟩
 |_=>exact False.elim ty
def Ov(K:yaI)(T:String)(r:V->List V->Hp->VK->Prop)(to:TE):TE:=λh H Q=>to h H λx e=>Vg K T x e/\r x [] e Q
def VG(K:yaI)(T:String)(r:V->List V->Hp->VK->Prop)(to:TE)(t:TA):TE:=λe H Q=>to e H λx h=>Vg K T x h/\t e h λi j=>r x i j Q
variable {o:Expr}{es:List Expr}{to:TE}{t:TA}{name:Str}{T id:String}{r:V->List V->Hp->VK->Prop}
def zC(E:PlainAttrs T)(slot:Slot T name id)(m:typeOf (.builtin id)=pure (.type "method_descriptor"))(G:AJ X id r)(F:PE X o to)(j:autoParam (attributeBase o name X.env (eval o X.env)=eval o X.env) r0)(i:autoParam ((apos.endLine==cpos.line)=true) r0):PE X (.Call (.Attribute o name apos) [] [] cpos) (Ov X.K T r to):=by
 intro e s n H Q I h;refine wpAny_Call_method0_late j i (bW (F e s n H _ I h) λv y l=>?_);let⟨x,L,u,q,ty,C⟩:=l;let⟨h1,h2⟩:=EM u q ty;refine⟨T,id,E,slot,m,h1,h2,Calls.callWith_builtin rfl (PySem.evalArgs_none (G e y n L x [] v [] Q u q .nil C))⟩
def eB(U:PlainAttrs T)(slot:Slot T name id)(y:typeOf (.builtin id)=pure (.type "method_descriptor"))(Z:AJ X id r)(Y:PE X o to)(ha:PA X (e::es) t)(n:autoParam (attributeBase o name X.env (eval o X.env)=eval o X.env) r0)(q:autoParam (((yau cpos (yao (e::es) X.env)).all (λx=>!x.1)&&(yaE cpos (yaD [] X.env)).all (λx=>x.1.isSome)&&decide ((e::es).length+([]:List Keyword).length+(if([]:List Keyword).isEmpty then 0 else 1)<30))=true) r0)(m:autoParam ((apos.endLine==cpos.line)=true) r0)(W:autoParam (yao (e::es) X.env=(false,eval e X.env)::yao es X.env) r0)(j:autoParam ((yau cpos (yao es X.env)).any (·.1)=false) r0):
  PE X (.Call (.Attribute o name apos) (e::es) [] cpos) (VG X.K T r to t):=by
 intro i s u H Q I h;refine wpAny_Call_method_late n q m rfl (bW (Y i s u H _ I h) λv O l=>?_);let⟨x,H1,F,C,ty,S⟩:=l;let⟨h1,h2⟩:=EM F C ty;refine⟨T,id,U,slot,y,h1,h2,?_⟩;have E:=ha cpos i O u H1 _ F S;rw[W] at E⊢;refine Calls.callWith_builtin (by show(false||(yau cpos (yao es X.env)).any (·.1))=false;rw[j]<;>rfl) (Calls.evalArgs_plain ?_);refine bW E λG L l=>?_;let⟨vs,H2,I2,P,q2⟩:=l;exact Z i L u H2 x vs v G Q I2 C P q2
end
def WH(X:Cx)(id:String)(r:V->List V->Hp->VK->Prop):Prop:=
 ∀(a:List (Addr×Obj))(s:yah)(e:St)(H:Hp)(x:V)(h:List V)(v:yai)(i:List yai)(Q:VK),Inv X a e H s->RelV x v->Vals h i->r x h H Q->
  yar (model X.prog X.w) X.A (call (.builtin id) (v::i)) (EP X a e Q) X.xe s
def Vals.one:∀{x:V}{us:List yai},Vals [x] us->∃u,us=[u]/\RelV x u:=by
 intro x us h;cases h with
 |cons r t=>cases t;refine⟨_,rfl,r⟩
theorem Vals.zero:∀{us:List yai},Vals [] us->us=[]
 |_,.nil=>rfl
theorem Vals.dropLast(h:Vals xs us):Vals xs.dropLast us.dropLast:=by
 induction h with
 |nil=>exact .nil
 |cons r t ih=>
  cases t with
  |nil=>exact .nil
  |cons q t'=>exact .cons r ih
theorem Vals.rep(h:Vals xs us):∀k:Nat,Vals (zck k xs).flatten (zck k us).flatten
 |0=>.nil
 |k+1=>by
  exact Vals.append h (Vals.rep h k)
def Ae{h:Type}(l:List h):l.eraseIdx (l.length - 1)=l.dropLast:=by
 simp
theorem foldl_rep(its:List yai):∀(k:Nat)(a:List yai),
  List.foldl (λi h=>i++h) a.toArray (zck k its.toArray)=(a++(zck k its).flatten).toArray
 |0,a=>by simp
 |k+1,a=>by
  have e:a.toArray++its.toArray=(a++its).toArray:=by simp
  have j:(a++its)++(zck k its).flatten=a++(zck (k+1) its).flatten:=by
   grind
  rw[<-j,<-foldl_rep its k (a++its),<-e,zaJ,zbX]
section
variable {σ:St}{ys zs:List V}
def Inv.Hr{its its':List yai}(I:Inv X pins σ H s)(m:H l=some (.lst xs))(e:s.heap.get? l=some {cls:=.type "list",data:=.seq its.toArray n})(i:d its.toArray=its'.toArray)(a:Vals ys its')(hz:ys.length<=yag):
  Inv X pins σ (upd H l (.lst ys)) {s with heap:=s.heap.update l (Obj.mapSeq d),toks:=t'}:=by
 have q:=PySem.IsL.update e d;rw[i] at q;refine I.write (by rw[m];exact trivial) (.inl rfl) (λo u j h=>(zat s.heap (Obj.mapSeq d) (Ne.symm j)).trans h) ⟨_,q⟩ ?_;refine⟨hz,its',_,a,q⟩
def Inv.T7(I:Inv X pins σ H s)(a:Vals ys d)(hz:ys.length<=yag):
  Inv X pins σ (upd H s.heap.objs.size (.lst ys)) {s with heap:=s.heap.push {cls:=.type "list",data:=.seq d.toArray},toks:=t'}:=
 I.laid (λ_ _ q=>zas _ q) (zcS _) ⟨hz,d,0,a,zaO _ rfl⟩
theorem Inv.fresh(I:Inv X pins σ H s):H s.heap.objs.size=none:=I.hok.fresh (zcS _)
def Inv.wY(I:Inv X pins σ H s)(a:H l=some (.lst xs)):xs.length<=yag/\∃(its:List yai)(n:Nat),Vals xs its/\xs.length=its.length/\s.heap.get? l=some {cls:=.type "list",data:=.seq its.toArray n}:=by
 let⟨z,its,n,r,e⟩:=I.hok l _ a;refine⟨z,its,n,r,r.length,e⟩
def qg(h:n<=yag):Builtin.List.listTooLong n=false:=by
 unfold Builtin.List.listTooLong;simp_all
end
def BB:V->List V->Hp->VK->Prop:=λx vs H Q=>∃l a y,x=.ref l/\vs=[y]/\H l=some (.lst a)/\a.length<yag/\Q .bx (upd H l (.lst (a++[y])))
def DM:WH X "list.append" BB:=by
 intro i s t H x vs v E Q I m o h;let⟨l,C,y,rfl,rfl,j,hz,q⟩:=h;cases m;obtain⟨u,rfl,ru⟩:=o.one;let⟨z,a,n,r,G,e⟩:=I.wY j;refine call_meets F.slot_list_append ⟨_,e,rfl⟩ F.entry_list_append (F.args_list_append_2 _ _) (PySem.list_append l a.toArray n u (by rw[zbf];lia)) ⟨e,?_⟩;refine⟨.bx,_,I.Hr j e (by simp) (r.append (.cons ru .nil)) ?_,rfl,q⟩;rw[zaR,List.length_singleton];lia
def BA:V->List V->Hp->VK->Prop:=λx vs H Q=>∃l b e a,x=.ref l/\vs=[.ref b]/\H l=some (.lst e)/\H b=some (.lst a)/\e.length+a.length<=yag/\Q .bx (upd H l (.lst (e++a)))
def DL:WH X "list.extend" BA:=by
 intro m s S H x vs v Z Q I y C h;let⟨l,b,Y,U,rfl,rfl,o,O,hz,q⟩:=h;cases y;obtain⟨u,rfl,ru⟩:=C.one;cases ru;let⟨z,i,n,r,hl,e⟩:=I.wY o;let⟨W,a,G,E,L,P⟩:=I.wY O;have j:i.toArray.size+a.toArray.size<=yag:=by simp_all
 have t:¬(!i.toArray.isEmpty&&Builtin.List.listTooLong (i.toArray.size+a.toArray.size))=true:=by
  rw[qg j];simp
 refine call_meets F.slot_list_extend ⟨_,e,rfl⟩ F.entry_list_extend (F.args_list_extend_2 _ _)
  (AutoSeq1.list_extend_list_list_0 l i.toArray n b a.toArray G t (by lia) (by lia)) ⟨e,P,?_⟩
 refine⟨.bx,_,I.Hr o e (by simp) (r.append E) ?_,rfl,q⟩;rw[zaR];omega
def Td:V->List V->Hp->VK->Prop:=λx vs H Q=>∃l a y,x=.ref l/\vs=[]/\H l=some (.lst a)/\a[a.length - 1]? =some y/\Q y (upd H l (.lst a.dropLast))
def Qi:WH X "list.pop" Td:=by
 intro m s O H x vs v S Q I t C h;let⟨l,P,y,rfl,rfl,o,E,q⟩:=h;cases t;have j:=C.zero;subst j;let⟨z,a,n,r,L,e⟩:=I.wY o;let⟨u,G,ru⟩:=r.get E;have i:a.toArray[a.toArray.size - 1]? =some u:=by
  simp_all
 refine call_meets F.slot_list_pop ⟨_,e,rfl⟩ F.entry_list_pop (F.args_list_pop_1 _) (MeetsSeq.list_pop_last l a.toArray n u i (by rw[zbf];lia)) ⟨e,?_⟩;refine⟨y,_,I.Hr o e ?_ r.dropLast ?_,ru,q⟩
 ·simp
 ·rw[List.length_dropLast];lia
def V4:R2:=λx y H Q=>∃l b e a,x=.ref l/\y=.ref b/\H l=some (.lst e)/\H b=some (.lst a)/\e.length+a.length<=yag/\∀p,H p=none->Q (.ref p) (upd H p (.lst (e++a)))
def P6:iy X (binaryOp .Add) V4:=by
 intro j s O H x y v u Q I o m h;let⟨l,b,W,S,rfl,rfl,E,F,hz,q⟩:=h;cases o;cases m;let⟨z,i,n,r,Z,e⟩:=I.wY E;let⟨U,a,Y,t,C,L⟩:=I.wY F;refine PySem.P.add_list e L ?_ (by simp_all);have G:i.toArray++a.toArray=(i++a).toArray:=by simp
 rw[G];refine⟨.ref _,_,I.T7 (r.append t) (by rw[zaR];omega),rfl,q _ I.fresh⟩
def VZ:R2:=λx y H Q=>∃l k a,x=.ref l/\y=.int k/\H l=some (.lst a)/\-(2 ^ 63)<=k/\k<2 ^ 63/\a.length*k.toNat<=yag/\
 ∀p,H p=none->Q (.ref p) (upd H p (.lst (zck k.toNat a).flatten))
def len_rep{e:Type}(a:List e)(k:Nat):(zck k a).flatten.length=k*a.length:=by
 simp
def PU:iy X (binaryOp .Mult) VZ:=by
 intro O s σ H x y v u Q I Y W h;let⟨l,k,xs,rfl,rfl,hH,h1,h2,hz,q⟩:=h;cases Y;let⟨t,rfl⟩:=W;let⟨z,i,n,r,Z,e⟩:=I.wY hH;have o:i.toArray.size*k.toNat<=yag:=by simp_all
 have E:¬i.toArray.size*k.toNat> (2 ^ 63 - 1) / 8:=by
  have:yag<=(2 ^ 63 - 1) / 8:=by decide
  lia
 have C:¬(!Builtin.List.listFitsIndex k)=true:=by
  rw[fitsIndex_both h1 h2];exact zba
 have P:¬Builtin.List.listTooLong (i.toArray.size*k.toNat)=true:=by
  rw[qg o];simp
 have j:List.foldl (λL G=>L++G) #[] (zck (if i.toArray.isEmpty=true then 0 else k.toNat) i.toArray)=(zck k.toNat i).flatten.toArray:=by
  have f0:∀m,List.foldl (λL G=>L++G) #[] (zck m i.toArray)=(zck m i).flatten.toArray:=λm=>by
   have:=foldl_rep i m [];simp_all
  rw[f0];cases i with
  |nil=>simp
  |cons a r'=>rfl
 refine wpAny_binaryOp_repeat_ref (by decide) ⟨_,e,rfl⟩ (λS=>typeIs_int S k t) noFill_list_mul F.fills_int_mul F.slot_int_rmul repeat_list F.slot_int_index.lookup
  (call_meets F.slot_int_rmul (typeIs_int s k t) F.entry_int_rmul (F.args_int_rmul_2 _ _) (int___rmul___int_list k t l i.toArray n) ⟨e,rfl,⟨_,e,rfl⟩,call_meets F.slot_list_mul ⟨_,e,rfl⟩ F.entry_list_mul (F.args_list_mul_2 _ _) (AutoListH.list___mul___list_int_3 l i.toArray n k t C E P) ⟨e,?_⟩⟩)
 rw[j];refine⟨.ref _,_,I.T7 (r.rep k.toNat) (by rw[len_rep,Nat.mul_comm];exact hz),rfl,q _ I.fresh⟩
end L2
namespace Att
open PySem PySem.W PySem.Calls PyProof.Rows
def n5:∀(ns:List Int)(vs:List yai),WellAll d h vs (ns.map WData.int)->IntsAre vs ns:=by
 intro ns
 induction ns with
 |nil=>
  intro vs w;cases w;exact .nil
 |cons n ns ih=>
  intro vs w;cases w with
  |cons a b=>
   cases a;exact .cons _ _ (ih _ b)
theorem Dq{l:OpenLaw}(x:l.most=some n)(i:l.row.toRowW.claim.pre args=true)(s:WellAll g h k args):
  ∃a vs ns,k=[Value.ref a]/\args=[WData.list (ns.map WData.int)]/\h.get? a=some {cls:=.type "list",data:=.seq vs.toArray}/\IntsAre vs ns/\ns.length<=n:=by
 let⟨d,r,rfl,h1,h2⟩:=hasAllW_cons ((pre_splitW i).1);obtain rfl:=hasAllW_nil h2;let⟨C,rfl,y⟩:=hasW_list h1;let⟨ns,rfl⟩:=items_int y;have j:ns.length<=n:=by
  have o:=by
   have o:=(holds_andW ((pre_splitW i).2)).1;rw[x] at o;exact o
  have m:=condW_of o (w_not (w_lt w_lit (w_len_list (w_arg rfl))));simp_all
 cases s with
 |cons w1 w2=>
  cases w2;cases w1 with
  |list ho hall=>refine⟨_,_,ns,rfl,rfl,ho,n5 ns _ hall,j⟩
def Dw(l:OpenLaw)(args:List WData):l.row.toRowW.claim.post args (.bool true) args=true:=
 postW_of (r:=l.row.toRowW) (X:=(true==true))
  (show WShape.has [] (.bool true) .bool=true by rfl)
  (show(WTm.eq .res (.lit (.bool true))).value [] {args:=args,res:=some (.bool true),after:=args}=some (.bool (true==true)) from w_eq_bool (w_res rfl) w_lit) rfl
def x6{l:OpenLaw}(S:l.most=some n)(C:d.params.defaults=[])(call:∀(w:yak)(s₀ e:yah)(mg mb:Str->Option yai)(t:Addr)(o:Obj)(v u i:yai)(a:Addr)(vs:List yai)(ns:List Int),Ground q loose [] XP w s₀ mg mb e.heap->YP w e.heap->e.heap.get? t=some o->o.data=.func (docDef d.name d.params d.body d.scope v u i)->e.heap.CodeRec u d.name->mg d.name=some (.ref t)->e.heap.get? a=some {cls:=.type "list",data:=.seq vs.toArray}->IntsAre vs ns->ns.length<=n->e.gens=#[]->codeAny (model l.prog w) callerA (.call (.ref t) ⟨[.ref a],[]⟩) (λr s'=>r=.ok (.ret (.bool true))/\OldK e.heap s'.heap/\s'.os=e.os/\AllBare s'.gens) e):
  WalkO q loose XP YP l.row.toRowW d [] (λf vs=>PySem.call f vs):=by
 intro w s₀ e mg mb G Y t o v u i dV kV Q hd E I y X L F as j H O x W;obtain rfl:dV=.none:=Dflts.none I C;obtain rfl:kV=.none:=Dflts.noKw I;let⟨a,vs,ns,rfl,rfl,m,h,s⟩:=Dq S j x;refine enter_call (yax (call w s₀ e mg mb t o v u i a vs ns G Y Q (fd_plain hd) E y m h s X) λr s' P=>?_);let⟨rfl,h2,h3,Z⟩:=P;exact⟨.inl ⟨.bool true,.bool true,[],rfl,λ_=>rfl,.bool true,Dw l _,λ_=>⟨List.Pairwise.nil,λ_ U=>(nomatch U)⟩⟩,h2,h3,Z⟩
end Att
namespace L2
open PySem PySem.Spec PyProof.Rows
def rY:∀{vs:List yai}{ns:List Int},IntsAre vs ns->Vals (ns.map V.int) vs:=by
 intro vs ns h
 induction h with
 |nil=>exact .nil
 |cons n t h ih=>exact .cons ⟨t,rfl⟩ ih
def RK(H:Hp):Prop:=∀b,H b=none∨∃o a,H b=some (.B9 o (.lst a))
theorem Hz(KX:K.In g.heap)(G:g.heap.Ns yaq mg)(j:g.heap.Ns builtinsNs mb)(Y:∀x:Str,x≠"__name__"->mb x=bootBuiltins x)(I:g.heap.NoLimit)(hg:g.gens=#[])(S:g.heap.get? a=some {cls:=.type "list",data:=.seq vs.toArray})(hi:IntsAre vs ns)(hl:ns.length<=yag)(hr:aT k callerA)(F:∀base:Heap,K.In base->base.Ns yaq mg->eV P w K mg base CX k fa fd [x] sp)(y:∀(s:yah)(u:yai),yaA s fd ⟨[u],[]⟩ [(x,u)])(W:∀H:Hp,RK H->dS K H a (ns.map V.int)->sp [.ref a] H (λv _=>v=.bl true) λ_ _ _=>False)(Z:∀H e s',CX [] H g (λ_ _ _=>False) e s'->False):
  codeAny (model P w) callerA (.call (.ref fa) ⟨[.ref a],[]⟩) (λr s'=>r=.ok (.ret (.bool true))/\OldK g.heap s'.heap/\s'.os=g.os/\AllBare s'.gens) g:=by
 have rv:=rY hi;have Wf:=hi.length;have t:∀H,RK H->dS K H a (ns.map V.int)->jP P w H g.heap->(∀b,H b≠none->b=a)->(H a≠none->K.lookup a=none)->
   codeAny (model P w) callerA (.call (.ref fa) ⟨[.ref a],[]⟩) (λr s'=>r=.ok (.ret (.bool true))/\OldK g.heap s'.heap/\s'.os=g.os/\AllBare s'.gens) g:=by
  intro H hO hS hok hA hK;have Cz:∀{b:Addr}{o:Obj},g.heap.get? b=some o->H b=none->(u6 g.heap H).get? b=some o:=λe n=>HN e n;have U:∀{b:Addr}{o:Obj}{O:Array yav}{Q:Nat},g.heap.get? b=some o->o.data=.dict O Q->H b=none:=λ{b o O Q} e d=>by
   grind
  have l:∀{b:Addr}{m:Str->Option yai},g.heap.Ns b m->(u6 g.heap H).Ns b m:=λ{b m} ⟨o,O,Q,e,d,r⟩=>⟨o,O,Q,Cz e (U e d),d,r⟩
  have L:=λb o e=>Cz (KX b o e) (by
   grind)
  have hM:Mod K mg (u6 g.heap H):=⟨L,l G,⟨mb,l j,Y⟩,by let⟨mc,h1,h2⟩:=I;refine⟨mc,l h1,h2⟩⟩
  have e0:AU P w K mg (u6 g.heap H) callerA [] g H:=⟨rfl,hM,λb o e=>Lg e,Nat.le_of_eq (D3 _ _),trivial,λb j=>absurd (show b∈([]:List Addr) from j) (by simp),hok,.of_eq hg⟩
  refine yax ((F _ L (l G)).run callerA [] g H ⟨[.ref a],[]⟩ [.ref a] [.ref a] _ _ hr e0 (y g (.ref a)) (.cons rfl .nil) (W H hO hS)) λr s' h=>?_;cases r with
  |error e=>exact(Z H e s' h).elim
  |ok fl=>
   cases fl with
   |next=>exact False.elim h
   |brk=>exact False.elim h
   |cont=>exact False.elim h
   |ret u=>
    let⟨v,H',os,bare,un,E,r',q⟩:=h;subst q;obtain rfl:u=Value.bool true:=r';refine⟨rfl,OldK.of_keep λb o e=>?_,os,bare⟩;cases q:H b with
    |none=>exact un.keep b o e q (by intro z;exact absurd (show b∈([]:List Addr) from z) (by simp)) (by simp)
    |some u=>
     obtain z|⟨ob,xs,z⟩:=hO b
     ·simp_all
     ·let⟨e1,_⟩:=hok b _ z;let⟨e2,_⟩:=E b _ (un.rM b ob _ z);simp_all
 cases X:K.lookup a with
 |some o=>
  have e:=KX a o X;rw[S] at e;cases e;refine t (λ_=>none) (λ_=>.inl rfl) (.inr ⟨_,vs.toArray,_,X,rfl,rfl,rfl,by simp_all,by simpa using rv⟩) (λb u z=>by cases z) (λb z=>absurd rfl z) λz=>absurd rfl z
 |none=>
  refine t (λb=>if b=a then some (.B9 {cls:=.type "list",data:=.seq vs.toArray} (.lst (ns.map V.int))) else none) (λb=>?_) (.inl (.inr ⟨{cls:=.type "list",data:=.seq vs.toArray},yIp rfl⟩)) (λb u z=>?_) (λb z=>?_) λ_=>X
  ·grind
  ·by_cases j:b=a
   ·cases ((yIp j).symm.trans z);subst j;refine⟨S,by simp_all,vs,_,rv,S⟩
   ·cases ((yIn j).symm.trans z)
  simp_all
def J0{l:PySem.W.OpenLaw}{K:Params->yaI}{CX:yak->JN}{sp:yak->Sp}(S:l.most=some n)(E:n<=yag)(L:d.params.defaults=[])(Q:aT k callerA)(hY:∀(w:yak)(h:Heap),YP w h->(K w.params).In h)(F:∀(w:yak)(mg:Str->Option yai)(y:Addr)(h:Heap),(K w.params).In h->h.Ns yaq mg->mg d.name=some (.ref y)->∃fd:yap,(∀(s:yah)(u:yai),yaA s fd ⟨[u],[]⟩ [(x,u)])/\∀base:Heap,(K w.params).In base->base.Ns yaq mg->eV l.prog w (K w.params) mg base (CX w) k y fd [x] (sp w))(C:∀(w:yak)(H:Hp)(a:Addr)(ns:List Int),ns.length<=n->RK H->dS (K w.params) H a (ns.map V.int)->sp w [.ref a] H (λv _=>v=.bl true) λ_ _ _=>False)(O:∀(w:yak)(H:Hp)(s:yah)(e:yai)(s':yah),CX w [] H s (λ_ _ _=>False) e s'->False):
  PySem.W.WalkO q loose XP YP l.row.toRowW d [] (λf vs=>PySem.call f vs):=by
 refine Att.x6 S L λw s₀ m mg mb y o pm cd doc a vs ns G Y ho hd X I t j i U=>?_;have P:=hY w _ Y;let⟨fd,Z,hF⟩:=F w mg y _ P G.T.g I;exact Hz P G.T.g G.T.b G.T.builtins G.T.nolimit U t j (zcF i E) Q hF Z (λH hO hS=>C w H a ns i hO hS) λH e s'=>O w H m e s'
noncomputable def inClass(s:Stmt)(j:Nat):Stmt:=match s with
 |.ClassDef _ _ _ body _ _ _ _ _ _ _=>body.getD j (.Pass ⟨0,0,0,0⟩)
 |_=>.Pass ⟨0,0,0,0⟩
noncomputable def cK(s:Stmt):Arguments:=match s with
 |.FunctionDef _ a _ _ _ _ _ _ _ _=>a
 |_=>{posonlyargs:=[],args:=[],vararg:=none,kwonlyargs:=[],kw_defaults:=[],kwarg:=none,defaults:=[]}
noncomputable def bH(s:Stmt):List Stmt:=match s with
 |.FunctionDef _ _ b _ _ _ _ _ _ _=>b
 |_=>[]
noncomputable def aj(s:Stmt):Scope:=match s with
 |.FunctionDef _ _ _ _ _ _ sc _ _ _=>sc
 |_=>{kind:=.function,names:=[],isGenerator:=false,isCoroutine:=false}
abbrev oZ:JN:=λ_ _ _ _ _ _=>False
abbrev E0:XK:=λ_ _ _=>False
def BJ:Passes oZ X E0:=λ_ _ _ _ _ _ _ h=>h.elim
structure JK(K:yaI)(x qual:Str)(st:Stmt)(f:Addr)(fd:yap):Prop where
 ex:∃(oc:yai)(od:Option Addr)(kV doc pm:yai)(an:Option Addr)(cdv ct:yai)(osl:Array (Option yai)),
  fd=zcN x qual (cK st) (bH st) (aj st) .none kV doc pm an cdv ct/\K.lookup f=some ⟨oc,od,.func fd,osl⟩/\zcn K cdv qual=true
 kp:zcm K (.ref f)=true
section
variable {w:yak}
def JK.ok(F:JK K x qual st f fd)(S:aE N ps (aj st))(len:∀vs H Q E,sp vs H Q E->vs.length=ps.length)(e:∀(a:yai)(A:yal)(outer:List Env)(s:yah)(H:Hp)(vs:List V)(Q:VK)(E:XK),aT k (A.deeper (envOfC qual (aj st) s.heap.objs.size f a))->sp vs H Q E->∃t,yj (nv oZ P w K mg base N qual (aj st) f a A outer s H E).JR (bH st) t/\t {nx:=λ_ H'=>Q .bx H',rt:=Q} (start N vs) H):eV P w K mg base oZ (k+1) f fd ps sp:=by
 let⟨oc,v,kV,o,u,y,a,ct,l,rfl,m,j⟩:=F.ex;refine Uo m j S len λA outer s H vs Q E n i=>?_;let⟨t,h,q⟩:=e a A outer s H vs Q E n i;refine⟨t,h.JR,q⟩
def JK.binds(F:JK K x qual st f fd)(h:∀(kV a i:yai)(j:Option Addr)(e ct:yai)(us:List yai),us.length=ps.length->yaz (zcN x qual (cK st) (bH st) (aj st) .none kV a i j e ct) ⟨us,[]⟩=pure (ps.zip us)):Binds K fd ps []:=by
 let⟨oc,n,kV,a,i,j,e,ct,l,rfl,o,m⟩:=F.ex;exact .all (h kV a i j e ct)
def kg(l:K.lookup f=some ⟨oc,d,.func (zcN x qual (cK st) (bH st) (aj st) .none o q r g z ct),osl⟩)(c:zcn K z qual=true)(k:zcm K (.ref f)=true):JK K x qual st f (zcN x qual (cK st) (bH st) (aj st) .none o q r g z ct):=⟨⟨oc,d,o,q,r,g,z,ct,osl,rfl,l,c⟩,k⟩
end
def bV(a:aT k A):A.units+1<cLine:=Nat.lt_of_le_of_lt (Nat.add_le_add_left (by decide:1<=64) _) a.units
def Ek:b5 X (.builtin "len") (λe H Q=>∃a kvs,e=[V.ref a]/\H a=some (.dK kvs)/\Q (.int kvs.length) H):=by
 intro i s m H e n Q I r h;let⟨a,kvs,rfl,j,q⟩:=h;let⟨u,rfl,ru⟩:=vals1 r;cases ru;exact Ux I (.inl j) λt o l=>⟨.int kvs.length,H,l,⟨t,rfl⟩,q⟩
def xu{A B:Prop}(h:B):if false=true then A else B:=by
 exact h
def xr{A B:Prop}(h:A):if true=true then A else B:=by
 exact h
def gg{c A B:Prop}[Decidable c](h1:c->A)(h2:¬c->B):if c then A else B:=by
 by_cases h:c
 ·rw[yIp h];exact h1 h
 ·rw[yIn h];exact h2 h
def iF(H H':Hp):Prop:=∀b o,H b=some o->H' b=some o
def iF.refl(H:Hp):iF H H:=λ_ _ h=>h
def iF.trans(a:iF H d)(b:iF d g):iF H g:=λc o h=>b c o (a c o h)
def iF.free(e:iF H H')(h:H' l=Option.none):H l=Option.none:=by
 cases q:H l with
 |none=>rfl
 |some o=>
  rw[e l o q] at h;cases h
def iF.seq(e:iF H H')(h:dS K H a xs):dS K H' a xs:=by
 rcases h with(h|⟨o,h⟩)|h
 ·exact .inl (.inl (e _ _ h))
 ·exact .inl (.inr ⟨o,e _ _ h⟩)
 ·exact .inr h
end L2
set_option maxHeartbeats 4000000
namespace L2
open PySem PySem.Spec PyProof.Rows
def jP.vL(ok:jP P w H h)(a:H D=none)(new:aQ P w (upd H D o) h D o):jP P w (upd H D o) h:=λb u e=>by
 by_cases i:b=D
 ·subst i;rw[bN] at e;cases e;exact new
 ·rw[aM i] at e;refine(ok b u e).stay (λ_ _ _ q=>q) (λc q=>?_) (λc j q=>?_)
  ·rw[aM (bI q a)];exact q
  ·rw[aM (bI q a)];exact q
theorem Inv.vL(I:Inv X pins σ H s)(i:H D=none)(F:X.s₀.heap.objs.size<=D)(E:D≠X.env.locals)(C:∀x c,X.env.cells.lookup x=some c->c≠D)(y:∀p∈X.pn++pins,p.1≠D)(new:aQ X.prog X.w (upd H D o) s.heap D o):Inv X pins σ (upd H D o) s:=by
 refine⟨I.ok,I.os,I.bare,⟨I.base.keep,I.base.slot,λb j e n v=>?_,I.base.there,λb l e=>?_,λb j u e=>?_,λb t e=>?_⟩,I.loc,I.cell,?_,λx c e=>?_,λp h=>?_,I.hok.vL i new,I.len⟩
 ·rw[aM (zcE (zaY (zcP e) F))];exact I.base.free b j e n v
 ·have q:=I.base.tups b l e;rw[aM (bI q i)];exact q
 ·have q:=I.base.rM b j u e;rw[aM (bI q i)];exact q
 ·let⟨m,q⟩:=I.base.tV b t e;exact⟨m,by rw[aM (bI q i)];exact q⟩
 ·rw[aM (Ne.symm E)];exact I.free
 ·rw[aM (C x c e)];exact I.iw x c e
 ·let⟨e,n,a,b,d⟩:=I.pin p h;refine⟨e,by rw[aM (y p h)];exact n,a,b,d⟩
noncomputable def lO(env:Env):List (Str×NameKind)->List (Str×Addr)->List (Str×Addr)
 |[],acc=>acc
 |(n,k)::r,acc=>lO env r (if k==NameKind.free then(n,(env.cells.lookup n).getD 0)::acc else acc)
theorem ko(env:Env):∀(l:List (Str×NameKind))(i:List (Str×Addr)),(∀n,(n,NameKind.free)∈l->∃c,env.cells.lookup n=some c)->
  (forIn l i (λ(x:Str×NameKind)(r:List (Str×Addr))=>if(x.2==NameKind.free)=true then(do let a <-cellOf env x.1;pure (ForInStep.yield ((x.1,a)::r))) else pure (ForInStep.yield r)):Sem (List (Str×Addr)))=pure (lO env l i)
 |[],i,_=>rfl
 |(n,k)::r,i,h=>by
  rw[List.forIn_cons];by_cases o:(k==NameKind.free)=true
  ·have e:k=.free:=by simp_all
   subst e;let⟨c,q⟩:=h n zaP;have t:cellOf env n=pure c:=by unfold cellOf;rw[q]
   have s:((NameKind.free==NameKind.free)=true)=True:=by simp
   simp only[s,if_true,t,pure_bind];rw[ko env r _ λm j=>h m (zaz _ j)];show _=pure (lO env r (if(NameKind.free==NameKind.free)=true then(n,(env.cells.lookup n).getD 0)::i else i));simp_all
  ·simp only[yIn o,pure_bind];rw[ko env r _ λm j=>h m (zaz _ j)];show _=pure (lO env r (if(k==NameKind.free)=true then(n,(env.cells.lookup n).getD 0)::i else i));rw[yIn o]
def jX(h:∀n,(n,NameKind.free)∈scope.names->∃c,env.cells.lookup n=some c):closureFor scope env=pure (lO env scope.names []):=by
 unfold closureFor;have e:=ko env scope.names [] h
 simp_all
theorem xU(env:Env):∀(l:List (Str×NameKind))(a:List (Str×Addr))(x:Str)(c:Addr),(lO env l a).lookup x=some c->a.lookup x=some c∨(x,NameKind.free)∈l/\c=(env.cells.lookup x).getD 0
 |[],a,x,c,h=>.inl h
 |(n,k)::r,a,x,c,h=>by
  obtain e|⟨s,q⟩:=xU env r _ x c h
  ·grind
  ·exact .inr ⟨zaz _ s,q⟩
theorem qM(env:Env):∀(l:List (Str×NameKind))(a:List (Str×Addr))(x:Str),((x,NameKind.free)∈l∨∃c,a.lookup x=some c)->∃c,(lO env l a).lookup x=some c
 |[],a,x,h=>by
  obtain h|h:=h
  ·simp at h
  ·exact h
 |(n,k)::r,a,x,h=>by
  refine qM env r _ x ?_;obtain h|⟨c,h⟩:=h
  ·obtain e|e:=zcp.mp h
   ·simp_all
   ·exact .inl e
  grind
theorem iW{scope:Scope}{env:Env}{x:Str}{k:NameKind}:∀{names:List (Str×NameKind)},(names.map λ(n,k)=>if(k==NameKind.free&&env.scope.kind== .function&&env.kindOf n==some .cell) then(n,NameKind.cell) else(n,k)).lookup x=some k->
  names.lookup x=some k∨(k=.cell/\names.lookup x=some .free)
 |[],h=>by simp at h
 |(n,j)::r,h=>by
  have i:=@iW scope env x k r;grind
theorem kP{scope:Scope}{env:Env}{x:Str}:∀{names:List (Str×NameKind)},names.lookup x=some .free->∃k,(k=NameKind.cell∨k=.free)/\
  (names.map λ(n,k)=>if(k==NameKind.free&&env.scope.kind== .function&&env.kindOf n==some .cell) then(n,NameKind.cell) else(n,k)).lookup x=some k
 |[],h=>by simp at h
 |(n,j)::r,h=>by
  have e:=@kP scope env x r;rw[zbB] at h;rw[zcq,zbB];by_cases i:(j==NameKind.free&&env.scope.kind== .function&&env.kindOf n==some .cell)=true
  ·simp only[i,if_true];cases a:x==n with
   |true=>refine⟨.cell,.inl rfl,rfl⟩
   |false=>rw[a] at h;exact e h
  ·simp only[yIn i];cases a:x==n with
   |true=>rw[a] at h;refine⟨.free,.inr rfl,h⟩
   |false=>rw[a] at h;exact e h
noncomputable def rO(caps:List (Option Nat))(a:St):St:=caps.map λo=>o.bind λi=>(a[i]?).getD none
noncomputable def jY(XN:List Str)(env:Env)(scope:Scope)(N:List Str)(caps:List (Option Nat)):Bool:=
 caps.length==N.length&&(caps.zip N).all λp=>match p.1 with
  |none=>scope.names.lookup p.2==some .local
  |some i=>XN[i]? ==some p.2&&scope.names.lookup p.2==some .free&&(env.scope.names.lookup p.2==some .cell||env.scope.names.lookup p.2==some .free)
noncomputable def jM(X:Cx)(scope:Scope)(N:List Str)(s₀:yah)(H₀:Hp)(C:Addr)(fp:List Addr):Cx where
 prog:=X.prog
 w:=X.w
 K:=X.K
 mg:=X.mg
 base:=X.base
 A:=X.A
 N:=N
 s₀:=s₀
 H₀:=H₀
 env:=compEnvC scope (lO X.env scope.names []) C X.env
 outer:=X.stack
 stack:=X.stack
 ex:=fp
 fn:=λ_=>false
 calm:=X.calm
 pn:=[]
 xe:=λ_ _=>False
structure eO(scope:Scope)(N:List Str):Prop where
 kind:scope.kind=.function
 nd:N.Nodup
 G6:∀y∈scope.names,y.2≠ .cell
 names:∀y∈scope.names,scope.names.lookup y.1=some y.2
def Ir(h:jY XN env scope N caps=true):
  caps.length=N.length/\∀(j i:Nat)(x:Str),caps[j]? =some (some i)->N[j]? =some x->XN[i]? =some x/\scope.names.lookup x=some .free/\(env.kindOf x=some .cell∨env.kindOf x=some .free):=by
 unfold jY at h;rw[zbN] at h;let⟨h1,h2⟩:=h;refine⟨by simp_all,λj i x l e=>?_⟩;have a:(some i,x)∈caps.zip N:=by
  refine zaC (i:=j) ?_;rw[zaf];exact⟨l,e⟩
 have q:=zbC.mp h2 _ a;simp only[zbN,zcg,beq_iff_eq] at q;refine⟨q.1.1,q.1.2,q.2⟩
def Inv.block{s1:yah}(S:eO scope N)(P:jY X.N X.env scope N caps=true)(t:∀n,(n,NameKind.free)∈scope.names->∃c,X.env.cells.lookup n=some c)(I:Inv X pins σ H s)(U:∀b∈fp,nH X pins H b)(hfl:∀b∈fp,b<s.heap.objs.size)(hC:s.heap.objs.size<=C)(Q:∀b o,s.heap.get? b=some o->h1.get? b=some o)(hn:h1.Ns C d):
  Inv (jM X scope N s H C fp) [] (rO caps σ) H {s with heap:=h1,toks:=tk}:=by
 let⟨L,hat⟩:=Ir P;have F:∀x c,(lO X.env scope.names []).lookup x=some c->X.env.cells.lookup x=some c:=λx c e=>by
  obtain z|⟨z1,z2⟩:=xU X.env scope.names [] x c e
  ·simp at z
  grind
 have VU:∀x,((compEnvC scope (lO X.env scope.names []) C X.env).kindOf x=some .cell∨(compEnvC scope (lO X.env scope.names []) C X.env).kindOf x=some .free)->(x,NameKind.free)∈scope.names:=λx Z=>by
  have sub:∀k,(compEnvC scope (lO X.env scope.names []) C X.env).kindOf x=some k->scope.names.lookup x=some k∨(k=.cell/\scope.names.lookup x=some .free):=λk e=>iW (scope:=scope) e;obtain e|e:=Z
  ·obtain z|⟨_,z⟩:=sub _ e
   ·exact absurd rfl (S.G6 _ (PySem.mem_of_lookup z))
   ·exact PySem.mem_of_lookup z
  ·obtain z|⟨z,_⟩:=sub _ e
   ·exact PySem.mem_of_lookup z
   lia
 refine⟨⟨I.ok.mod,S.kind,I.ok.glob,I.ok.blt,hC,λx y c e1 e2=>I.ok.inj x y c (F x c e1) (F y c e2),λx Z=>qM X.env scope.names [] x (.inl (VU x Z)),λx c z _=>absurd (show false=true from z) zba,I.ok.hd,I.ok.frames,.inl rfl,λb E=>⟨zcE (zaY (hfl b E) hC),λx c e=>(U b E).2.2.2.2.1 x c (F x c e)⟩,I.bs,zcF I.ok.Mf I.sz,λb o e E=>?_,λb E hb2=>?_,I.stack,I.A6⟩,rfl,I.bare,Un.kept Q,⟨d,hn,λj x v e1 e2 e3=>?_⟩,λx c e=>?_,I.hok.fresh hC,λx c e=>I.iw x c (F x c e),λp hp=>absurd (show p∈([]:List (Addr×Obj)) from hp) (by simp),I.hok.kept Q,?_⟩
 ·rcases(U b E).2.2.2.1 with z|z
  ·exact I.ok.G5 b o e z
  ·exact absurd (zaY (zcP e) (zcF I.ok.Mf z)) (zcu _)
 ·obtain z|z:=zcp.mp (I.pG b hb2)
  ·exact(U b E).2.1 z
  ·exact(U b E).2.2.1 z
 ·have a:=e2;unfold rO at a;rw[zbh] at a;cases hc:caps[j]? with
  |none=>rw[hc] at a;cases a
  |some o=>
   rw[hc] at a;cases o with
   |none=>cases a
   |some i=>
    have e5:σ[i]? =some (some v):=by
     cases q:σ[i]? with
     |none=>simp_all
     |some y=>simp_all
    let⟨a1,a2,a3⟩:=hat j i x hc e1;let⟨mX,hnX,hl⟩:=I.loc;let⟨u,r,l⟩:=hl i x v a1 e5 (a3.elim (λz=>.inr (.inl z)) λz=>.inr (.inr z));refine⟨u,r,.inr ?_⟩;obtain⟨c,hcx,cell⟩:∃c,X.env.cells.lookup x=some c/\s.heap.IsCell c (some u):=by
     rcases l with⟨k,_⟩|⟨_,z⟩
     ·rw[k] at a3;obtain z|z:=a3<;>cases z
     ·exact z
    obtain⟨k,hk2,O⟩:=kP (scope:=scope) a2;let⟨Y,h⟩:=qM X.env scope.names [] x (.inl (PySem.mem_of_lookup a2));have hcc:=zcW.inj ((F x Y h).symm.trans hcx);subst hcc;refine⟨?_,Y,h,?_⟩
    ·obtain z|z:=hk2
     ·subst z;exact .inl O
     ·subst z;exact .inr O
    ·let⟨o,G,hd⟩:=cell;refine⟨o,Q _ _ G,hd⟩
 ·let⟨v,o,G,hd⟩:=I.cell x c (F x c e);refine⟨v,o,Q _ _ G,hd⟩
 ·show(rO caps σ).length=N.length;unfold rO;simp_all
theorem jb(I:Nat->yah->Prop)(turn:∀n s,I n s->yar (model prog w) A (pyNext it) (λr j=>match r with
   |none=>R (.ok .next) j
   |some v=>yar (model prog w) A (letOwnedTupleGo g it v) (λ_ i=>yar (model prog w) A (assign g env v) (λ_ t=>yar (model prog w) A (forIn ifs true λc r=>if r=true then do let ok <-isTrue c env (eval c env);pure (ForInStep.yield ok) else pure (ForInStep.yield r)) (λok e=>if ok=true then yar (model prog w) A (eval d env) (λx q=>yar (model prog w) A (call (.builtin "list.append") [F,x]) (λ_ o=>∃m,m<n/\I m o) (λ_ _=>False) q) (λ_ _=>False) e else∃m,m<n/\I m e) (λ_ _=>False) t) (λ_ _=>False) i) (λ_ _=>False) j) (λ_ _=>False) s)(n:Nat)(h:I n s):
  codeAny (model prog w) A (.compLoop (.ListComp d [⟨g,iter,ifs,0⟩] scope pos) 0 it F env) R s:=by
 refine codeAny_loop rfl I (λn s O=>?_) n h;refine wpAny_noted ?_;refine wpAny_noRaise ?_;refine yaa (wpAny_standAt (yaa (yac (turn n s O) (λr j y=>?_) λ_ _ l=>l)));cases r with
 |none=>exact yab y
 |some v=>
  refine yaa (yac y (λ_ i C=>?_) λ_ _ l=>l);refine yaa (yac C (λ_ t L=>yaa (yac L (λok e u=>?_) λ_ _ l=>l)) λ_ _ l=>l);cases ok with
  |false=>exact yab ⟨rfl,u⟩
  |true=>
   exact yaa (yaa (yac u (λx q H=>yaa (yac H (λ_ o G=>yab (yab ⟨rfl,G⟩)) λ_ _ l=>l)) λ_ _ l=>l))
def NV(X:Cx)(h:List Expr)(t:TT):Prop:=
 ∀(a:List (Addr×Obj))(s:yah)(e:St)(H:Hp)(Q:Bool->Hp->Prop),Inv X a e H s->t e H Q->
  yar (model X.prog X.w) X.A (forIn h true λc r=>if r=true then do let ok <-isTrue c X.env (eval c X.env);pure (ForInStep.yield ok) else pure (ForInStep.yield r)) (TP X a e Q) X.xe s
def Sa:TT:=λ_ H Q=>Q true H
def b9:NV X [] Sa:=λ_ _ _ H _ I h=>wpAny_tests_nil ⟨H,I,h⟩
def gR(h:PT X c d):NV X [c] d:=λa s e H Q I hw=>wpAny_tests_one (h a s e H Q I hw)
def MP(J:It)(g:TG)(t:TT)(u:TE)(l:St)(H:Hp)(y:List V->Hp->Prop):Prop:=
 ∃W:Nat->Nat->List V->St->Hp->Prop,(∃m,W 0 m [] l H)/\∀i m h n H,W i m h n H->
  (J.stop i H/\y h H)∨(J.go i H/\∃M:List V->St->Hp->Prop,(∀o e j,M o e j->∃q,q<m/\W (i+1) q o e j)/\∀x j,J.EJ i H x j->g x n j λa E=>t a E λb s=>if b=true then u a s λv C=>h.length<yag/\M (h++[v]) a C else M h a s)
noncomputable abbrev lobj(its:List yai)(k:Nat):Obj:={cls:=.type "list",data:=.seq its.toArray k}
def xS{RR:yai->Addr->Result->yah->Prop}(S:eO scope N)(am:jY X.N X.env scope N caps=true)(ag:∀n,(n,NameKind.free)∈scope.names->∃c,X.env.cells.lookup n=some c)(hc:X.calm=true)(hg:∀s₀ H₀ C fp,PG (jM X scope N s₀ H₀ C fp) tg g)(ht:∀s₀ H₀ C fp,NV (jM X scope N s₀ H₀ C fp) ifs tt)(he:∀s₀ H₀ C fp,PE (jM X scope N s₀ H₀ C fp) elt te)(I2:Inv X pins σ w R)(T:Turn X.prog X.w X.K tg J fp it tn)(st2:tn 0 R.heap)(f2:∀b∈fp,nH X pins w b)(h:MP J g tt te (rO caps σ) w Qd)(hRR:∀(D C:Addr) m t G (O:yah),Inv X pins σ (upd G D (.lst t)) O->G D=none->O.heap.Ns C m->nH X pins (upd G D (.lst t)) C->Qd t G->RR (.ref D) C (.ok .next) O):
  yar (model X.prog X.w) X.A (newList []) (λacc F=>yar (model X.prog X.w) X.A (newFunctionEnv scope X.env.globals (lO X.env scope.names []) [] X.env.qual none .none (some X.env)) (λae ai=>codeAny (model X.prog X.w) X.A (.compStart (.ListComp elt [⟨tg,iter,ifs,0⟩] scope pos) 0 (.ref it) acc {ae with scope:=relabel scope X.env}) (RR acc ae.locals) ai) E F) E R:=by
 have hfl:∀b∈fp,b<R.heap.objs.size:=λb l=>by
  let⟨o,e,_⟩:=T.obj 0 R.heap st2 b l;exact zcP e
 refine yae (wpAny_newFunctionEnv S.G6 (by simp) (λL hns hsb=>?_) S.kind);generalize hHD:R.heap.push {cls:=.type "list",dict:=none,data:=.seq ([]:List yai).toArray}=HD at hns hsb⊢;have hC:HD.objs.size=R.heap.objs.size+1:=by rw[<-hHD,zco]
 have hDC:R.heap.objs.size≠HD.objs.size:=by simp_all
 have QD:R.heap.objs.size<=HD.objs.size:=by simp_all
 have old:=λb o e=>
  hsb.extBut b o (by rw[hC];exact zcE (zbp (zcP e))) (zas _ (hHD▸zas _ e))
 obtain⟨W,⟨m0,w0⟩,turn⟩:=h;have IY0:=Inv.block (s1:=R) (tk:=R.toks+([]:List (Str×yai)).length) S am ag I2 f2 hfl QD old hns;have Ng:∀{H:St}{Q:Hp}{s':yah}{a:List yai}{k:Nat},Inv (jM X scope N R w HD.objs.size fp) [] H Q s'->Q R.heap.objs.size=none->s'.heap.get? R.heap.objs.size=some (lobj a k)->
   Inv (jM X scope N R w HD.objs.size fp) [(R.heap.objs.size,lobj a k)] H Q s':=λ{H Q s' a k} I hn e=>I.kW λp Y=>by
  have ep:=by simpa using Y
  subst ep;refine⟨e,hn,hDC,λz=>by
   obtain q|q:=zcp.mp (I2.pG _ z)
   ·exact absurd (q▸I2.lt) (zcu _)
   ·exact I2.TX (zcS _) q,λv z=>by cases z⟩
 have fY:∀{Q:Hp}{a:List yai}{k:Nat},(∀b∈fp,Q b=none)->∀b∈fp,nH (jM X scope N R w HD.objs.size fp) [(R.heap.objs.size,lobj a k)] Q b:=λ{Q a k} hn b l=>by
  have z:=f2 b l;refine⟨hn b l,zcE (zaY (hfl b l) QD),λq=>?_,.inl l,λx c e=>IY0.ok.Wm b l |>.2 x c e,λp Y=>?_⟩
  ·obtain q|q:=zcp.mp (I2.pG b q)
   ·exact z.2.1 q
   ·exact z.2.2.1 q
  ·have ep:p=(R.heap.objs.size,lobj a k):=by
    have:p∈[]++[(R.heap.objs.size,lobj a k)]:=Y;simp_all
   subst ep;exact zcH (hfl b l)
 have fin:∀{H:St}{G:Hp}{O:yah}{t:List V}{a:List yai}{k:Nat},Inv (jM X scope N R w HD.objs.size fp) [(R.heap.objs.size,lobj a k)] H G O->Vals t a->t.length<=yag->Qd t G->
   RR (.ref R.heap.objs.size) HD.objs.size (.ok .next) O:=λ{H G O t a k} I r hz q=>by
  have Z:=I.pin (R.heap.objs.size,lobj a k) (by simp);have IX:=I2.UH I.os I.base I.hok I.bare λb l=>⟨(f2 b l).2.2.2.1,(f2 b l).2.1,(f2 b l).2.2.2.2.1,(f2 b l).2.2.2.2.2⟩
  have fD:=I2.vc (zcS _) Z.2.1;have fC:=I2.vc QD I.free;have IT:Inv X pins σ (upd G R.heap.objs.size (.lst t)) O:=IX.vL Z.2.1 I2.sz fD.2.1 (λx c e=>fD.2.2.2.2.1 x c e) (λp Y=>fD.2.2.2.2.2 p Y) ⟨hz,a,k,r,Z.1⟩;let⟨m,hn,_⟩:=I.loc;exact hRR _ _ m t G O IT Z.2.1 hn ⟨by rw[aM (Ne.symm hDC)];exact fC.1,fC.2⟩ q
 have ac:∀F,F={R with heap:=L,toks:=R.toks+([]:List (Str×yai)).length}->
   codeAny (model X.prog X.w) X.A (.compLoop (.ListComp elt [⟨tg,iter,ifs,0⟩] scope pos) 0 (.ref it) (.ref R.heap.objs.size) (compEnvC scope (lO X.env scope.names []) HD.objs.size X.env)) (RR (.ref R.heap.objs.size) HD.objs.size) F:=by
  rintro F rfl;refine jb (λn s'=>∃i t a k H Q,Inv (jM X scope N R w HD.objs.size fp) [(R.heap.objs.size,lobj a k)] H Q s'/\tn i s'.heap/\(∀b∈fp,Q b=none)/\Vals t a/\t.length<=yag/\W i n t H Q) ?_ m0
   ⟨0,[],[],0,_,_,Ng IY0 (I2.hok.fresh (zcS _)) (hsb.extBut _ _ hDC (zas _ (hHD▸zaO _ rfl))),T.keep 0 _ _ st2 λb _ o e=>old b o e,λb l=>(f2 b l).1,.nil,zcT _,w0⟩
  intro n s3 j;let⟨i,t,a,k,H,G,I3,st3,fr3,r3,z3,w3⟩:=j;rcases turn i n t H G w3 with⟨stop,qn⟩|⟨go,M,hM,step⟩
  ·refine yac (T.done (jM X scope N R w HD.objs.size fp) rfl rfl rfl hc i _ s3 H G (λ_ _=>False) I3 (fY fr3) st3 stop) (λr O s=>?_) λ_ _ z=>z;let⟨hr,I4⟩:=s;subst hr;exact fin I4 r3 z3 qn
  ·refine yac (T.item (jM X scope N R w HD.objs.size fp) rfl rfl rfl hc i _ s3 H G (λ_ _=>False) I3 (fY fr3) st3 go) (λr O s=>?_) λ_ _ z=>z;let⟨u,hr,h4⟩:=s;subst hr;refine yac h4 (λ_ s5 s=>?_) λ_ _ z=>z;let⟨x,H5,I5,r5,y5,st5,fr5⟩:=s;have Nl:∀{τ7:St}{H7:Hp}{s7:yah},Inv (jM X scope N R w HD.objs.size fp) ([(R.heap.objs.size,lobj a k)]++j8 fp s5.heap) τ7 H7 s7->tn (i+1) s7.heap/\∀b∈fp,H7 b=none:=λ{τ7 H7 s7} I7=>by
    refine⟨T.keep _ _ _ st5 λb l o e=>(I7.pin (b,o) (zau _ (zau _ (gU l e)))).1,λb l=>?_⟩;let⟨o,e,d⟩:=T.obj _ _ st5 b l;exact(I7.pin (b,o) (zau _ (zau _ (gU l e)))).2.1
   refine yac (hg _ _ _ _ _ s5 H H5 x u _ (I5.pinned (fY fr5) (T.obj _ _ st5)) r5 (step x H5 y5)) (λ_ s6 s=>?_) λ_ _ z=>z;let⟨U,H6,I6,q6⟩:=s;refine yac (ht _ _ _ _ _ s6 U H6 _ I6 q6) (λok s7 s=>?_) λ_ _ z=>z;let⟨H7,I7,q7⟩:=s;cases ok with
   |false=>
    let⟨m',hm,w7⟩:=hM _ _ _ q7;let⟨a1,a2⟩:=Nl I7;refine⟨m',hm,i+1,t,a,k,U,H7,I7.gp,a1,a2,r3,z3,w7⟩
   |true=>
    refine yac (he _ _ _ _ _ s7 U H7 _ I7 q7) (λv s8 s=>?_) λ_ _ z=>z;let⟨y,H8,I8,r8,q8⟩:=s;let⟨hz,q8⟩:=q8;let⟨m',hm,w8⟩:=hM _ _ _ q8;let⟨a1,a2⟩:=Nl I8;have Z:=I8.pin (R.heap.objs.size,lobj a k) (zau _ (zaA _ (by simp)));have ap:=r3.length;refine wpAny_list_append_plain ⟨k,Z.1⟩ (λh' Y hs=>?_) (by rw[zbf];lia);let⟨k',Y⟩:=Y;have I9:Inv (jM X scope N R w HD.objs.size fp) [] U H8 {s8 with heap:=h'}:=
     (I8.kW (by simp)).turned (λb o l e=>(hs.2 b l).trans e) Z.2.1 Z.2.2.1 (.inr (zcS _))
      (λx c e z=>by
       let⟨v,o,ho,hd⟩:=I8.cell x c e;lia) (by intro p Y;exact absurd (show p∈([]:List (Addr×Obj))++[] from Y) (by simp))
    have hp':({s8 with heap:=h'}:yah).heap.get? R.heap.objs.size=some (lobj (a++[v]) k'):=by
     simp_all
    refine⟨m',hm,i+1,t++[y],a++[v],k',U,H8,Ng I9 Z.2.1 hp',T.keep _ _ _ a1 λb l o e=>(hs.2 b (zcE (hfl b l))).trans e,a2,r3.append (.cons r8 .nil),?_,w8⟩;rw[zaR];exact hz
 exact codeAny_compStart_list (ac _ rfl) (T.self X.A 0 _ _ _ (T.keep 0 _ _ st2 λb _ o e=>old b o e) (ac _ rfl))
noncomputable def freeOk(env:Env)(scope:Scope):Bool:=scope.names.all λp=>p.2 != .free||env.scope.names.lookup p.1==some .cell||env.scope.names.lookup p.1==some .free
theorem Inv.freeOk(I:Inv X pins σ d s)(h:freeOk X.env g=true):∀n,(n,NameKind.free)∈g.names->∃c,X.env.cells.lookup n=some c:=λn a=>by
 have q:=zbC.mp h _ a;simp only[zcg,beq_iff_eq] at q;refine I.ok.has n ?_;rcases q with(q|q)|q
 ·simp_all
 ·exact .inl q
 ·exact .inr q
def E5(caps:List (Option Nat))(i:TI)(g:TG)(j:TT)(l:TE):TE:=λa H Q=>i a H λJ m=>MP J g j l (rO caps a) m λh e=>∀p,e p=none->Q (.ref p) (upd e p (.lst h))
def uH(S:eO scope N)(j:jY X.N X.env scope N caps=true)(i:L2.freeOk X.env scope=true)(hc:X.calm=true)(Z:PI X tg iter F)(hg:∀s₀ H₀ C fp,PG (jM X scope N s₀ H₀ C fp) tg g)(U:∀s₀ H₀ C fp,NV (jM X scope N s₀ H₀ C fp) ifs k)(he:∀s₀ H₀ C fp,PE (jM X scope N s₀ H₀ C fp) d te)(W:∀x,foldedSetIterable iter X.env x=pure x:=by intro _;rfl):PE X (.ListComp d [⟨tg,iter,ifs,0⟩] scope pos) (E5 caps F g k te):=by
 intro a s E H Q I h;refine wpAny_comprehension_free rfl W (jX (I.freeOk i)) S.kind (λx P u=>u▸S.names x P) ?_;refine bW (Z a s E H _ I h) λv s1 h1=>bW h1 λO s2 h2=>?_;let⟨it,fp,tn,J,H2,rfl,I2,T,t,f2,u⟩:=h2;refine xS S j (I.freeOk i) hc hg U he I2 T t f2 u ?_;intro D C m xs H3 L IT hD Y l q;refine⟨m,Y,λh' sb=>⟨.ref D,_,?_,rfl,q D hD⟩⟩;exact IT.turned (λb o hb e=>(sb.2 b hb).trans e) l.1 l.2.1 l.2.2.2.1 l.2.2.2.2.1 l.2.2.2.2.2
def fE(hN:X.N.Nodup)(Y:X.N[i]? =some x)(G:X.env.scope.names.lookup x=some .local)(S:eO scope N)(y:jY X.N X.env scope N caps=true)(t:L2.freeOk X.env scope=true)(hc:X.calm=true)(hi:PI X tg iter wi)(hg:∀s₀ H₀ C fp,PG (jM X scope N s₀ H₀ C fp) tg g)(ht:∀s₀ H₀ C fp,NV (jM X scope N s₀ H₀ C fp) ifs tt)(he:∀s₀ H₀ C fp,PE (jM X scope N s₀ H₀ C fp) d te)(P:autoParam (yat (.ListComp d [⟨tg,iter,ifs,0⟩] scope pos) (some (.Name x pos')) k.line X.env=pure true) r0)(hs:∀x,foldedSetIterable iter X.env x=pure x:=by intro _;rfl):PS X (.Assign [.Name x pos'] (.ListComp d [⟨tg,iter,ifs,0⟩] scope pos) k) (J9 (E5 caps wi g tt te) (B6 i)):=by
 intro a s σ H D I h;rw[exec_Assign_Name_used _ _ _ _ P];refine yaa (wpAny_standAt (yaa ?_));refine yaa (yac (wpAny_comprehension_free rfl hs (jX (I.freeOk t)) S.kind (λx G W=>W▸S.names x G) (bW (hi a s σ H _ I h) λv s1 h1=>bW h1 λitv s2 h2=>?_)) (λ_ E hq=>yab (yab hq)) λ_ _ e=>e);let⟨it,fp,tn,J,H2,rfl,I2,T,O,f2,W⟩:=h2;refine xS S y (I.freeOk t) hc hg ht he I2 T O f2 W ?_;intro L C m xs H3 s4 IT hD hn n q;let⟨F,es,ep,U,u,rC⟩:=id hn;have IP:Inv X (a++[(C,F)]) σ (upd H3 L (.lst xs)) s4:=IT.kW λp hp=>(zbQ.mp hp).elim (λz=>IT.pin p (zau _ z)) λz=>by
  have e:p=(C,F):=by simp_all
  subst e;refine⟨U,n.1,n.2.1,n.2.2.1,λv z=>by simp_all⟩
 refine wpAny_assign_Name (kG (v:=.ref L) IP hN Y (.inl G) rfl (λs5 I5=>?_) (.inr G));refine⟨m,⟨F,es,ep,(I5.pin (C,F) (zau _ (zau _ (by simp)))).1,u,rC⟩,λh' sb=>⟨_,_,?_,q L hD⟩⟩;exact I5.gp.turned (λb o hb e=>(sb.2 b hb).trans e) n.1 n.2.1 n.2.2.2.1 n.2.2.2.2.1 n.2.2.2.2.2
noncomputable def VA(x:Str):It:=⟨λi _=>i<x.cps.size,λi H v a=>a=H/\∃c,x.cps[i]? =some c/\v=.str ⟨#[c]⟩,λi _=>i=x.cps.size⟩
def rW(a:A.handled=none)(I:Addr)(x:Str)(t:Tok):Walks prog w A I [I] [I] x.cps.size (SignAt x) (λi h=>h.IsStrIter I (strIterType x) x t i):=by
 unfold strIterType;split
 ·exact Walks.strAscii a I x t
 ·exact Walks.strWide a I x t
def EN(it:Addr)(x:Str)(t:Tok):Turn P w K tg (VA x) [it] it (λi h=>h.IsStrIter it (strIterType x) x t i) where
 mem:=by simp
 obj:=λi h a b l=>by
  have e:b=it:=by simp_all
  subst e;let⟨o,e,c,d⟩:=a;refine⟨o,e,λv z=>by simp_all⟩
 keep:=λi h y a k=>by let⟨o,F,r⟩:=a;refine⟨o,k it (by simp) o F,r⟩
 item:=by
  intro X Y hw Z U i j s σ H E I q a G;subst Y hw Z;let⟨f0,f1,f2,f3,f4,f5⟩:=q it (by simp);have W:=rW (prog:=X.prog) (w:=X.w) (I.ok.hd U) it x t;refine W.item i s _ _ G a λv y n hv m C=>?_;let⟨c,u,O,rfl⟩:=hv;have I1:Inv X j σ H {s with heap:=y,toks:=n}:=I.turned (λb o l e=>C b o (by simp_all) e) f0 f1 f3 f4 f5;let⟨o,F,S,L⟩:=id m;refine⟨_,rfl,xD F S L (by unfold strIterType;split<;>decide) ⟨.str ⟨#[c]⟩,H,I1,⟨u,rfl⟩,⟨rfl,c,O,rfl⟩,m,λb l=>(q b l).1⟩⟩
 done:=by
  intro X Y hw Z U i j s σ H E I q a G;subst Y hw Z;let⟨f0,f1,f2,f3,f4,f5⟩:=q it (by simp);have W:=rW (prog:=X.prog) (w:=X.w) (I.ok.hd U) it x t;have e:=G;subst e;exact W.done s _ _ a λy n C=>⟨rfl,I.turned (λb o l e=>C b o (by simp_all) e) f0 f1 f3 f4 f5⟩
 self:=λA i s Q E a h=>by
  unfold strIterType at a;split at a
  ·exact wpAny_pyIter_striter_ascii a h
  ·exact wpAny_pyIter_striter_wide a h
mutual
def bJ(K:yaI)(H:Hp):yam->V->Prop
 |.none,v=>v=.bx
 |.bool b,v=>v=.bl b
 |.int i,v=>v=.int i
 |.str x,v=>v=.str x
 |.list ds,v=>∃a e,v=.ref a/\dS K H a e/\fc K H ds e
 |.tuple ds,v=>∃a e,v=.ref a/\eS K H a e/\fc K H ds e
 |.dict _,_=>False
def fc(K:yaI)(H:Hp):List yam->List V->Prop
 |[],xs=>xs=[]
 |d::ds,xs=>∃x r,xs=x::r/\bJ K H d x/\fc K H ds r
end
def eS.same(e:∀b o,H b=some o->H' b=some o)(h:eS K H a xs):eS K H' a xs:=by
 rcases h with(h|⟨o,h⟩)|h
 ·exact .inl (.inl (e _ _ h))
 ·exact .inl (.inr ⟨o,e _ _ h⟩)
 ·exact .inr h
mutual
theorem bJ.noDict{K:yaI}{H:Hp}:∀(d:yam)(v:V),bJ K H d v->d.hasDict=false
 |.none,_,_=>rfl
 |.bool _,_,_=>rfl
 |.int _,_,_=>rfl
 |.str _,_,_=>rfl
 |.list ds,v,h=>by
  simp only[bJ] at h;obtain⟨a,e,_,_,i⟩:=h;simp only[PyData.hasDict];exact fc.noDict ds e i
 |.tuple ds,v,h=>by
  simp only[bJ] at h;obtain⟨a,e,_,_,i⟩:=h;simp only[PyData.hasDict];exact fc.noDict ds e i
 |.dict _,_,h=>by simp only[bJ] at h
theorem fc.noDict{K:yaI}{H:Hp}:∀(ds:List yam)(a:List V),fc K H ds a->PyData.hasDictAll ds=false
 |[],_,_=>rfl
 |d::ds,a,h=>by
  simp only[fc] at h;obtain⟨x,r,_,h2,e⟩:=h;simp only[PyData.hasDictAll,bJ.noDict d x h2,fc.noDict ds r e,zcw]
end
section
variable {σ:St}
mutual
theorem Inv.reads(I:Inv X pins σ H s):∀(d:yam)(v:V)(u:yai),bJ X.K H d v->RelV v u->∃as,Reads s.heap u d as
 |.none,v,u,h,r=>by
  simp only[bJ] at h;subst h;cases r;exact⟨_,.none⟩
 |.bool b,v,u,h,r=>by
  simp only[bJ] at h;subst h;cases r;exact⟨_,.bool b⟩
 |.int i,v,u,h,r=>by
  simp only[bJ] at h;subst h;obtain⟨t,rfl⟩:=r;exact⟨_,.int i t⟩
 |.str x,v,u,h,r=>by
  simp only[bJ] at h;subst h;obtain⟨t,rfl⟩:=r;exact⟨_,.str x t⟩
 |.list ds,v,u,h,r=>by
  simp only[bJ] at h;obtain⟨a,l,rfl,h2,C⟩:=h;cases r;obtain⟨j,m,⟨o,n,e,y,_,hd⟩,_⟩:=I.list h2;obtain⟨as,q⟩:=Inv.readsAll I ds l j C m;exact⟨_,.list e y hd (by simpa using q)⟩
 |.tuple ds,v,u,h,r=>by
  simp only[bJ] at h;obtain⟨a,l,rfl,h2,C⟩:=h;cases r;obtain⟨j,m,⟨o,e,y,n,hd⟩,_⟩:=I.tuple h2;obtain⟨as,q⟩:=Inv.readsAll I ds l j C m;exact⟨_,.tuple e y hd (by simpa using q)⟩
 |.dict _,_,_,h,_=>by simp only[bJ] at h
theorem Inv.readsAll(I:Inv X pins σ H s):∀(ds:List yam)(a:List V)(us:List yai),fc X.K H ds a->Vals a us->∃as,ReadsAll s.heap us ds as
 |[],a,us,h,r=>by
  simp only[fc] at h;subst h;cases r;exact⟨_,.nil⟩
 |d::ds,a,us,h,r=>by
  simp only[fc] at h;obtain⟨x,e,rfl,h2,j⟩:=h;cases r with
  |cons r1 r2=>
   obtain⟨as,i⟩:=Inv.reads I d x _ h2 r1;obtain⟨bs,q2⟩:=Inv.readsAll I ds e _ j r2;exact⟨_,.cons i q2⟩
end
def Tc(K:yaI):List V->Hp->VK->Prop:=λa H Q=>∃x d,a=[x]/\bJ K H d x/\d.showable=true/\d.depth<=100/\d.shown.length<=yag/\Q (.str d.shown) H
def Eg(v:aT k X.A):b5 X (.builtin "repr") (Tc X.K):=by
 intro l s σ H m L Q I r h;let⟨x,d,rfl,hd,n,G,hz,q⟩:=h;let⟨u,rfl,j⟩:=vals1 r;have big:∀a,u=.ref a->yar (model X.prog X.w) X.A (call (.builtin "repr") [u]) (EP X l σ Q) X.xe s:=λa e=>by
  subst e;let⟨as,E⟩:=I.reads d x _ hd j;refine repr_of_reads' E n (λz=>?_) v.gd (by have:=v.un;lia) (λb o e=>e) (λO u C F=>⟨.str d.shown,H,I.kept F,⟨_,rfl⟩,q⟩) hz
  ·rw[bJ.noDict d x hd] at z;cases z
 cases d with
 |none=>subst hd;cases j;exact PySem.P.repr_of_none ⟨.str _,H,I.tok _,⟨_,rfl⟩,q⟩
 |bool b=>subst hd;cases j;exact PySem.P.repr_of_bool ⟨.str _,H,I.tok _,⟨_,rfl⟩,by simpa only[PyData.shown] using q⟩
 |int i=>
  subst hd;let⟨t,rfl⟩:=j;exact PySem.P.repr_of_int (by simpa[PyData.showable] using n) ⟨.str _,H,I.tok _,⟨_,rfl⟩,by simpa only[PyData.shown] using q⟩
 |str y=>
  subst hd;let⟨t,rfl⟩:=j;exact PySem.P.repr_of_str ⟨.str _,H,I.tok _,⟨_,rfl⟩,by simpa only[PyData.shown] using q⟩ (by simpa only[PyData.shown] using hz)
 |list ds=>
  let⟨a,m,rfl,_⟩:=hd;exact big a j
 |tuple ds=>
  let⟨a,m,rfl,_⟩:=hd;exact big a j
 |dict _=>simp only[bJ] at hd
def V1(K:yaI):List V->Hp->VK->Prop:=λe H Q=>∃x c t u b,e=[x,c]/\RelV c u/\(∀a,RelV c a->a=u)/\lU K H x t/\PySem.W.kitOne K t u=some b/\Q (.bl b) H
def Iv:b5 X (.builtin "isinstance") (V1 X.K):=by
 intro i s σ H o y Q I r h;let⟨x,c,t,u,b,rfl,C,l,ty,e,q⟩:=h;let⟨v,j,rfl,n,a⟩:=vals2 r;cases l j a;exact DW I n ty e λm=>⟨.bl b,H,I.tok m,rfl,q⟩
def Gv:RelV (.ty d) (.type d)/\∀u',RelV (.ty d) u'->u'=.type d:=⟨rfl,λu' h=>h⟩
def zF:iy X (binaryOp .Mult) (λx y H Q=>∃i n,x=.str i/\y=.int n/\MulOk i n/\Q (.str (Txt.mul i n)) H):=by
 intro a s σ H x y v u Q I l j h;let⟨i,n,rfl,rfl,m,q⟩:=h;let⟨t,rfl⟩:=l;let⟨e,rfl⟩:=j;exact SB.mul m λe k=>⟨.str _,H,I.tok _,⟨_,rfl⟩,q⟩
def OF:JX X (λx lo m H Q=>∃y,x=.str y/\y.length<=yag/\Q (.str (Txt.slice y lo m)) H):=by
 intro e s σ H x v C n lo m E Q I G L pl pu h;let⟨y,rfl,hz,q⟩:=h;let⟨t,rfl⟩:=G;have a:∀(l u:Option (Int×Tok)),C=partValue l->n=partValue u->lo=l.map (·.1)->m=u.map (·.1)->yar (model X.prog X.w) X.A (getItem (.str y t) (.ref E)) (EP X e σ Q) X.xe s:=λl u Y W U S=>by
  let⟨o,O,P,hd⟩:=L;refine wpAny_getItem_str_slice (st:=none) ⟨o,O,P,by rw[hd,Y,W];rfl⟩ rfl ?_;subst U S;exact post_val_or_str ⟨zcF (Txt.slice_le y _ _) hz,λZ k=>⟨.str _,H,I.tok _,⟨_,rfl⟩,q⟩⟩
 refine⟨"str",_,PySem.F.slot_str_getitem.lookup,typeIs_str _ _ _,?_⟩;cases pl with
 |none=>
  cases pu with
  |none=>exact a none none rfl rfl rfl rfl
  |int j tj=>exact a none (some (j,tj)) rfl rfl rfl rfl
 |int i ti=>
  cases pu with
  |none=>exact a (some (i,ti)) none rfl rfl rfl rfl
  |int j tj=>exact a (some (i,ti)) (some (j,tj)) rfl rfl rfl rfl
theorem gK:∀{a:List Str}{its:List yai},Vals (a.map V.str) its->StrsAre its a
 |[],_,.nil=>.nil
 |y::a,_,.cons r t=>by
  let⟨h,e⟩:=(show∃t,_=Value.str y t from r)
  subst e;exact .cons y h (gK t)
def Lm:AJ X "str.join" (λx vs H Q=>∃(y:Str)(a:Addr)(e:List Str),x=.str y/\vs=[.ref a]/\dS X.K H a (e.map V.str)/\(e.map (·.length)).sum+e.length*y.length<=16777216/\Q (.str (Txt.join y e)) H):=by
 intro i s σ H x vs v o Q I j l h;let⟨y,a,e,rfl,rfl,n,hz,q⟩:=h;let⟨t,rfl⟩:=j;let⟨u,rfl,ru⟩:=vals1 l;cases ru;let⟨m,r,pl,_⟩:=I.list n;exact join_list pl.isList (by simpa using gK r) hz λC k=>⟨.str _,H,I.tok _,⟨_,rfl⟩,q⟩
end
noncomputable def notStar:Expr->Bool
 |.Starred _ _=>false
 |_=>true
def aN(es:List Expr)(env:Env)(h:notStar e=true):yao (e::es) env=(false,eval e env)::yao es env:=by
 cases e<;>first|rfl|cases h
theorem gq:∀(es:List Expr),es.all notStar=true->(yau d (yao es g)).any (·.1)=false
 |[],_=>rfl
 |e::es,h=>by
  rw[zcs,zbN] at h;rw[aN es g h.1];show(false||(yau d (yao es g)).any (·.1))=false;rw[gq es h.2];rfl
theorem vP:∀(es:List Expr),es.all notStar=true->(yau d (yao es g)).all (λx=>!x.1)=true
 |[],_=>rfl
 |e::es,h=>by
  rw[zcs,zbN] at h;rw[aN es g h.1];show(true&&(yau d (yao es g)).all (λx=>!x.1))=true;rw[vP es h.2];rfl
section
variable {es:List Expr}{t:TA}{id T:String}{r:List V->Hp->VK->Prop}
def aq(i:PE X e te)(h:PA X es t)(a:autoParam (notStar e=true) r0):PA X (e::es) (E4 te t):=K8 i h (aN es X.env a)
def V7(n:b5 X (.builtin id) r)(m:Gl X x)(l:X.mg x=none)(h:bootBuiltins x=some (.builtin id))(o:PA X (e::es) t)(j:x≠"__name__":=by decide+kernel)(a:(x==("__debug__":Str))=false:=by decide+kernel)(i:autoParam ((e::es).all notStar=true) r0):PE X (.Call (.Name x p) (e::es) [] pos) (So r t):=by
 have h2:=i;rw[zcs,zbN] at h2;exact GP n m l h o j a (aN es X.env h2.1) (gq es h2.2)
def V6(n:b5 X (.type T) r)(m:Gl X x)(l:X.mg x=none)(h:bootBuiltins x=some (.type T))(o:PA X (e::es) t)(j:x≠"__name__":=by decide+kernel)(a:(x==("__debug__":Str))=false:=by decide+kernel)(i:autoParam ((e::es).all notStar=true) r0):PE X (.Call (.Name x p) (e::es) [] pos) (So r t):=by
 have h2:=i;rw[zcs,zbN] at h2;exact Dy n m l h o j a (aN es X.env h2.1) (gq es h2.2)
end
structure Src(K:yaI)(mg:Str->Option yai)(x:Str)(ps:List Str)(st:Stmt):Prop where
 ex:∃f fd,JK K x x st f fd/\mg x=some (.ref f)/\Binds K fd ps []
structure Def(P:yaj)(w:yak)(K:yaI)(mg:Str->Option yai)(base:Heap)(k:Nat)(x:Str)(ps:List Str)(sp:Sp):Prop where
 ex:∃f fd,eV P w K mg base oZ k f fd ps sp/\mg x=some (.ref f)/\zcm K (.ref f)=true/\Binds K fd ps []
section
variable {w:yak}
def Src.def(F:Src K mg x ps st)(S:aE N ps (aj st))(len:∀vs H Q E,sp vs H Q E->vs.length=ps.length)(a:∀(f:Addr)(e:yai)(A:yal)(outer:List Env)(s:yah)(H:Hp)(vs:List V)(Q:VK)(E:XK),aT k (A.deeper (envOfC x (aj st) s.heap.objs.size f e))->sp vs H Q E->∃t,yj (nv oZ P w K mg base N x (aj st) f e A outer s H E).JR (bH st) t/\t {nx:=λ_ H'=>Q .bx H',rt:=Q} (start N vs) H):Def P w K mg base (k+1) x ps sp:=by
 let⟨f,fd,F,h,i⟩:=F.ex;refine⟨f,fd,F.ok S len (a f),h,F.kp,i⟩
end
theorem Def.imp(D:Def P w K mg base k x ps sp)(h:∀vs H Q E,d vs H Q E->sp vs H Q E):Def P w K mg base k x ps d:=by
 let⟨f,fd,F,e,i,j⟩:=D.ex;refine⟨f,fd,F.imp h,e,i,j⟩
section
variable {es:List Expr}{t:TA}{k:Nat}{sp:Sp}
def bZ(D:Def X.prog X.w X.K X.mg X.base k x ps sp)(j:aT k X.A)(n:Gl X x)(h:Passes oZ X E0)(q:PA X (e::es) t)(a:(x==("__debug__":Str))=false:=by decide+kernel)(i:autoParam ((e::es).all notStar=true) r0):
  PE X (.Call (.Name x p) (e::es) [] pos) (E6 sp [] E0 t):=by
 let⟨f,fd,F,l,m,o⟩:=D.ex;have h2:=i;rw[zcs,zbN] at h2;exact K5 F j n l m o .nil h q a (aN es X.env h2.1) (gq es h2.2)
def GL(T:String)(i:Gl X x)(h:X.mg x=none)(a:bootBuiltins x=some (.type T))(e:x≠"__name__":=by decide+kernel)(hd:(x==("__debug__":Str))=false:=by decide+kernel):PE X (.Name x pos) (tC (.ty T)):=
 K7 i h a rfl e hd
end
noncomputable def Rg(scope:Scope)(N:List Str):Bool:=
 (match scope.kind with|.function=>true|_=>false)&&decide N.Nodup&&scope.names.all λy=>y.2 != .cell&&scope.names.lookup y.1==some y.2
def qP(h:Rg scope N=true):eO scope N:=by
 unfold Rg at h;rw[zbN,zbN] at h;obtain⟨⟨h1,h2⟩,a⟩:=h;refine⟨?_,of_decide_eq_true h2,λy i=>?_,λy i=>?_⟩
 ·lia
 ·have:=(zbC.mp a) y i;simp_all
 grind
section
variable {o:Expr}{es:List Expr}{to:TE}{t:TA}{name:Str}{T id:String}{r:V->List V->Hp->VK->Prop}
def K6(i:PlainAttrs T)(slot:Slot T name id)(h:typeOf (.builtin id)=pure (.type "method_descriptor"))(l:AJ X id r)(j:PE X o to)(e:autoParam (attributeBase o name X.env (eval o X.env)=eval o X.env) r0)(a:autoParam ((apos.endLine==cpos.line)=true) r0)(m:autoParam (X.K=K) r0):PE X (.Call (.Attribute o name apos) [] [] cpos) (Ov K T r to):=by
 subst m;exact zC i slot h l j e a
def PM(m:PlainAttrs T)(slot:Slot T name id)(j:typeOf (.builtin id)=pure (.type "method_descriptor"))(q:AJ X id r)(n:PE X o to)(s:PA X (e::es) t)(h:autoParam (attributeBase o name X.env (eval o X.env)=eval o X.env) r0)(l:autoParam ((e::es).all notStar=true) r0)(i:autoParam (decide ((e::es).length+0+0<30)=true) r0)(a:autoParam ((apos.endLine==cpos.line)=true) r0)(u:autoParam (X.K=K) r0):PE X (.Call (.Attribute o name apos) (e::es) [] cpos) (VG K T r to t):=by
 subst u;have h2:=l;rw[zcs,zbN] at h2;refine eB m slot j q n s h ?_ a (aN es X.env h2.1) (gq es h2.2);rw[vP _ l];show(true&&true&&decide ((e::es).length+0+0<30))=true;rw[i];rfl
end
def VE(x:Str):Prop:=∀c∈x.cps.toList,c<128
mutual
noncomputable def wt:yam->Nat
 |.none|.bool _|.dict _=>5
 |.int i=>(PyData.shown (.int i)).length
 |.str x=>10*x.length+2
 |.list ds|.tuple ds=>nJ ds+3
noncomputable def nJ:List yam->Nat
 |[]=>0
 |d::ds=>wt d+2+nJ ds
end
mutual
def yF:yam->Prop
 |.none|.bool _=>True
 |.int i=>i.natAbs.log2<1920
 |.str x=>∀c∈x.cps.toList,c<16 ^ 8
 |.list ds|.tuple ds=>dQ ds
 |.dict _=>False
def dQ:List yam->Prop
 |[]=>True
 |d::ds=>yF d/\dQ ds
end
def xh(ts:List Str):(listText ts).length<=piled ts+3:=by
 cases ts with
 |nil=>decide+kernel
 |cons t r=>
  have h:=textFrom_length_pos r 1 (("[":Str)++(if(0:Nat)> 0 then ", " else "":String)++t) (Nat.succ_pos 0);have e:((("[":Str)++(if(0:Nat)> 0 then ", " else "":String)++t)).length=1+t.length:=by
   rw[strLen_append];rfl
  have i:(listText (t::r)).length=(textFrom 0 "[" (t::r)).length+1:=by
   show(textFrom 0 "[" (t::r)++"]").length=_;rw[strLen_append];rfl
  have a:(textFrom 0 "[" (t::r)).length=(textFrom 1 (("[":Str)++(if(0:Nat)> 0 then ", " else "":String)++t) r).length:=rfl;rw[piled_cons];lia
def tR(ts:List Str):(tupleText ts).length<=piled ts+3:=by
 unfold tupleText;rw[strLen_append,strLen_append];have h1:("(":Str).length=1:=rfl;have h2:((if(ts.length==1)=true then ",)" else ")":String):Str).length<=2:=by split<;>decide+kernel
 by_cases a:ts=[]
 ·have e:(Str.join ", " []).length=0:=rfl;lia
 ·have:=join_length_add ts a;lia
mutual
theorem shown_le:∀d:yam,yF d->d.shown.length<=wt d
 |.none,_=>by simp only[PyData.shown,wt];decide+kernel
 |.bool b,_=>by cases b<;>(simp only[PyData.shown,wt];decide+kernel)
 |.int i,_=>by simp only[wt];exact zcS _
 |.str x,h=>by
  simp only[yF] at h;simp only[PyData.shown,wt];exact StrLaws.reprText_len x h
 |.list ds,h=>by
  simp only[yF] at h;simp only[PyData.shown,wt];have h1:=shownAll_le ds h;have h2:=xh (PyData.shownAll ds);lia
 |.tuple ds,h=>by
  simp only[yF] at h;simp only[PyData.shown,wt];have h1:=shownAll_le ds h;have h2:=tR (PyData.shownAll ds);lia
 |.dict _,h=>by simp only[yF] at h
theorem shownAll_le:∀ds:List yam,dQ ds->piled (PyData.shownAll ds)<=nJ ds
 |[],_=>by simp only[PyData.shownAll,nJ];exact zcS _
 |d::ds,h=>by
  simp only[dQ] at h;simp only[PyData.shownAll,nJ];rw[piled_cons];have h1:=shown_le d h.1;have h2:=shownAll_le ds h.2;lia
end
mutual
theorem yF.show:∀d:yam,yF d->d.showable=true
 |.none,_=>rfl
 |.bool b,_=>rfl
 |.int i,h=>by simp only[yF] at h;simp only[PyData.showable];exact yDt h
 |.str x,h=>rfl
 |.list ds,h=>by simp only[yF] at h;simp only[PyData.showable];exact dQ.show ds h
 |.tuple ds,h=>by simp only[yF] at h;simp only[PyData.showable];exact dQ.show ds h
 |.dict _,h=>by simp only[yF] at h
theorem dQ.show:∀ds:List yam,dQ ds->PyData.showableAll ds=true
 |[],_=>rfl
 |d::ds,h=>by
  simp only[dQ] at h;simp only[PyData.showableAll,yF.show d h.1,dQ.show ds h.2,zcx]
end
def VE.ok(h:VE x):∀c∈x.cps.toList,c<16 ^ 8:=λc a=>zcI (h c a) (by decide)
end L2
set_option maxHeartbeats 400000
namespace PySem.W
open PySem PySem.Calls PyProof.Rows Builtin Builtin.ObjectAttr
noncomputable abbrev Ur(C:Addr)(a:Option Addr)(vs:Array yai):Obj:={cls:=.ref C,dict:=a,data:=.fields vs}
end PySem.W
set_option maxHeartbeats 1000000
set_option maxHeartbeats 4000000
namespace J
open PySem PySem.Spec PyProof.Rows L2
section
variable {w:yak}
def ND{p:List yai->Prop}(h:∀a,p [a])(us:List yai)(e:us.length=1):p us:=by
 cases us with
 |nil=>cases e
 |cons a r=>
  have e:=zaa (Nat.succ.inj e);subst e;exact h a
def EG{p:List yai->Prop}(h:∀a b,p [a,b])(us:List yai)(e:us.length=2):p us:=by
 cases us with
 |nil=>cases e
 |cons a r=>exact ND (p:=λr=>p (a::r)) (h a) r (Nat.succ.inj e)
def Iw{p:List yai->Prop}(h:∀a b c,p [a,b,c])(us:List yai)(e:us.length=3):p us:=by
 cases us with
 |nil=>cases e
 |cons a r=>exact EG (p:=λr=>p (a::r)) (h a) r (Nat.succ.inj e)
def by4{p:List yai->Prop}(h:∀a b c d,p [a,b,c,d])(us:List yai)(e:us.length=4):p us:=by
 cases us with
 |nil=>cases e
 |cons a r=>exact Iw (p:=λr=>p (a::r)) (h a) r (Nat.succ.inj e)
def Oz(X:K.In h)(G:h.Ns yaq mg)(a:zcO K yaq x=some (some (.ref f)))(l:K.lookup f=some ⟨oc,d,.func (zcN x x (cK st) (bH st) (aj st) .none o q r g z ct),osl⟩)(c:zcn K z x=true)(k:zcm K (.ref f)=true)(b:∀(o q r:yai)(g:Option Addr)(z ct:yai)(us:List yai),us.length=ps.length->yaz (zcN x x (cK st) (bH st) (aj st) .none o q r g z ct) ⟨us,[]⟩=pure (ps.zip us)):Src K mg x ps st:=
 ⟨f,_,kg (st:=st) l c k,zcy X G a,(kg (st:=st) l c k).binds b⟩
end
end J
namespace M
open PySem L2
inductive D where
 |bx|bl (b:Bool)|int (i:Int)|str (x:Str)|tup (ds:List D)|lst (ds:List D)|dct (ks:List Key) (ds:List D)|loc (n:Nat)|ty (n:String)|ir (ns:List Int)|fd|fn (a:Addr)
inductive MO where
 |lst (ds:List D)|dct (ks:List Key) (ds:List D)|feed (n:Nat)|ins (C:Addr) (ks:List Str) (ds:List D)|Ic (F:Addr->List Addr->Heap->Prop) (ks:List D)|JV (F:Addr->List V->Heap->Prop) (ks:List D)
noncomputable def fd3(l s d:Int):List (Key×V):=[(.inr "left",.int l),(.inr "seed",.int s),(.inr "drawn",.int d)]
abbrev aA:=List (Option MO)
noncomputable def MO.d:MO->D
 |.lst ds=>.lst ds
 |.dct ks ds=>.dct ks ds
 |.feed _=>.fd
 |.ins _ _ _=>.fd
 |.Ic _ _=>.fd
 |.JV _ _=>.fd
inductive R where
 |dat (d:D)|new (o:MO)
noncomputable def R.d:R->D
 |.dat d=>d
 |.new o=>o.d
def al(a:H d=none):iF H (upd H d o):=λb h e=>by rw[aM (bI e a)];exact e
structure Wd where
 B:Hp
 r:Nat->Option Addr
structure Wd.le(w w':Wd):Prop where
 b:iF w.B w'.B
 r:∀n a,w.r n=some a->w'.r n=some a
theorem Wd.le.refl{w:Wd}:w.le w:=⟨iF.refl _,λ_ _ h=>h⟩
theorem Wd.le.trans{w j i:Wd}(h:w.le j)(g:j.le i):w.le i:=⟨h.b.trans g.b,λn a e=>g.r n a (h.r n a e)⟩
mutual
def Rep(K:yaI)(w:Wd):D->V->Prop
 |.bx,v=>v=.bx
 |.bl b,v=>v=.bl b
 |.int i,v=>v=.int i
 |.str x,v=>v=.str x
 |.ty n,v=>v=.ty n
 |.fd,v=>∃a,v=.ref a
 |.fn a,v=>v=.ref a
 |.loc n,v=>∃a,w.r n=some a/\v=.ref a
 |.tup ds,v=>∃a h,v=.ref a/\eS K w.B a h/\ao K w ds h
 |.lst ds,v=>∃a h,v=.ref a/\w.B a=some (.lst h)/\ao K w ds h
 |.ir ns,v=>∃a,v=.ref a/\dS K w.B a (ns.map V.int)
 |.dct ks ds,v=>∃a e,v=.ref a/\w.B a=some (.dK e)/\e.map (·.1)=ks/\ao K w ds (e.map (·.2))
def ao(K:yaI)(w:Wd):List D->List V->Prop
 |[],xs=>xs=[]
 |d::ds,xs=>∃x r,xs=x::r/\Rep K w d x/\ao K w ds r
end
mutual
theorem Rep.le{K:yaI}{w m:Wd}(e:w.le m):∀(d:D)(v:V),Rep K w d v->Rep K m d v
 |.bx,_,h=>by simpa[Rep] using h
 |.bl b,_,h=>by simpa[Rep] using h
 |.int i,_,h=>by simpa[Rep] using h
 |.str x,_,h=>by simpa[Rep] using h
 |.ty x,_,h=>by simpa[Rep] using h
 |.fd,_,h=>by simpa[Rep] using h
 |.fn _,_,h=>by simpa[Rep] using h
 |.loc n,v,h=>by
  simp only[Rep] at h⊢;obtain⟨a,h1,h2⟩:=h;refine⟨a,e.r _ _ h1,h2⟩
 |.lst ds,v,h=>by
  simp only[Rep] at h⊢;obtain⟨a,j,h1,h2,l⟩:=h;refine⟨a,j,h1,e.b _ _ h2,ao.le e ds j l⟩
 |.ir ns,v,h=>by
  simp only[Rep] at h⊢;obtain⟨a,h1,h2⟩:=h;refine⟨a,h1,e.b.seq h2⟩
 |.tup ds,v,h=>by
  simp only[Rep] at h⊢;obtain⟨a,j,h1,h2,l⟩:=h;refine⟨a,j,h1,eS.same e.b h2,ao.le e ds j l⟩
 |.dct ks ds,v,h=>by
  simp only[Rep] at h⊢;obtain⟨a,j,h1,h2,l,o⟩:=h;refine⟨a,j,h1,e.b _ _ h2,l,ao.le e ds _ o⟩
theorem ao.le{K:yaI}{w i:Wd}(e:w.le i):∀(ds:List D)(a:List V),ao K w ds a->ao K i ds a
 |[],_,h=>by simpa[ao] using h
 |d::ds,a,h=>by
  simp only[ao] at h⊢;obtain⟨x,r,h1,h2,j⟩:=h;refine⟨x,r,h1,Rep.le e d x h2,ao.le e ds r j⟩
end
section
variable {w w':Wd}
def ao.nil:ao K w [] []:=by simp[ao]
def ao.cons{d:D}{ds:List D}{vs:List V}(h:Rep K w d v)(t:ao K w ds vs):ao K w (d::ds) (v::vs):=by
 refine⟨v,vs,rfl,h,t⟩
theorem ao.length:∀{ds:List D}{vs:List V},ao K w ds vs->vs.length=ds.length
 |[],_,h=>by subst h;rfl
 |d::ds,vs,h=>by
  let⟨x,r,rfl,_,h⟩:=h;simp[ao.length h]
theorem ao.get:∀{ds:List D}{vs:List V}{i:Nat}{d:D},ao K w ds vs->ds[i]? =some d->∃v,vs[i]? =some v/\Rep K w d v
 |[],_,_,_,_,e=>by simp at e
 |d::ds,vs,0,d',h,e=>by
  let⟨x,r,rfl,h1,h⟩:=h;simp at e;subst e;refine⟨x,rfl,h1⟩
 |d::ds,vs,i+1,d',h,e=>by
  let⟨x,r,rfl,h1,h⟩:=h;let⟨v,j,a⟩:=ao.get h (by simpa using e);refine⟨v,by simp_all,a⟩
theorem ao.append:∀{ds es:List D}{vs us:List V},ao K w ds vs->ao K w es us->ao K w (ds++es) (vs++us)
 |[],_,_,_,h,g=>by subst h;exact g
 |d::ds,es,vs,us,h,g=>by
  let⟨x,r,rfl,h1,h⟩:=h;exact ao.cons h1 (ao.append h g)
def ao.snoc{ds:List D}{vs:List V}{d:D}(h:ao K w ds vs)(g:Rep K w d v):ao K w (ds++[d]) (vs++[v]):=h.append (.cons g .nil)
theorem ao.take:∀(n:Nat){ds:List D}{vs:List V},ao K w ds vs->ao K w (ds.take n) (vs.take n)
 |0,_,_,_=>by simp[ao]
 |n+1,[],_,h=>by subst h;simp[ao]
 |n+1,d::ds,vs,h=>by
  let⟨x,r,rfl,h1,h⟩:=h;exact ao.cons h1 (ao.take n h)
theorem ao.drop:∀(n:Nat){ds:List D}{vs:List V},ao K w ds vs->ao K w (ds.drop n) (vs.drop n)
 |0,_,_,h=>h
 |n+1,[],_,h=>by subst h;simp[ao]
 |n+1,d::ds,vs,h=>by
  let⟨x,r,rfl,h1,h⟩:=h;exact ao.drop n h
end
def lV(K:yaI)(w:Wd):MO->HO->Prop
 |.lst ds,u=>∃h,u=.lst h/\ao K w ds h
 |.dct ks ds,u=>∃e,u=.dK e/\e.map (·.1)=ks/\ao K w ds (e.map (·.2))
 |.feed n,u=>∃l s:Int,u=.dK (fd3 l s n)/\0<=l/\0<=s/\s<1000003
 |.ins C ks ds,u=>∃i fs,u=.ins C i fs/\fs.map (·.1)=ks/\ao K w ds (fs.map (·.2))
 |.Ic F ks,u=>∃(a:Addr)(bs:List Addr),u=.ext (F a bs)/\ao K w ks (bs.map V.ref)
 |.JV F ks,u=>∃(a:Addr)(vs:List V),u=.ext (F a vs)/\ao K w ks vs
theorem lV.le(e:w.le d):∀{o:MO}{u:HO},lV K w o u->lV K d o u:=by
 intro o u h;cases o with
 |lst ds=>let⟨i,h1,h2⟩:=h;refine⟨i,h1,h2.le e⟩
 |dct ks ds=>let⟨i,h1,h2,j⟩:=h;refine⟨i,h1,h2,j.le e⟩
 |feed n=>exact h
 |ins C ks ds=>let⟨m,fs,h1,h2,j⟩:=h;refine⟨m,fs,h1,h2,j.le e⟩
 |Ic F ks=>let⟨a,bs,h1,h2⟩:=h;refine⟨a,bs,h1,h2.le e⟩
 |JV F ks=>let⟨a,bs,h1,h2⟩:=h;refine⟨a,bs,h1,h2.le e⟩
structure Ok(K:yaI)(w:Wd)(H:Hp)(S:aA):Prop where
 base:iF w.B H
 live:∀n o,S[n]? =some (some o)->∃a u,w.r n=some a/\w.B a=none/\H a=some u/\lV K w o u
 inj:∀n m o o',S[n]? =some (some o)->S[m]? =some (some o')->w.r n=w.r m->n=m
 top:∀n,S.length<=n->w.r n=none
def EB(K:yaI)(w:Wd)(H:Hp)(S:aA):R->V->Prop
 |.dat d,v=>Rep K w d v
 |.new o,v=>∃a u,v=.ref a/\w.B a=none/\H a=some u/\lV K w o u/\∀n e,S[n]? =some (some e)->w.r n≠some a
def eW(K:yaI)(w:Wd)(δ:List (Option D))(a:St):Prop:=δ.length=a.length/\∀(i:Nat)(d:D),δ[i]? =some (some d)->∃v,a[i]? =some (some v)/\Rep K w d v
theorem eW.le(h:eW K w δ k)(e:w.le g):eW K g δ k:=⟨h.1,λi d q=>by
 let⟨v,h1,h2⟩:=h.2 i d q;refine⟨v,h1,h2.le e⟩⟩
theorem eW.set(h:eW K w δ k)(g:Rep K w d v)(i:Nat):eW K w (δ.set i (some d)) (k.set i (some v)):=by
 refine⟨by simp[h.1],λj e q=>?_⟩;by_cases a:i=j
 ·subst a;rw[zbk] at q⊢;rw[yIp rfl] at q⊢;by_cases l:i<δ.length
  ·rw[yIp (by rw[<-h.1];exact l)];have:d=e:=by lia
   subst this;refine⟨v,rfl,g⟩
  ·rw[yIn l] at q;cases q
 ·rw[zaB a] at q⊢;exact h.2 j e q
section
variable {w w':Wd}{S S':aA}
def freeze(k:Ok K w H S)(h:EB K w H S r v):∃w',w.le w'/\Ok K w' H S/\Rep K w' r.d v:=by
 cases r with
 |dat d=>refine⟨w,.refl,k,h⟩
 |new o=>
  let⟨a,u,rfl,y,E,q,x⟩:=h;have le:w.le ⟨upd w.B a u,w.r⟩:=⟨al y,λ_ _ e=>e⟩
  refine⟨⟨upd w.B a u,w.r⟩,le,⟨λb i e=>?_,λn i e=>?_,k.inj,k.top⟩,?_⟩
  ·by_cases j:b=a
   ·subst j;have e:upd w.B b u b=some i:=e;rw[bN] at e;simp_all
   ·have e:upd w.B a u b=some i:=e;rw[aM j] at e;exact k.base b i e
  ·let⟨m,t,h1,h2,I,G⟩:=k.live n i e;have:m≠a:=by grind
   refine⟨m,t,h1,by show upd w.B a u m=none;rw[aM this];exact h2,I,G.le le⟩
  ·cases o with
   |lst ds=>
    let⟨s,rfl,h⟩:=q;refine⟨a,s,rfl,bN,h.le le⟩
   |dct ks ds=>
    let⟨l,rfl,h1,h⟩:=q;refine⟨a,l,rfl,bN,h1,h.le le⟩
   |feed n=>
    exact⟨a,rfl⟩
   |ins C ks ds=>
    exact⟨a,rfl⟩
   |Ic F ks=>
    exact⟨a,rfl⟩
   |JV F ks=>
    exact⟨a,rfl⟩
def store(k:Ok K w H S)(h:EB K w H S (.new o) v):∃w',w.le w'/\Ok K w' H (S++[some o])/\Rep K w' (.loc S.length) v:=by
 let⟨a,u,rfl,L,O,I,l⟩:=h;let C:=λn=>if n=S.length then some a else w.r n;have le:w.le ⟨w.B,C⟩:=⟨iF.refl _,λn b e=>by
  have:n≠S.length:=by
   intro z;subst z;rw[k.top _ (zcS _)] at e;cases e
  lia⟩
 have at_:∀n i,(S++[some o])[n]? =some (some i)->(n=S.length/\i=o)∨(n<S.length/\S[n]? =some (some i)):=λn i e=>by
  by_cases t:n<S.length
  ·rw[zae t] at e;exact .inr ⟨t,e⟩
  ·rw[zab (by lia)] at e;have:n - S.length=0:=by
    cases q:n - S.length with
    |zero=>rfl
    |succ j=>simp_all
   have e:o=i:=by simp_all
   exact .inl ⟨by lia,e.symm⟩
 refine⟨⟨w.B,C⟩,le,⟨k.base,λn i e=>?_,λn m x s U F e=>?_,λn l=>?_⟩,⟨a,by lia,rfl⟩⟩
 ·rcases at_ n i e with⟨rfl,rfl⟩|⟨t,e⟩
  ·refine⟨a,u,by lia,L,O,I.le le⟩
  ·let⟨W,G,h1,h2,Q,P⟩:=k.live n i e;refine⟨W,G,le.r _ _ h1,h2,Q,P.le le⟩
 ·rcases at_ n x U with⟨rfl,rfl⟩|⟨t,E⟩
  ·grind
  ·rcases at_ m s F with⟨rfl,rfl⟩|⟨y,q2⟩
   ·grind
   ·have e:(if n=S.length then some a else w.r n)=(if m=S.length then some a else w.r m):=e;rw[yIn (by lia),yIn (by lia)] at e;exact k.inj n m x s E q2 e
 ·rw[zaR] at l;have:n≠S.length:=by simp at l;lia
  show(if n=S.length then some a else w.r n)=none;rw[yIn this];exact k.top n (by lia)
def Ok.alloc(k:Ok K w H S)(h:H d=none):Ok K w (upd H d o) S:=
 ⟨k.base.trans (al h),λn i e=>by
  let⟨a,u,h1,h2,l,j⟩:=k.live n i e;refine⟨a,u,h1,h2,al h _ _ l,j⟩,k.inj,k.top⟩
theorem Ok.free(k:Ok K w H S)(a:H d=none):w.B d=none:=k.base.free a
def Ok.fresh{m:MO}(k:Ok K w H S)(i:H d=none)(h:lV K w m o):EB K w (upd H d o) S (.new m) (.ref d):=
 ⟨d,o,rfl,k.free i,bN,h,λn l e z=>by
  let⟨a,u,h1,h2,j,q⟩:=k.live n l e;simp_all⟩
def Ok.qh(k:Ok K w H S)(l:H d=none)(h:ao K w ds xs):∃w',w.le w'/\Ok K w' (upd H d (.tup xs)) S/\Rep K w' (.tup ds) (.ref d):=by
 have le:w.le ⟨upd w.B d (.tup xs),w.r⟩:=⟨al (k.free l),λ_ _ e=>e⟩
 refine⟨⟨upd w.B d (.tup xs),w.r⟩,le,⟨λb o e=>?_,λn o e=>?_,k.inj,k.top⟩,⟨d,xs,rfl,eS.of bN,h.le le⟩⟩
 ·by_cases j:b=d
  ·subst j;have e:upd w.B b (.tup xs) b=some o:=e;rw[bN] at e⊢;exact e
  ·have e:upd w.B d (.tup xs) b=some o:=e;rw[aM j] at e⊢;exact k.base b o e
 ·let⟨a,u,h1,h2,m,s⟩:=k.live n o e;have i:=bI m l;refine⟨a,u,h1,by show upd w.B d _ a=none;rw[aM i];exact h2,by rw[aM i];exact m,s.le le⟩
def Ok.put(k:Ok K w H S)(e:S[d]? =some (some o))(t:w.r d=some g)(h:lV K w o' u'):Ok K w (upd H g u') (S.set d (some o')):=by
 have I:d<S.length:=by
  grind
 have at_:∀m q,(S.set d (some o'))[m]? =some (some q)->(m=d/\q=o')∨(m≠d/\S[m]? =some (some q)):=λm q z=>by
  by_cases i:d=m
  ·simp_all
  ·rw[zaB i] at z;exact .inr ⟨λy=>i y.symm,z⟩
 let⟨W,Q,h1,h2,U,_⟩:=k.live d o e;rw[t] at h1;cases h1;refine⟨λb q z=>?_,λm q z=>?_,λm l q G z E y=>?_,λm i=>k.top m (by simp_all)⟩
 ·rw[aM (by lia)];exact k.base b q z
 ·rcases at_ m q z with⟨rfl,rfl⟩|⟨i,z⟩
  ·refine⟨g,u',t,h2,bN,h⟩
  ·let⟨b,u,v,P,O,L⟩:=k.live m q z;have:b≠g:=by
    intro y;subst y;exact i (k.inj m d q o z e (v.trans t.symm))
   refine⟨b,u,v,P,by rw[aM this];exact O,L⟩
 ·have j:∀m q,(S.set d (some o'))[m]? =some (some q)->∃s,S[m]? =some (some s):=λm q z=>by
   rcases at_ m q z with⟨rfl,rfl⟩|⟨i,z⟩
   ·exact⟨o,e⟩
   ·exact⟨q,z⟩
  let⟨s,C⟩:=j m q z;let⟨F,x⟩:=j l G E;exact k.inj m l s F C x y
end
noncomputable def aP(S:aA):D->D
 |.loc n=>match S[n]? with
  |some (some o)=>o.d
  |_=>.loc n
 |d=>d
section
variable {w:Wd}{S:aA}
def bK(k:Ok K w H S)(h:Rep K w d v)(e:aP S d=.lst ds):∃a i,v=.ref a/\H a=some (.lst i)/\ao K w ds i:=by
 cases d with
 |loc n=>
  let⟨a,h1,rfl⟩:=h;simp only[aP] at e;split at e
  next o q=>
   let⟨x,u,j,t,s,m⟩:=k.live n o q;rw[h1] at j;cases j;cases o with
   |lst es=>
    have:=by simpa[MO.d] using e
    subst this;let⟨i,rfl,g⟩:=m;refine⟨a,i,rfl,s,g⟩
   |dct ks es=>simp[MO.d] at e
   |feed n=>simp[MO.d] at e
   |ins C ks ds=>simp[MO.d] at e
   |Ic F ks=>simp[MO.d] at e
   |JV F ks=>simp[MO.d] at e
  next=>cases e
 |lst es=>
  have:=by simpa[aP] using e
  subst this;let⟨a,i,h1,h2,l⟩:=h;refine⟨a,i,h1,k.base _ _ h2,l⟩
 |_=>simp[aP] at e
def cA(k:Ok K w H S)(h:Rep K w d v)(e:aP S d=.tup ds):∃a i,v=.ref a/\eS K H a i/\ao K w ds i:=by
 cases d with
 |loc n=>
  simp only[aP] at e;split at e
  next o q=>cases o<;>simp[MO.d] at e
  next=>cases e
 |tup es=>
  have:=by simpa[aP] using e
  subst this;let⟨a,i,h1,h2,j⟩:=h;refine⟨a,i,h1,eS.same k.base h2,j⟩
 |_=>simp[aP] at e
def fh(k:Ok K w H S)(h:Rep K w d v)(e:aP S d=.dct r ds):∃a kvs,v=.ref a/\H a=some (.dK kvs)/\kvs.map (·.1)=r/\ao K w ds (kvs.map (·.2)):=by
 cases d with
 |loc n=>
  let⟨a,h1,rfl⟩:=h;simp only[aP] at e;split at e
  next o q=>
   let⟨x,u,i,t,s,m⟩:=k.live n o q;rw[h1] at i;cases i;cases o with
   |lst es=>simp[MO.d] at e
   |feed n=>simp[MO.d] at e
   |ins C r ds=>simp[MO.d] at e
   |Ic F r=>simp[MO.d] at e
   |JV F r=>simp[MO.d] at e
   |dct ks' es=>
    have:=by simpa[MO.d] using e
    let⟨rfl,rfl⟩:=this;let⟨kvs,rfl,g⟩:=m;refine⟨a,kvs,rfl,s,g⟩
  next=>cases e
 |dct ks' es=>
  have:=by simpa[aP] using e
  let⟨rfl,rfl⟩:=this;let⟨a,j,h1,h2,l⟩:=h;refine⟨a,j,h1,k.base _ _ h2,l⟩
 |_=>simp[aP] at e
end
abbrev bh:=List (Option D)
abbrev AK:=R->aA->Prop
abbrev AE:=bh->aA->AK->Prop
abbrev AT:=bh->aA->(Bool->aA->Prop)->Prop
abbrev AA:=bh->aA->(List D->aA->Prop)->Prop
abbrev AO:=bh->aA->(Option Int->aA->Prop)->Prop
structure jo where
 nx:bh->aA->Prop
 rt:AK
 bk:bh->aA->Prop:=λ_ _=>False
 ct:bh->aA->Prop:=λ_ _=>False
abbrev AS:=jo->bh->aA->Prop
abbrev AG:=D->bh->aA->(bh->aA->Prop)->Prop
abbrev JZ:=List D->bh->aA->(bh->aA->Prop)->Prop
abbrev AI:=bh->aA->(List D->(aA->Prop)->aA->Prop)->Prop
abbrev A2:=D->D->aA->AK->Prop
abbrev A1:=D->aA->AK->Prop
abbrev AN:=List D->aA->AK->Prop
section
variable (K:yaI)(w:Wd)
def ff(i:AK)(Q:VK):Prop:=∀r e v a h,w.le a->Ok K a h e->EB K a h e r v->i r e->Q v h
def C7(i:Bool->aA->Prop)(Q:Bool->Hp->Prop):Prop:=∀b e a h,w.le a->Ok K a h e->i b e->Q b h
def Ve(j:List D->aA->Prop)(Q:List V->Hp->Prop):Prop:=∀e h vs a i,w.le a->Ok K a i h->ao K a e vs->j e h->Q vs i
def Vd(j:Option Int->aA->Prop)(Q:Option Int->Hp->Prop):Prop:=∀i e a h,w.le a->Ok K a h e->j i e->Q i h
def nX(l:bh->aA->Prop)(Q:St->Hp->Prop):Prop:=∀h i e a j,w.le a->Ok K a j i->eW K a h e->l h i->Q e j
structure C6(Da:jo)(D:Ends):Prop where
 nx:nX K w Da.nx D.nx
 rt:ff K w Da.rt D.rt
 bk:nX K w Da.bk D.bk
 ct:nX K w Da.ct D.ct
structure U8(J:It)(ds:List D)(P:aA->Prop):Prop where
 go:∀i H S w' d,w.le w'->Ok K w' H S->P S->ds[i]? =some d->J.go i H
 EJ:∀i H S w' d x H',w.le w'->Ok K w' H S->P S->ds[i]? =some d->J.EJ i H x H'->∃w3,w'.le w3/\Ok K w3 H' S/\Rep K w3 d x
 stop:∀i H S w',w.le w'->Ok K w' H S->P S->i=ds.length->J.stop i H
def Vf(j:List D->(aA->Prop)->aA->Prop)(R:It->Hp->Prop):Prop:=∀e P h J a i,w.le a->Ok K a i h->U8 K a J e P->j e P h->R J i
end
section
variable {w w':Wd}
theorem ff.le(h:ff K w d g)(e:w.le w'):ff K w' d g:=λr S v i H l=>h r S v i H (e.trans l)
theorem C7.le(h:C7 K w Qa d)(e:w.le w'):C7 K w' Qa d:=λr S a H l=>h r S a H (e.trans l)
theorem nX.le(h:nX K w Qa d)(e:w.le w'):nX K w' Qa d:=λr S v a H l=>h r S v a H (e.trans l)
theorem C6.le(h:C6 K w d g)(e:w.le w'):C6 K w' d g:=⟨h.nx.le e,h.rt.le e,h.bk.le e,h.ct.le e⟩
end
section
variable (K:yaI)
def aO(a:AE):TE:=λi H Q=>∃w e S h,Ok K w H S/\eW K w e i/\a e S h/\ff K w h Q
def iD(a:AT):TT:=λi H Q=>∃w e S h,Ok K w H S/\eW K w e i/\a e S h/\C7 K w h Q
def lM(a:AA):TA:=λi H Q=>∃w e S h,Ok K w H S/\eW K w e i/\a e S h/\Ve K w h Q
def Im(a:AO):TO:=λi H Q=>∃w e S h,Ok K w H S/\eW K w e i/\a e S h/\Vd K w h Q
def fU(a:AS):TS:=λD i H=>∃w e S h,Ok K w H S/\eW K w e i/\a h e S/\C6 K w h D
def Aj(a:AG):TG:=λx i H Q=>∃w d e S h,Ok K w H S/\eW K w e i/\Rep K w d x/\a d e S h/\nX K w h Q
def xR(a:JZ):Mu:=λl j H Q=>∃w h e S i,Ok K w H S/\eW K w e j/\ao K w h l/\a h e S i/\nX K w i Q
def Ai(a:AI):TI:=λi H R=>∃w e S h,Ok K w H S/\eW K w e i/\a e S h/\Vf K w h R
def Ak(a:A2):R2:=λx y H Q=>∃w d e S h,Ok K w H S/\Rep K w d x/\Rep K w e y/\a d e S h/\ff K w h Q
def UG(a:A1):V->Hp->VK->Prop:=λx H Q=>∃w d S e,Ok K w H S/\Rep K w d x/\a d S e/\ff K w e Q
def Q9(a:AN):List V->Hp->VK->Prop:=λi H Q=>∃w e S h,Ok K w H S/\ao K w e i/\a e S h/\ff K w h Q
def Ra(a:D->List D->aA->AK->Prop):V->List V->Hp->VK->Prop:=λx i H Q=>∃w d e S h,Ok K w H S/\Rep K w d x/\ao K w e i/\a d e S h/\ff K w h Q
def av(a:AN):Sp:=λvs H Q _=>Q9 K a vs H Q
end
structure GE(X:Cx)(e:Expr)(a:AE):Prop where
 p:PE X e (aO X.K a)
structure GT(X:Cx)(e:Expr)(a:AT):Prop where
 p:PT X e (iD X.K a)
structure GW(X:Cx)(e:Expr)(a:AT):Prop where
 p:PW X e (iD X.K a)
structure GA(X:Cx)(e:List Expr)(a:AA):Prop where
 p:PA X e (lM X.K a)
structure GO(X:Cx)(e:Option Expr)(a:AO):Prop where
 p:PO X e (Im X.K a)
structure GS(X:Cx)(s:Stmt)(a:AS):Prop where
 p:PS X s (fU X.K a)
structure AQ(X:Cx)(s:List Stmt)(a:AS):Prop where
 p:yj X s (fU X.K a)
structure GG(X:Cx)(e:Expr)(a:AG):Prop where
 p:PG X e (Aj X.K a)
structure VD(X:Cx)(e:List Expr)(a:JZ):Prop where
 p:RI X e (xR X.K a)
structure GI(X:Cx)(tg e:Expr)(a:AI):Prop where
 p:PI X tg e (Ai X.K a)
structure R3(X:Cx)(e:List Expr)(a:AT):Prop where
 p:NV X e (iD X.K a)
structure rS(X:Cx)(f:yai->yai->Sem yai)(a:A2):Prop where
 p:iy X f (Ak X.K a)
structure W4(X:Cx)(f:yai->Sem yai)(a:A1):Prop where
 p:RY X f (UG X.K a)
structure vG(X:Cx)(f:yai)(a:AN):Prop where
 p:b5 X f (Q9 X.K a)
structure W3(X:Cx)(a:A2):Prop where
 p:JY X (Ak X.K a)
def mE(h:PE X e d)(m:∀a H Q,g a H Q->d a H Q):PE X e g:=λi s a H Q I q=>h i s a H Q I (m a H Q q)
def mT(h:PT X e d)(m:∀a H Q,g a H Q->d a H Q):PT X e g:=λi s a H Q I q=>h i s a H Q I (m a H Q q)
def mW(h:PW X e d)(m:∀a H Q,g a H Q->d a H Q):PW X e g:=λj i s a H Q I q=>h j i s a H Q I (m a H Q q)
def mA(h:PA X d g)(m:∀a H Q,k a H Q->g a H Q):PA X d k:=λpos i s a H Q I q=>h pos i s a H Q I (m a H Q q)
def mO(h:PO X d g)(m:∀a H Q,k a H Q->g a H Q):PO X d k:=λi s a H Q I q=>h i s a H Q I (m a H Q q)
def mS(h:PS X d g)(m:∀D a H,k D a H->g D a H):PS X d k:=λi s a H D I q=>h i s a H D I (m D a H q)
def Wc(h:yj X d g)(m:∀D a H,k D a H->g D a H):yj X d k:=λi s a H D I q=>h i s a H D I (m D a H q)
def mG(h:PG X e d)(m:∀x a H Q,g x a H Q->d x a H Q):PG X e g:=λi s a H x v Q I r q=>h i s a H x v Q I r (m x a H Q q)
def WW(h:RI X d g)(m:∀x a H Q,k x a H Q->g x a H Q):RI X d k:=λi s a H x v Q I r q=>h i s a H x v Q I r (m x a H Q q)
def mI(h:PI X g e d)(m:∀a H R,k a H R->d a H R):PI X g e k:=λi s a H R I q=>h i s a H R I (m a H R q)
def mTs(h:NV X d g)(m:∀a H Q,k a H Q->g a H Q):NV X d k:=λi s a H Q I q=>h i s a H Q I (m a H Q q)
def m2(h:iy X d g)(m:∀x y H Q,k x y H Q->g x y H Q):iy X d k:=λa s e H x y v k Q I r i q=>h a s e H x y v k Q I r i (m x y H Q q)
def m1(h:RY X d g)(m:∀x H Q,k x H Q->g x H Q):RY X d k:=λa s e H x v Q I r q=>h a s e H x v Q I r (m x H Q q)
def mC(h:b5 X d g)(m:∀x H Q,k x H Q->g x H Q):b5 X d k:=λa s e H x v Q I r q=>h a s e H x v Q I r (m x H Q q)
def cT(i:Nat):AE:=λa S Q=>∃d,a[i]? =some (some d)/\Q (.dat d) S
def aC(d:D):AE:=λ_ S Q=>Q (.dat d) S
def lT(r:A2)(a b:AE):AE:=λe S Q=>a e S λx i=>b e i λy h=>r x.d y.d h Q
def Wv(r:A1)(a:AE):AE:=λe S Q=>a e S λx h=>r x.d h Q
def b4:AA:=λ_ S Q=>Q [] S
def eL(a:AE)(b:AA):AA:=λe S Q=>a e S λx j=>b e j λh i=>Q (x.d::h) i
def iE(a:AA):AE:=λh S Q=>a h S λe i=>e.length<=yag/\Q (.dat (.tup e)) i
def gm(a:AA):AE:=λh S Q=>a h S λe i=>e.length<=yag/\Q (.new (.lst e)) i
def bF(a:AE):AE:=λh S Q=>a h S λr e=>match r with
 |.new o=>Q (.dat (.loc e.length)) (e++[some o])
 |.dat d=>Q (.dat d) e
def aCall(sp:AN)(a:AA):AE:=λe S Q=>a e S λh i=>sp h i Q
def aB(a:AE):AT:=λe S Q=>a e S λr h=>∃b,r.d=.bl b/\Q b h
noncomputable def e8:D->Option Bool
 |.bx=>some false
 |.bl b=>some b
 |.int i=>some (i != 0)
 |.str y=>if y.length<=yag then some ((y.length:Int) != 0) else none
 |.tup ds=>some (!ds.isEmpty)
 |.lst ds=>some (!ds.isEmpty)
 |.dct ks _=>some (!ks.isEmpty)
 |_=>none
def Rj(a:AE):AT:=λh S Q=>a h S λr e=>∃b,e8 (aP e r.d)=some b/\Q b e
def Jd(a b:AE):AE:=λe S Q=>a e S λx h=>∃c,x.d=.bl c/\if c=true then b e h Q else Q (.dat (.bl false)) h
def Rm(a b:AE):AE:=λe S Q=>a e S λx h=>∃c,x.d=.bl c/\if c=true then Q (.dat (.bl true)) h else b e h Q
def UP(a:AE):AE:=λe S Q=>a e S λx h=>∃c,x.d=.bl c/\Q (.dat (.bl (!c))) h
def Je(a b:AT):AT:=λe S Q=>a e S λc h=>if c=true then b e h Q else Q false h
def Vt(a b:AT):AT:=λe S Q=>a e S λc h=>if c=true then Q true h else b e h Q
def Rn(a:AT):AT:=λe S Q=>a e S λc h=>Q (!c) h
def Wx(t:AT)(a b:AE):AE:=λe S Q=>t e S λc h=>if c=true then a e h Q else b e h Q
def Rv(r j:A2)(a b c:AE):AE:=λe S Q=>a e S λx n=>b e n λy m=>r x.d y.d m λz h=>∃k,z.d=.bl k/\if k=true then c e h λi l=>j y.d i.d l Q else Q (.dat (.bl false)) h
def oW:AO:=λ_ S Q=>Q none S
def CJ(a:AE):AO:=λe S Q=>a e S λr h=>∃i,r.d=.int i/\Q (some i) h
def Vs(r:D->Option Int->Option Int->aA->AK->Prop)(a:AE)(l u:AO):AE:=λe S Q=>a e S λx n=>l e n λi m=>u e m λj h=>r x.d i j h Q
def yd:AS:=λD a S=>D.nx a S
def gE(a b:AS):AS:=λD e S=>a {D with nx:=b D} e S
def Mr(a:AE):AS:=λD e S=>a e S D.rt
def UN:AS:=λD _ S=>D.rt (.dat .bx) S
def CK(a:AE):AS:=λD e S=>a e S λ_ h=>D.nx e h
def yf(c:AT)(a b:AS):AS:=λD e S=>c e S λk h=>if k=true then a D e h else b D e h
def bE(i:Nat):AG:=λd a S Q=>Q (a.set i (some d)) S
def NK:JZ:=λe a S Q=>e=[]/\Q a S
def IJ(a:AG)(b:JZ):JZ:=λi h S Q=>∃d r,i=d::r/\a d h S λe j=>b r e j Q
def NJ(n:Nat)(a:JZ):AG:=λd h S Q=>∃e,d=.tup e/\e.length=n/\a e h S Q
def yg(a:AE)(g:AG):AS:=λD e S=>a e S λr h=>g r.d e h D.nx
def dO(P:aA->Prop)(g:AG)(b:AS):List D->jo->bh->aA->Prop
 |[],D,δ,S=>P S/\D.nx δ S
 |x::xs,D,δ,S=>P S/\g x δ S λa e=>b {D with nx:=dO P g b xs D,ct:=dO P g b xs D,bk:=D.nx} a e
def fP(i:AI)(g:AG)(b:AS):AS:=λD a S=>i a S λe P h=>dO P g b e D a h
def IU(c:AT)(b:AS):AS:=λD a S=>∃W:Nat->bh->aA->Prop,(∃m,W m a S)/\∀m a S,W m a S->
 c a S λk i=>if k=true then∃N:bh->aA->Prop,(∀e j,N e j->∃h,h<m/\W h e j)/\b {D with nx:=N,ct:=N,bk:=D.nx} a i else D.nx a i
def lR:AT:=λ_ S Q=>Q true S
def bM(P:aA->Prop)(g:AG)(t:AT)(e:AE):List D->List D->bh->aA->(List D->aA->Prop)->Prop
 |[],acc,_,S,Q=>P S/\Q acc S
 |x::xs,acc,δ,S,Q=>P S/\g x δ S λa j=>t a j λb h=>if b=true then e a h λr i=>acc.length<yag/\bM P g t e xs (acc++[r.d]) a i Q else bM P g t e xs acc a h Q
noncomputable def qO(caps:List (Option Nat))(δ:bh):bh:=caps.map λo=>o.bind λi=>(δ[i]?).getD none
def cU(caps:List (Option Nat))(i:AI)(g:AG)(t:AT)(e:AE):AE:=λh S Q=>i h S λj P m=>bM P g t e j [] (qO caps h) m λa l=>Q (.new (.lst a)) l
noncomputable def fM(lo:Int)(n:Nat):List D:=(zcX n).map λk:Nat=>.int (lo+(k:Int))
def n8(a:AA):AI:=λe S Q=>a e S λh i=>∃j:Int,h=[.int j]/\(-(2 ^ 62)<=j/\j<2 ^ 62)/\Q (fM 0 j.toNat) (λ_=>True) i
noncomputable def signs(x:Str):List D:=x.cps.toList.map λc=>.str ⟨#[c]⟩
def ff.go{w:Wd}{l:AK}{Q:VK}(h:∀r S' v e H',w.le e->Ok K e H' S'->Rep K e r.d v->l r S'->Q v H'):ff K w l Q:=λr S' v e H' le ok rep q=>by
 let⟨m,j,i,a⟩:=freeze ok rep;exact h r S' v m H' (le.trans j) i a q
theorem ff.dat(h:ff K w k o)(le:w.le g)(ok:Ok K g H S)(rep:Rep K g d v)(q:k (.dat d) S):o v H:=h (.dat d) S v g H le ok rep q
def SH:∀a H Q,aO K (cT i) a H Q->Sb i a H Q:=by
 intro a H Q z;let⟨w,l,S,m,ok,env,⟨d,e,q⟩,bk⟩:=z;let⟨v,j,h⟩:=env.2 i d e;refine⟨v,j,bk.dat .refl ok h q⟩
def SY(h:∀w,Rep K w d v):∀a H Q,aO K (aC d) a H Q->tC v a H Q:=by
 intro a H Q z;let⟨w,e,S,i,ok,env,q,bk⟩:=z;exact bk.dat .refl ok (h w) q
def KA:∀l H Q,aO K (lT r d g) l H Q->Si (Ak K r) (aO K d) (aO K g) l H Q:=by
 intro l H Q z;let⟨w,o,S,E,ok,env,q,bk⟩:=z;refine⟨w,o,S,_,ok,env,q,.go λv C G t L j n h x=>?_⟩;refine⟨t,o,C,_,n,env.le j,x,.go λu y F s I i m e q2=>?_⟩;refine⟨s,v.d,u.d,y,E,m,h.le i,e,q2,bk.le (j.trans i)⟩
def VL:∀h H Q,aO K (Wv r d) h H Q->WM (UG K r) (aO K d) h H Q:=by
 intro h H Q z;let⟨w,l,S,t,ok,env,q,bk⟩:=z;refine⟨w,l,S,_,ok,env,q,.go λn s u m v j i e o=>?_⟩;refine⟨m,n.d,s,t,i,e,o,bk.le j⟩
def SQ:∀a H Q,lM K b4 a H Q->J8 a H Q:=by
 intro a H Q z;let⟨w,e,S,h,ok,env,q,bk⟩:=z;exact bk [] S [] w H .refl ok .nil q
def Pc:∀l H Q,lM K (eL d g) l H Q->E4 (aO K d) (lM K g) l H Q:=by
 intro l H Q z;let⟨w,o,S,G,ok,env,q,bk⟩:=z;refine⟨w,o,S,_,ok,env,q,.go λE x C t I j n h u=>?_⟩;refine⟨t,o,x,_,n,env.le j,u,λF v vs s y i m e q2=>?_⟩;exact bk _ v _ s y (j.trans i) m (.cons (h.le i) e) q2
def SI:∀i H Q,aO K (iE d) i H Q->Sd (lM K d) i H Q:=by
 intro i H Q z;let⟨w,o,S,E,ok,env,q,bk⟩:=z;refine⟨w,o,S,_,ok,env,q,λy C vs x F n l e ⟨u,s⟩=>⟨by rw[e.length];exact u,λp t=>?_⟩⟩;let⟨v,m,j,h⟩:=l.qh t e;exact bk.dat (n.trans m) j h s
def SR:∀i H Q,aO K (gm d) i H Q->Sl (lM K d) i H Q:=by
 intro i H Q z;let⟨w,m,S,v,ok,env,q,bk⟩:=z;refine⟨w,m,S,_,ok,env,q,λt u vs n x j h e ⟨s,o⟩=>⟨by rw[e.length];exact s,λp l=>?_⟩⟩;exact bk (.new (.lst t)) u _ n _ j (h.alloc l) (h.fresh l ⟨vs,rfl,e⟩) o
def s_alloc:∀l H Q,aO K (bF g) l H Q->aO K g l H Q:=by
 intro l H Q z;let⟨w,t,S,C,ok,env,q,bk⟩:=z;refine⟨w,t,S,_,ok,env,q,λr y v x E j i e s=>?_⟩;cases r with
 |dat d=>exact bk.dat j i e s
 |new o=>
  let⟨u,n,m,h⟩:=store i e;exact bk.dat (j.trans n) m h s
def s_call:∀h H Q,aO K (aCall sp d) h H Q->E6 (av K sp) [] g (lM K d) h H Q:=by
 intro h H Q z;let⟨w,l,S,t,ok,env,q,bk⟩:=z;refine⟨w,l,S,_,ok,env,q,λo s vs m u j i e n=>?_⟩;refine⟨m,o,s,t,i,by rw[zbS];exact e,n,bk.le j⟩
def SX:∀h H Q,aO K (aCall r d) h H Q->So (Q9 K r) (lM K d) h H Q:=by
 intro h H Q z;let⟨w,l,S,t,ok,env,q,bk⟩:=z;refine⟨w,l,S,_,ok,env,q,λo s vs m u j i e n=>?_⟩;refine⟨m,o,s,t,i,e,n,bk.le j⟩
def mZ(h:Rep K w d v)(e:d=.bl g):v=.bl g:=by subst e;simpa[Rep] using h
def bz(h:Rep K w d v)(e:d=.int g):v=.int g:=by subst e;simpa[Rep] using h
def jw(h:Rep K w d v)(e:d=.str g):v=.str g:=by subst e;simpa[Rep] using h
def KW(h:Rep K w d v)(e:d=.bx):v=.bx:=by subst e;simpa[Rep] using h
def Gq(h:Rep K w d v)(e:d=.ty g):v=.ty g:=by subst e;simpa[Rep] using h
theorem Rep.bl:Rep K w (.bl d) (.bl d):=by simp[Rep]
theorem Rep.int:Rep K w (.int d) (.int d):=by simp[Rep]
theorem Rep.str:Rep K w (.str d) (.str d):=by simp[Rep]
theorem Rep.bx:Rep K w .bx .bx:=by simp[Rep]
theorem Rep.ty:Rep K w (.ty d) (.ty d):=by simp[Rep]
def s_b:∀i H Q,iD K (aB d) i H Q->tB (aO K d) i H Q:=by
 intro i H Q z;let⟨w,m,S,x,ok,env,q,bk⟩:=z;refine⟨w,m,S,_,ok,env,q,.go λv s u n t l j h ⟨b,e,o⟩=>⟨b,mZ h e,bk b s n t l j o⟩⟩
def J4(ok:Ok K w H S)(h:Rep K w d v)(e:e8 (aP S d)=some g):Jg K v H g:=by
 cases q:aP S d with
 |lst ds=>
  rw[q] at e;let⟨a,i,rfl,h1,h2⟩:=bK ok h q;refine Or.inl ⟨i,dS.of h1,?_⟩;have:g= !ds.isEmpty:=by simpa[e8] using e.symm
  rw[this];have:=h2.length;cases ds<;>cases i<;>simp at this⊢
 |tup ds=>
  rw[q] at e;let⟨a,i,rfl,h1,h2⟩:=cA ok h q;refine Or.inr (Or.inl ⟨i,h1,?_⟩);have:g= !ds.isEmpty:=by simpa[e8] using e.symm
  rw[this];have:=h2.length;cases ds<;>cases i<;>simp at this⊢
 |dct ks ds=>
  rw[q] at e;let⟨a,j,rfl,h1,h2,l⟩:=fh ok h q;refine Or.inr (Or.inr ⟨j,h1,?_⟩);have:g= !ks.isEmpty:=by simpa[e8] using e.symm
  rw[this,<-h2];cases j<;>simp
 |_=>
  rw[q] at e;cases d<;>simp[aP] at q<;>first
   |(subst q;simp only[Rep] at h;subst h;simp[e8] at e;simp[Jg,e];done)
   |(simp[e8] at e;done)
   |skip
  all_goals first
   |(simp only[Rep] at h;subst h;subst q;simp only[e8,zcW.injEq] at e;subst e;rfl)
   |(simp only[Rep] at h;subst h;simp only[e8,zcW.injEq] at e;subst e;rfl)
   |(split at q<;>first|(rename_i o _;cases o<;>simp[MO.d] at q)|(cases q;simp[e8] at e)|cases q)
   |(simp only[Rep] at h;subst h;subst q;simp only[e8] at e;split at e;next hl=>exact⟨hl,by simpa using e.symm⟩;next=>cases e)
   |skip
def SJ:∀j H Q,iD K (Rj d) j H Q->(aO K d) j H (λx H'=>∃k,Jg K x H' k/\Q k H'):=by
 intro j H Q z;let⟨w,m,S,y,ok,env,q,bk⟩:=z;refine⟨w,m,S,_,ok,env,q,.go λv s u n t l i h ⟨b,e,o⟩=>⟨b,J4 i h e,bk b s n t l i o⟩⟩
def Pd:∀l H Q,aO K (Jd d g) l H Q->MU (aO K d) (aO K g) l H Q:=by
 intro l H Q z;let⟨w,m,S,t,ok,env,q,bk⟩:=z;refine⟨w,m,S,_,ok,env,q,.go λv s u o x h j i ⟨c,e,n⟩=>⟨c,mZ i e,?_⟩⟩;cases c with
 |true=>exact xr ⟨o,m,s,t,j,env.le h,by simpa using n,bk.le h⟩
 |false=>exact xu (bk.dat h j .bl (by simpa using n))
def SN:∀l H Q,aO K (Rm d g) l H Q->Sh (aO K d) (aO K g) l H Q:=by
 intro l H Q z;let⟨w,m,S,t,ok,env,q,bk⟩:=z;refine⟨w,m,S,_,ok,env,q,.go λv s u o x h j i ⟨c,e,n⟩=>⟨c,mZ i e,?_⟩⟩;cases c with
 |false=>exact xu ⟨o,m,s,t,j,env.le h,by simpa using n,bk.le h⟩
 |true=>exact xr (bk.dat h j .bl (by simpa using n))
def S7:∀i H Q,iD K (Je d g) i H Q->Ss (iD K d) (iD K g) i H Q:=by
 intro i H Q z;let⟨w,j,S,o,ok,env,q,bk⟩:=z;refine⟨w,j,S,_,ok,env,q,λc n l s e h m=>?_⟩;cases c with
 |true=>exact xr ⟨l,j,n,o,h,env.le e,by simpa using m,bk.le e⟩
 |false=>exact xu (bk _ n l s e h (by simpa using m))
def VN:∀i H Q,iD K (Vt d g) i H Q->WO (iD K d) (iD K g) i H Q:=by
 intro i H Q z;let⟨w,j,S,o,ok,env,q,bk⟩:=z;refine⟨w,j,S,_,ok,env,q,λc n l s e h m=>?_⟩;cases c with
 |false=>exact xu ⟨l,j,n,o,h,env.le e,by simpa using m,bk.le e⟩
 |true=>exact xr (bk _ n l s e h (by simpa using m))
def SO:∀e H Q,iD K (Rn d) e H Q->Sj (iD K d) e H Q:=by
 intro e H Q z;let⟨w,j,S,s,ok,env,q,bk⟩:=z;refine⟨w,j,S,_,ok,env,q,λc n l o i h m=>bk _ n l o i h m⟩
def VO:∀i H Q,aO K (Wx d g k) i H Q->WQ (iD K d) (aO K g) (aO K k) i H Q:=by
 intro i H Q z;let⟨w,j,S,o,ok,env,q,bk⟩:=z;refine⟨w,j,S,_,ok,env,q,λc n l s e h m=>?_⟩;cases c with
 |true=>exact xr ⟨l,j,n,o,h,env.le e,by simpa using m,bk.le e⟩
 |false=>exact xu ⟨l,j,n,o,h,env.le e,by simpa using m,bk.le e⟩
def FT:∀a H Q,Im K oW a H Q->A3 a H Q:=by
 intro a H Q z;let⟨w,e,S,h,ok,env,q,bk⟩:=z;exact bk none S w H .refl ok q
def OT:∀j H Q,Im K (CJ d) j H Q->MM (aO K d) j H Q:=by
 intro j H Q z;let⟨w,n,S,y,ok,env,q,bk⟩:=z;refine⟨w,n,S,_,ok,env,q,.go λx t v o u m l h ⟨i,e,s⟩=>⟨i,bz h e,bk _ t o u m l s⟩⟩
def NB(K:yaI)(a:D->Option Int->Option Int->aA->AK->Prop):V->Option Int->Option Int->Hp->VK->Prop:=λx i j H Q=>∃w d S e,Ok K w H S/\Rep K w d x/\a d i j S e/\ff K w e Q
def VM:∀o H Q,aO K (Vs r d g k) o H Q->WN (NB K r) (aO K d) (Im K g) (Im K k) o H Q:=by
 intro o H Q z;let⟨w,s,S,O,ok,env,q,bk⟩:=z;refine⟨w,s,S,_,ok,env,q,.go λE L P C X h x m F=>?_⟩;refine⟨C,s,L,_,x,env.le h,F,λi I y W e v q2=>?_⟩;refine⟨y,s,I,_,v,env.le (h.trans e),q2,λj G w3 U n t q3=>?_⟩;refine⟨w3,E.d,G,O,t,m.le (e.trans n),q3,bk.le (h.trans (e.trans n))⟩
def OV:∀D a H,fU K yd D a H->MN D a H:=by
 intro D a H z;let⟨w,e,S,h,ok,env,q,bk⟩:=z;exact bk.nx e S a w H .refl ok env q
def SK:∀D h H,fU K (gE d g) D h H->Sf (fU K d) (fU K g) D h H:=by
 intro D h H z;let⟨w,n,S,u,ok,env,q,bk⟩:=z;refine⟨w,n,S,_,ok,env,q,⟨λi t m o v l j e s=>?_,bk.rt,bk.bk,bk.ct⟩⟩;refine⟨o,i,t,u,j,e,s,bk.le l⟩
def SM:∀D e H,fU K (Mr d) D e H->Sg (aO K d) D e H:=by
 intro D e H z;let⟨w,h,S,i,ok,env,q,bk⟩:=z;refine⟨w,h,S,_,ok,env,q,bk.rt⟩
def O8:∀D h H,fU K (CK d) D h H->MS (aO K d) D h H:=by
 intro D h H z;let⟨w,j,S,v,ok,env,q,bk⟩:=z;refine⟨w,j,S,_,ok,env,q,.go λu o t m s e i l n=>bk.nx j o h m s e i (env.le e) n⟩
def SS:∀D i H,fU K (yf d g r) D i H->Sm (iD K d) (fU K g) (fU K r) D i H:=by
 intro D i H z;let⟨w,j,S,o,ok,env,q,bk⟩:=z;refine⟨w,j,S,_,ok,env,q,λk n l s e h m=>?_⟩;cases k with
 |true=>exact xr ⟨l,j,n,o,h,env.le e,by simpa using m,bk.le e⟩
 |false=>exact xu ⟨l,j,n,o,h,env.le e,by simpa using m,bk.le e⟩
def oF:∀x a H Q,Aj K (bE i) x a H Q->B6 i x a H Q:=by
 intro x a H Q z;let⟨w,d,e,S,h,ok,env,rep,q,bk⟩:=z;exact bk _ S _ w H .refl ok (env.set rep i) q
def O5:∀x a H Q,xR K NK x a H Q->Uj x a H Q:=by
 intro x a H Q z;let⟨w,h,e,S,i,ok,env,rep,⟨rfl,q⟩,bk⟩:=z;exact⟨by simpa[ao] using rep,bk _ S _ w H .refl ok env q⟩
def KD:∀x i H Q,xR K (IJ g k) x i H Q->Nx (Aj K g) (xR K k) x i H Q:=by
 intro x i H Q z;let⟨w,y,n,S,u,ok,env,rep,⟨d,r,rfl,q⟩,bk⟩:=z;let⟨v,vs,rfl,h1,h2⟩:=rep;refine⟨v,vs,rfl,w,d,n,S,_,ok,env,h1,q,λj t m o C e l h s=>?_⟩;refine⟨o,r,j,t,u,l,h,h2.le e,s,bk.le e⟩
def O4:∀x e H Q,Aj K (NJ n g) x e H Q->Ui K n (xR K g) x e H Q:=by
 intro x e H Q z;let⟨w,d,h,S,m,ok,env,rep,⟨l,rfl,j,q⟩,bk⟩:=z;let⟨p,i,rfl,h1,h2⟩:=rep;refine⟨p,i,rfl,eS.same ok.base h1,by rw[h2.length];exact j,w,l,h,S,m,ok,env,h2,q,bk⟩
def Bo:∀D i H,fU K (yg d g) D i H->J9 (aO K d) (Aj K g) D i H:=by
 intro D i H z;let⟨w,l,S,v,ok,env,q,bk⟩:=z;refine⟨w,l,S,_,ok,env,q,.go λn s t m u h j e o=>?_⟩;refine⟨m,n.d,l,s,_,j,env.le h,e,o,bk.nx.le h⟩
def SW:∀D W H,fU K (fP d g k) D W H->Sn (Ai K d) (Aj K g) (fU K k) D W H:=by
 intro D W H z;let⟨w,δ,S,Da,ok,env,q,bk⟩:=z;refine⟨w,δ,S,_,ok,env,q,λs P S1 J w1 H1 O ok1 it q1=>?_⟩;refine⟨λd m W H=>m=s.length - d/\d<=s.length/\∃u n C,w1.le u/\Ok K u H C/\eW K u n W/\dO P g k (s.drop d) Da n C,⟨s.length,by simp,zcT _,w1,δ,S1,.refl,ok1,env.le O,by simpa using q1⟩,?_⟩;intro d m σ2 H2 z;let⟨rfl,hi,u,n,C,a,l,j,G⟩:=z;by_cases Q:d<s.length
 ·rw[zag Q] at G;let⟨hP,G⟩:=G;have hd:=zak Q;refine .inr ⟨it.go d H2 C u _ a l hP hd,λU H'=>∃w3 t Z,w1.le w3/\Ok K w3 H' Z/\eW K w3 t U/\dO P g k (s.drop (d+1)) Da t Z,λU H' h=>⟨_,by omega,rfl,Q,h⟩,λx H' y=>?_⟩;let⟨w2',v,l,rx⟩:=it.EJ d H2 C u _ x H' a l hP hd y
  replace j:=j.le v
  replace a:=a.trans v
  refine⟨w2',s[d],n,C,_,l,j,rx,G,λt Z σ3 w3 H3 L ok3 Y q3=>?_⟩;have X:=O.trans (a.trans L);refine⟨w3,t,Z,_,ok3,Y,q3,⟨λE S4 σ4 w4 H4 I F o q4=>⟨w4,E,S4,a.trans (L.trans I),F,o,q4⟩,bk.rt.le X,bk.nx.le X,λE S4 σ4 w4 H4 I F o q4=>⟨w4,E,S4,a.trans (L.trans I),F,o,q4⟩⟩⟩
 ·have e:d=s.length:=by lia
  subst e;rw[List.drop_length] at G;exact .inl ⟨it.stop _ H2 C u a l G.1 rfl,bk.nx n C σ2 u H2 (O.trans a) l j G.2⟩
def Ky:∀D t H,fU K (IU d g) D t H->EU (iD K d) (fU K g) D t H:=by
 intro D t H z;let⟨w,Z,S,Da,ok,env,⟨W,⟨m0,w0⟩,turn⟩,bk⟩:=z;refine⟨λm t H=>∃u a E,w.le u/\Ok K u H E/\eW K u a t/\W m a E,⟨m0,w,Z,S,.refl,ok,env,w0⟩,?_⟩;intro m G H1 z;let⟨u,a,E,x,O,i,h1⟩:=z;refine⟨u,a,E,_,O,i,turn m a E h1,λk X U H2 l v q2=>?_⟩;cases k with
 |false=>exact xu (bk.nx a X G U H2 (x.trans l) v (i.le l) (by simpa using q2))
 |true=>
  let⟨N,hN,q2⟩:=q2;have j:=x.trans l;refine xr ⟨λs Y=>∃w3 e C,w.le w3/\Ok K w3 Y C/\eW K w3 e s/\N e C,?_,U,a,X,_,v,i.le l,q2,⟨λn Q F I H4 q o h q4=>⟨I,n,Q,j.trans q,o,h,q4⟩,bk.rt.le j,bk.nx.le j,λn Q F I H4 q o h q4=>⟨I,n,Q,j.trans q,o,h,q4⟩⟩⟩
  ·intro s Y z;let⟨w3,e,C,P,L,y,n3⟩:=z;let⟨m',hm,h3⟩:=hN e C n3;refine⟨m',hm,w3,e,C,P,L,y,h3⟩
def SG:∀a H Q,iD K lR a H Q->Sa a H Q:=by
 intro a H Q z;let⟨w,e,S,h,ok,env,q,bk⟩:=z;exact bk true S w H .refl ok q
def HY(h:eW K w δ g)(caps:List (Option Nat)):eW K w (qO caps δ) (rO caps g):=by
 refine⟨by simp[qO,rO],λi d e=>?_⟩;simp only[qO,zbh] at e;cases q:caps[i]? with
 |none=>rw[q] at e;cases e
 |some o=>
  rw[q] at e;cases o with
  |none=>simp at e
  |some j=>
   cases z:δ[j]? with
   |none=>simp[z] at e
   |some d'=>
    simp[z] at e;subst e;let⟨v,h1,h2⟩:=h.2 j d z;refine⟨v,by simp[rO,q,h1],h2⟩
def yZ:∀σ H Q,aO K (cU caps d g r z) σ H Q->E5 caps (Ai K d) (Aj K g) (iD K r) (aO K z) σ H Q:=by
 intro σ H Q i;let⟨w,δ,S,Qa,ok,env,q,bk⟩:=i;refine⟨w,δ,S,_,ok,env,q,λF P S1 J w1 H1 le1 ok1 it q1=>?_⟩;refine⟨λd m xs τ H=>m=F.length - d/\d<=F.length/\∃I G v j,w1.le I/\Ok K I H v/\eW K I G τ/\ao K I j xs/\bM P g r z (F.drop d) j G v (λX v=>Qa (.new (.lst X)) v),⟨F.length,by simp,zcT _,w1,qO caps δ,S1,[],.refl,ok1,HY (env.le le1) caps,.nil,by simpa using q1⟩,?_⟩;intro d m xs τ2 H2 i;let⟨rfl,hi,I,G,v,j,l,o,E,a,O⟩:=i;by_cases W:d<F.length
 ·rw[zag W] at O;let⟨hP,O⟩:=O;have hd:=zak W;refine .inr ⟨it.go d H2 v I _ l o hP hd,λys τ' H'=>∃w3 n S3 j,w1.le w3/\Ok K w3 H' S3/\eW K w3 n τ'/\ao K w3 j ys/\bM P g r z (F.drop (d+1)) j n S3 (λX v=>Qa (.new (.lst X)) v),λys σ' H' h=>⟨_,by omega,rfl,W,h⟩,λx H' y=>?_⟩;let⟨w2',C,o,rx⟩:=it.EJ d H2 v I _ x H' l o hP hd y
  replace E:=E.le C
  replace l:=l.trans C
  replace a:=a.le C
  refine⟨w2',F[d],G,v,_,o,E,rx,O,λn S3 σ3 w3 H3 L ok3 u q3=>?_⟩;refine⟨w3,n,S3,_,ok3,u,q3,λk S4 w4 H4 s Z q4=>?_⟩;cases k with
  |false=>
   exact xu ⟨w4,n,S4,j,l.trans (L.trans s),Z,u.le s,a.le (L.trans s),by simpa using q4⟩
  |true=>
   refine xr ⟨w4,n,S4,_,Z,u.le s,q4,.go λr5 S5 v5 w5 H5 U ok5 Y z1'=>?_⟩;let⟨hz,q5⟩:=z1';refine⟨by rw[a.length];exact hz,w5,n,S5,j++[r5.d],l.trans (L.trans (s.trans U)),ok5,u.le (s.trans U),(a.le (L.trans (s.trans U))).snoc Y,q5⟩
 ·have z:d=F.length:=by lia
  subst z;rw[List.drop_length] at O;refine .inl ⟨it.stop _ H2 v I l o O.1 rfl,λp hp=>?_⟩;exact bk (.new (.lst j)) v _ I _ (le1.trans l) (o.alloc hp) (o.fresh hp ⟨xs,rfl,a⟩) O.2
def Lz(h1:w.B g=some (.lst xs))(h:ao K w ds xs):U8 K w (U7 K g) ds (λ_=>True) where
 go:=λi H S a d le ok l e=>by
  let⟨v,j,_⟩:=h.get e;refine⟨xs,v,dS.of ((le.b.trans ok.base) _ _ h1),j⟩
 EJ:=λi H S a d x q le ok l e y=>by
  let⟨v,j,o⟩:=h.get e;let⟨n,m⟩:=y;have:=m xs (dS.of ((le.b.trans ok.base) _ _ h1));rw[j] at this;cases this;subst n;refine⟨a,.refl,ok,o.le le⟩
 stop:=λi H S a le ok l e=>⟨xs,dS.of ((le.b.trans ok.base) _ _ h1),by rw[h.length];lia⟩
def LA(o:w.r n=some g):U8 K w (U7 K g) ds (λS=>S[n]? =some (some (.lst ds))) where
 go:=λi H S m d le ok l e=>by
  let⟨b,u,a,s,j,h,rfl,k5⟩:=ok.live n _ l;rw[le.r n g o] at a;cases a;let⟨v,q,_⟩:=k5.get e;refine⟨h,v,dS.of j,q⟩
 EJ:=λi H S m d x F le ok l e y=>by
  let⟨b,u,a,s,j,h,rfl,k5⟩:=ok.live n _ l;rw[le.r n g o] at a;cases a;let⟨v,q,E⟩:=k5.get e;let⟨C,t⟩:=y;have:=t h (dS.of j);rw[q] at this;cases this;subst C;refine⟨m,.refl,ok,E⟩
 stop:=λi H S m le ok l e=>by
  let⟨b,u,a,s,j,h,rfl,k5⟩:=ok.live n _ l;rw[le.r n g o] at a;cases a;refine⟨h,dS.of j,by rw[k5.length];lia⟩
def Lx(h1:eS K w.B g xs)(h2:ao K w ds xs):U8 K w (Vz K g) ds (λ_=>True) where
 go:=λi H S a d le ok j e=>by
  let⟨v,h,_⟩:=h2.get e;refine⟨xs,v,eS.same (le.b.trans ok.base) h1,h⟩
 EJ:=λi H S a d x o le ok j e y=>by
  let⟨v,h,n⟩:=h2.get e;let⟨m,l⟩:=y;have:=l xs (eS.same (le.b.trans ok.base) h1);rw[h] at this;cases this;subst m;refine⟨a,.refl,ok,n.le le⟩
 stop:=λi H S a le ok j e=>⟨xs,eS.same (le.b.trans ok.base) h1,by rw[h2.length];lia⟩
def Ly:U8 K w (VA x) (signs x) (λ_=>True) where
 go:=λi H S j d le ok l e=>by
  have:i<(signs x).length:=by
   grind
  show i<x.cps.size;simpa[signs] using this
 EJ:=λi H S j d y o le ok l e z=>by
  obtain⟨n,c,m,rfl⟩:=z;subst n;refine⟨j,.refl,ok,?_⟩;rw[signs,zbh] at e;have a:x.cps.toList[i]? =some c:=by simp_all
  rw[a] at e;have:=by simpa using e
  subst this;exact .str
 stop:=λi H S j le ok l e=>by
  show _=_;rw[e];simp[signs]
def i6(e:aA)(Q:List D->(aA->Prop)->aA->Prop):D->Prop
 |.lst a=>Q a (λ_=>True) e
 |.tup a=>Q a (λ_=>True) e
 |.str x=>Q (signs x) (λ_=>True) e
 |.loc n=>∃a,e[n]? =some (some (.lst a))/\Q a (λS=>S[n]? =some (some (.lst a))) e
 |_=>False
def dP(t:AE):AI:=λa S Q=>t a S λr e=>i6 e Q r.d
def OZ:∀E H R,Ai K (dP g) E H R->(aO K g) E H λx j=>(∃a,x=.ref a/\(∃l,dS K j a l)/\R (U7 K a) j)∨(∃a,x=.ref a/\(∃l,eS K j a l)/\R (Vz K a) j)∨∃y,x=.str y/\R (VA y) j:=by
 intro E H R z;let⟨w,I,S,X,ok,env,q,bk⟩:=z;refine⟨w,I,S,_,ok,env,q,.go λL C P v j m i h o=>?_⟩;generalize L.d=d at h o;cases d with
 |lst s=>
  let⟨p,l,rfl,h1,h2⟩:=h;exact .inl ⟨p,rfl,⟨l,dS.of (i.base _ _ h1)⟩,bk s _ C _ v j m i (Lz h1 h2) o⟩
 |tup s=>
  let⟨p,l,rfl,h1,h2⟩:=h;exact .inr (.inl ⟨p,rfl,⟨l,eS.same i.base h1⟩,bk s _ C _ v j m i (Lx h1 h2) o⟩)
 |str x=>exact .inr (.inr ⟨x,jw h rfl,bk _ _ C _ v j m i Ly o⟩)
 |loc n=>
  let⟨p,F,rfl⟩:=h;let⟨s,e,o⟩:=o;let⟨Q,u,G,W,O,l,rfl,U⟩:=i.live n _ e;rw[F] at G;cases G;exact .inl ⟨p,rfl,⟨l,dS.of O⟩,bk s _ C _ v j m i (LA F) o⟩
 |_=>exact o.elim
def ux(e:(fM lo n)[i]? =some d):i<n/\d=.int (lo+(i:Int)):=by
 unfold fM at e;by_cases h:i<n
 ·simp_all
 simp_all
def OX:∀l H R,Ai K (n8 g) l H R->Nq (lM K g) l H R:=by
 intro l H R z;let⟨w,u,S,P,ok,env,q,bk⟩:=z;refine⟨w,u,S,_,ok,env,q,λO G vs E I s o h m=>?_⟩;obtain⟨j,hd,⟨h1,h2⟩,F⟩:=m;refine⟨j,?_,h1,h2,?_⟩
 ·subst hd;simp only[ao,Rep] at h;simp_all
 ·refine bk _ _ G _ E I s o ⟨λi H S n d le ok t e=>(ux e).1,λi H S n d x Q le ok t e y=>?_,λi H S n le ok t e=>?_⟩ F
  ·let⟨C,v⟩:=y;let⟨L,rfl⟩:=ux e;subst v C;refine⟨n,.refl,ok,.int⟩
  ·show _<=_;rw[e];simp[fM]
end M
variable {ds:List M.D}{ta tb:M.AE}{wi:M.AI}{sp:M.AN}{o:M.MO}{S:M.aA}{δ:M.bh}
namespace M
open PySem PySem.Spec PyProof.Rows L2
section
variable {a b:Expr}{es:List Expr}
def pv(i:Nat)(j:autoParam (X.N[i]? =some x) r0)(h:Vu X.env.scope x:=by first|exact Or.inl rfl|exact Or.inr (Or.inl rfl)|exact Or.inr (Or.inr rfl))(hd:autoParam ((x==("__debug__":Str))=false) r1)(e:autoParam ((x==("__classdict__":Str))=false) r1):GE X (.Name x pos) (cT i):=⟨mE (L2.PL j h hd e) SH⟩
theorem ak:GE X (.Constant (.int d) g pos) (aC (.int d)):=⟨mE L2.ak (SY λ_=>.int)⟩
theorem fH:GE X (.Constant (.bool d) g pos) (aC (.bl d)):=⟨mE L2.fH (SY λ_=>.bl)⟩
theorem au:GE X (.Constant (.str d) g pos) (aC (.str d)):=⟨mE L2.au (SY λ_=>.str)⟩
theorem GL(T:String)(j:Gl X x)(i:X.mg x=none)(e:bootBuiltins x=some (.type T))(h:x≠"__name__":=by decide+kernel)(hd:(x==("__debug__":Str))=false:=by decide+kernel):GE X (.Name x pos) (aC (.ty T)):=
 ⟨mE (L2.GL T j i e h hd) (SY λ_=>.ty)⟩
theorem kX(i:Gl X x)(e:X.mg x=some u)(r:RelV v u)(h:∀w,Rep X.K w d v)(hd:autoParam ((x==("__debug__":Str))=false) r1):GE X (.Name x pos) (aC d):=
 ⟨mE (L2.kX i e r hd) (SY h)⟩
theorem aK(e:rS X (binaryOp op) r)(i:GE X a ta)(h:GE X b tb):GE X (.BinOp a op b pos) (lT r ta tb):=⟨mE (L2.aK e.p i.p h.p) KA⟩
theorem BH(e:W4 X (unaryOp op) r)(h:GE X a ta):GE X (.UnaryOp op a pos) (Wv r ta):=⟨mE (L2.BH e.p h.p) VL⟩
theorem bq(e:rS X (yan op) r)(j:GE X a ta)(i:GE X b tb)(h:behindInMarks op b=false):GE X (.Compare a [op] [b] pos) (lT r ta tb):=⟨mE (L2.bq e.p j.p i.p h) KA⟩
theorem BI(h:W3 X r)(j:GE X a ta)(i:GE X b tb)(e:oX b):GE X (.Subscript a b pos) (lT r ta tb):=⟨mE (L2.BI h.p j.p i.p e) KA⟩
theorem ah:GA X [] b4:=⟨mA L2.ah SQ⟩
theorem aq(j:GE X e ta)(i:GA X es d)(h:autoParam (notStar e=true) r0):GA X (e::es) (eL ta d):=⟨mA (L2.aq j.p i.p h) Pc⟩
theorem aD(h:GA X es d):GE X (.Tuple es k pos) (iE d):=⟨mE (L2.aD h.p) SI⟩
theorem aV(h:GA X es d):GE X (.List es pos) (gm d):=⟨mE (L2.aV h.p) SR⟩
def om(h:GE X e d):GE X e (bF d):=⟨mE h.p s_alloc⟩
theorem m6(h:GE X a d):GE X (.BoolOp op [a] pos) d:=⟨L2.m6 h.p⟩
theorem m9(h:GE X a ta)(e:GE X (.BoolOp .And (b::d) pos) tb):GE X (.BoolOp .And (a::b::d) pos) (Jd ta tb):=⟨mE (L2.m9 h.p e.p) Pd⟩
theorem GN(h:GE X a ta)(e:GE X (.BoolOp .Or (b::d) pos) tb):GE X (.BoolOp .Or (a::b::d) pos) (Rm ta tb):=⟨mE (L2.GN h.p e.p) SN⟩
theorem qa(e:GT X c d)(i:GE X a ta)(h:GE X b tb):GE X (.IfExp c a b pos) (Wx d ta tb):=⟨mE (L2.qa e.p i.p h.p) VO⟩
theorem dz:GO X none oW:=⟨mO L2.dz FT⟩
theorem cH(h:GE X e d):GO X (some e) (CJ d):=⟨mO (L2.cH h.p) OT⟩
structure W2(X:Cx)(r:D->Option Int->Option Int->aA->AK->Prop):Prop where
 p:JX X (NB X.K r)
theorem cu(n:W2 X r)(q:GE X e k)(o:GO X d w)(m:GO X g z):GE X (.Subscript e (.Slice d g none p2) pos) (Vs r k w z):=
 ⟨mE (L2.cu n.p q.p o.p m.p) VM⟩
theorem V7(o:vG X (.builtin d) r)(n:Gl X x)(m:X.mg x=none)(i:bootBuiltins x=some (.builtin d))(q:GA X (e::es) g)(l:x≠"__name__":=by decide+kernel)(h:(x==("__debug__":Str))=false:=by decide+kernel)(j:autoParam ((e::es).all notStar=true) r0):GE X (.Call (.Name x p) (e::es) [] pos) (aCall r g):=⟨mE (L2.V7 o.p n m i q.p l h j) SX⟩
theorem V6(o:vG X (.type T) r)(n:Gl X x)(m:X.mg x=none)(i:bootBuiltins x=some (.type T))(q:GA X (e::es) d)(l:x≠"__name__":=by decide+kernel)(h:(x==("__debug__":Str))=false:=by decide+kernel)(j:autoParam ((e::es).all notStar=true) r0):GE X (.Call (.Name x p) (e::es) [] pos) (aCall r d):=⟨mE (L2.V6 o.p n m i q.p l h j) SX⟩
theorem bZ(D:Def X.prog X.w X.K X.mg X.base k x ps (av X.K sp))(j:aT k X.A)(l:Gl X x)(m:GA X (e::es) d)(h:(x==("__debug__":Str))=false:=by decide+kernel)(i:autoParam ((e::es).all notStar=true) r0):
  GE X (.Call (.Name x p) (e::es) [] pos) (aCall sp d):=⟨mE (L2.bZ D j l BJ m.p h i) s_call⟩
def f9(h:GE X e d)(j:∀i,isTrue e X.env i=(do let v <-i;standAt e.pos;holding [v] (truthy v)):=by intro _;rfl):GT X e (Rj d):=⟨mT (L2.GH h.p j) SJ⟩
theorem az(j:rS X (yan op) r)(n:GE X a ta)(m:GE X b tb)(l:behindInMarks op b=false):GT X (.Compare a [op] [b] pos) (aB (lT r ta tb)):=
 ⟨mT (L2.az j.p n.p m.p l) λe H Q h=>by
  let⟨w,i,S,o,ok,env,q,bk⟩:=s_b e H Q h;exact KA e H _ ⟨w,i,S,o,ok,env,q,bk⟩⟩
def pw_pt(h:GW X e d):GT X e d:=⟨h.p.pt⟩
theorem pw_and1(h:GT X a d):GW X (.BoolOp .And [a] pos) d:=⟨L2.pw_and1 h.p⟩
theorem pw_or1(h:GT X a d):GW X (.BoolOp .Or [a] pos) d:=⟨L2.pw_or1 h.p⟩
theorem pw_and(h:GT X a g)(e:GW X (.BoolOp .And (b::d) pos) k):GW X (.BoolOp .And (a::b::d) pos) (Je g k):=⟨mW (L2.pw_and h.p e.p) S7⟩
theorem pw_or(h:GT X a g)(e:GW X (.BoolOp .Or (b::d) pos) k):GW X (.BoolOp .Or (a::b::d) pos) (Vt g k):=⟨mW (L2.pw_or h.p e.p) VN⟩
theorem uz(h:GT X a d):GT X (.UnaryOp .Not a pos) (Rn d):=⟨mT (L2.uz h.p) SO⟩
theorem b9:R3 X [] lR:=⟨mTs L2.b9 SG⟩
theorem gR(h:GT X c d):R3 X [c] d:=⟨L2.gR h.p⟩
theorem bR(i:Gl X "range")(h:X.mg "range"=none)(j:GA X [a] d)(e:autoParam (yao [a] X.env=[(false,eval a X.env)]) r0):GI X tg (.Call (.Name "range" p) [a] [] pos) (n8 d):=⟨mI (L2.bR i h j.p e) OX⟩
def K4(U:PE X d g):PI X tg d (λF H R=>g F H λx m=>(∃a,x=.ref a/\(∃n,dS X.K m a n)/\R (U7 X.K a) m)∨(∃a,x=.ref a/\(∃n,eS X.K m a n)/\R (Vz X.K a) m)∨∃y,x=.str y/\R (VA y) m):=by
 intro u s F H R I h;refine bW (U u s F H _ I h) λv i G=>?_;let⟨x,m,j,L,S⟩:=G;rcases S with⟨a,rfl,⟨n,O⟩,q⟩|⟨a,rfl,⟨n,O⟩,q⟩|⟨y,rfl,q⟩
 ·cases L;let⟨C,Q,p,hz⟩:=j.list O;refine wpAny_pyIter_list p.isList ?_;refine⟨i.heap.objs.size,[i.heap.objs.size],_,_,m,rfl,j.kept λb o e=>zas _ e,Dc a _,⟨_,zaO _ rfl,rfl,rfl⟩,λb E=>?_,q⟩;have e:b=i.heap.objs.size:=by simp_all
  subst e;exact j.vc (zcS _) (j.hok.fresh (zcS _))
 ·cases L;let⟨C,Q,p,hz⟩:=j.tuple O;refine wpAny_pyIter_tuple (show i.heap.IsTuple a C.toArray from p) ?_;refine⟨i.heap.objs.size,[i.heap.objs.size],_,_,m,rfl,j.kept λb o e=>zas _ e,yL a _,⟨_,zaO _ rfl,rfl,rfl⟩,λb E=>?_,q⟩;have e:b=i.heap.objs.size:=by simp_all
  subst e;exact j.vc (zcS _) (j.hok.fresh (zcS _))
 ·let⟨t,rfl⟩:=L;refine wpAny_pyIter_strU ?_;refine⟨i.heap.objs.size,[i.heap.objs.size],_,_,m,rfl,j.kept λb o e=>zas _ e,EN _ y t,⟨_,zaO _ rfl,rfl,rfl⟩,λb E=>?_,q⟩;have e:b=i.heap.objs.size:=by simp_all
  subst e;exact j.vc (zcS _) (j.hok.fresh (zcS _))
def bg(h:GE X d g):GI X tg d (dP g):=⟨mI (K4 h.p) OZ⟩
theorem uH(S:eO scope N)(e:jY X.N X.env scope N caps=true)(i:L2.freeOk X.env scope=true)(t:X.calm=true)(o:GI X tg iter wi)(q:∀s₀ H₀ C fp,GG (jM X scope N s₀ H₀ C fp) tg g)(m:∀s₀ H₀ C fp,R3 (jM X scope N s₀ H₀ C fp) ifs k)(s:∀s₀ H₀ C fp,GE (jM X scope N s₀ H₀ C fp) d r)(n:∀x,foldedSetIterable iter X.env x=pure x:=by intro _;rfl):GE X (.ListComp d [⟨tg,iter,ifs,0⟩] scope pos) (cU caps wi g k r):=
 ⟨mE (L2.uH S e i t o.p (λs₀ H₀ C fp=>(q s₀ H₀ C fp).p) (λs₀ H₀ C fp=>(m s₀ H₀ C fp).p) (λs₀ H₀ C fp=>(s s₀ H₀ C fp).p) n) yZ⟩
theorem aH:AQ X [] yd:=⟨Wc L2.aH OV⟩
theorem af(h:GS X st d):AQ X [st] d:=⟨L2.af h.p⟩
theorem aa(h:GS X st k)(g:AQ X d q):AQ X (st::d) (gE k q):=⟨Wc (L2.aa h.p g.p) SK⟩
theorem aU(h:GE X e d)(i:autoParam (yat e none pos.line X.env=pure false) r0):GS X (.Expr e pos) (CK d):=⟨mS (L2.aU h.p i) O8⟩
theorem aG(h:GE X e d):GS X (.Return (some e) pos) (Mr d):=⟨mS (L2.aG h.p) SM⟩
theorem aR(h:GT X c g)(j:AQ X d k)(i:AQ X q r):GS X (.If c d q pos) (yf g k r):=⟨mS (L2.aR h.p j.p i.p) SS⟩
theorem fj(l:X.N.Nodup)(h:X.N[i]? =some x)(e:Loc X.env.scope x)(j:X.fn x=true∨X.env.scope.names.lookup x=some .local:=by first|exact .inl rfl|exact .inr rfl|assumption):GG X (.Name x pos) (bE i):=⟨mG (L2.fj l h e j) oF⟩
theorem fV:VD X [] NK:=⟨WW L2.fV O5⟩
theorem br(h1:GG X e d)(h2:VD X es g)(h:autoParam ((assignEach (e::es) X.env).map (·.2)=assign e X.env::(assignEach es X.env).map (·.2)) r0):VD X (e::es) (IJ d g):=⟨WW (L2.br h1.p h2.p h) KD⟩
theorem iQ(j:X.calm=true)(h:VD X es d)(i:autoParam ((assignEach es X.env).length=n) r0)(e:autoParam ((assignEach es X.env).findIdx? (·.1)=none) r0):GG X (.Tuple es k pos) (NJ n d):=⟨mG (L2.iQ j h.p i e) O4⟩
theorem zA(j:GE X e d)(i:GG X tg g)(h:autoParam (swapsWithSole [tg] e pos.line X.env=pure false) r0)(hw:autoParam (swappedStores [tg] e X.env=pure none) r0)(h1:autoParam ((assignEach [tg] X.env).map (·.2)=[assign tg X.env]) r0):GS X (.Assign [tg] e pos) (yg d g):=⟨mS (L2.zA j.p i.p h hw h1) Bo⟩
theorem zy(F:X.N.Nodup)(y:X.N[i]? =some x)(s:Loc X.env.scope x)(E:GE X e d)(u:autoParam (yat e (some (.Name x pos')) pos.line X.env=pure false) r0)(C:X.fn x=true∨X.env.scope.names.lookup x=some .local:=by first|exact .inl rfl|exact .inr rfl|assumption):
  GS X (.Assign [.Name x pos'] e pos) (yg d (bE i)):=⟨mS (L2.zy F y s E.p u C) λD l H h=>by
  let⟨w,m,S,I,ok,env,q,bk⟩:=Bo D l H h;refine⟨w,m,S,I,ok,env,q,λr G v n L le j rep o=>oF _ _ _ _ (bk r G v n L le j rep o)⟩⟩
theorem fE(Y:X.N.Nodup)(o:X.N[i]? =some x)(I:X.env.scope.names.lookup x=some .local)(S:eO scope N)(l:jY X.N X.env scope N caps=true)(s:L2.freeOk X.env scope=true)(W:X.calm=true)(P:GI X tg iter wi)(Q:∀s₀ H₀ C fp,GG (jM X scope N s₀ H₀ C fp) tg g)(L:∀s₀ H₀ C fp,R3 (jM X scope N s₀ H₀ C fp) ifs z)(U:∀s₀ H₀ C fp,GE (jM X scope N s₀ H₀ C fp) d J)(n:autoParam (yat (.ListComp d [⟨tg,iter,ifs,0⟩] scope pos) (some (.Name x pos')) k.line X.env=pure true) r0)(O:∀x,foldedSetIterable iter X.env x=pure x:=by intro _;rfl):GS X (.Assign [.Name x pos'] (.ListComp d [⟨tg,iter,ifs,0⟩] scope pos) k) (yg (cU caps wi g z J) (bE i)):=
 ⟨mS (L2.fE Y o I S l s W P.p (λs₀ H₀ C fp=>(Q s₀ H₀ C fp).p) (λs₀ H₀ C fp=>(L s₀ H₀ C fp).p) (λs₀ H₀ C fp=>(U s₀ H₀ C fp).p) n O) λD y H h=>by
  let⟨w,E,S,Qa,ok,env,q,bk⟩:=Bo D y H h;exact yZ _ _ _ ⟨w,E,S,Qa,ok,env,q,λr Z v F H' le m rep G=>oF _ _ _ _ (bk r Z v F H' le m rep G)⟩⟩
def iO(Y:X.N.Nodup)(o:X.N[i]? =some x)(I:X.env.scope.names.lookup x=some .local)(S:eO scope N)(l:jY X.N X.env scope N caps=true)(s:L2.freeOk X.env scope=true)(W:X.calm=true)(P:GI X tg iter wi)(Q:∀s₀ H₀ C fp,GG (jM X scope N s₀ H₀ C fp) tg g)(L:∀s₀ H₀ C fp,R3 (jM X scope N s₀ H₀ C fp) ifs z)(U:∀s₀ H₀ C fp,GE (jM X scope N s₀ H₀ C fp) d J)(n:autoParam (yat (.ListComp d [⟨tg,iter,ifs,0⟩] scope pos) (some (.Name x pos')) k.line X.env=pure true) r0)(O:∀x,foldedSetIterable iter X.env x=pure x:=by intro _;rfl):GS X (.Assign [.Name x pos'] (.ListComp d [⟨tg,iter,ifs,0⟩] scope pos) k) (yg (bF (cU caps wi g z J)) (bE i)):=
 ⟨mS (L2.fE Y o I S l s W P.p (λs₀ H₀ C fp=>(Q s₀ H₀ C fp).p) (λs₀ H₀ C fp=>(L s₀ H₀ C fp).p) (λs₀ H₀ C fp=>(U s₀ H₀ C fp).p) n O) λD t H h=>by
  let⟨w,E,S,Qa,ok,env,q,bk⟩:=s_alloc t H _ (Bo D t H h);exact yZ _ _ _ ⟨w,E,S,Qa,ok,env,q,λr Z v F H' le m rep G=>oF _ _ _ _ (bk r Z v F H' le m rep G)⟩⟩
theorem bC(i:PassesOwn (model X.prog X.w) X.A X.env X.xe)(m:X.calm=true)(j:GI X tg iter wi)(l:GG X tg g)(n:AQ X body d)(h:∀x,foldedSetIterable iter X.env x=pure x:=by intro _;rfl):GS X (.For tg iter body [] pos) (fP wi g d):=⟨mS (L2.bC i m j.p l.p n.p h) SW⟩
theorem kR(i:PassesOwn (model X.prog X.w) X.A X.env X.xe)(j:GT X c d)(l:AQ X body g):GS X (.While c body [] pos) (IU d g):=⟨mS (L2.kR i j.p l.p) Ky⟩
end
section
def Lb(h:iy X d r)(h':iy X d g):iy X d (λx y H Q=>r x y H Q∨g x y H Q):=by
 intro a s e H x y v u Q I j i q;obtain q|q:=q
 ·exact h a s e H x y v u Q I j i q
 ·exact h' a s e H x y v u Q I j i q
def WU(h:b5 X d r)(h':b5 X d g):b5 X d (λx H Q=>r x H Q∨g x H Q):=by
 intro a s e H x v Q I i q;obtain q|q:=q
 ·exact h a s e H x v Q I i q
 ·exact h' a s e H x v Q I i q
variable {w:Wd}{u:V}{d e:D}
def cG(h:Rep K w d v)(z:aP S d=.int g):v=.int g:=by
 cases d<;>simp only[aP] at z
 case loc n=>split at z<;>first|(rename_i o _;cases o<;>simp[MO.d] at z)|cases z
 all_goals simp_all
 simpa[Rep] using h
def bU(h:Rep K w d v)(z:aP S d=.str g):v=.str g:=by
 cases d<;>simp only[aP] at z
 case loc n=>split at z<;>first|(rename_i o _;cases o<;>simp[MO.d] at z)|cases z
 all_goals simp_all
 simpa[Rep] using h
def gM(h:Rep K w d v)(z:aP S d=.bl g):v=.bl g:=by
 cases d<;>simp only[aP] at z
 case loc n=>split at z<;>first|(rename_i o _;cases o<;>simp[MO.d] at z)|cases z
 all_goals simp_all
 simpa[Rep] using h
def Kq(h:Rep K w d v)(z:aP S d=.bx):v=.bx:=by
 cases d<;>simp only[aP] at z
 case loc n=>split at z<;>first|(rename_i o _;cases o<;>simp[MO.d] at z)|cases z
 all_goals first|cases z|skip
 simpa[Rep] using h
def kI(k:Ok K w H S)(h:Rep K w d v)(z:aP S d=.ir ns):∃a,v=.ref a/\dS K H a (ns.map V.int):=by
 cases d<;>simp only[aP] at z
 case loc n=>split at z<;>first|(rename_i o _;cases o<;>simp[MO.d] at z)|cases z
 all_goals first|cases z|skip
 let⟨a,h1,h2⟩:=h;refine⟨a,h1,k.base.seq h2⟩
def aI(C:Int->Int->Prop)(g:Int->Int->D):A2:=λx y S Q=>∃i j,x=.int i/\y=.int j/\C i j/\Q (.dat (g i j)) S
def RW(h:∀w i j,Rep K w (g i j) (g' i j)):∀x y H Q,Ak K (aI k g) x y H Q->rI k g' x y H Q:=by
 intro x y H Q z;let⟨w,d,e,S,s,ok,l,a,⟨i,j,o,n,m,q⟩,bk⟩:=z;refine⟨i,j,bz l o,bz a n,m,bk.dat .refl ok (h w i j) q⟩
def zu:∀x y H Q,rI (λ_ _=>True) g x y H Q->Nf g x y H Q:=by
 intro x y H Q z;let⟨i,j,h1,h2,_,q⟩:=z;refine⟨i,j,h1,h2,q⟩
def wL:rS X (binaryOp .Sub) (aI (λ_ _=>True) λi j=>.int (i - j)):=⟨m2 L2.PR λx y H Q h=>zu x y H Q (RW (g':=λi j=>.int (i - j)) (λ_ _ _=>.int) x y H Q h)⟩
def Qe:rS X (binaryOp .FloorDiv) (aI Vc λi j=>.int (i / j)):=⟨m2 L2.Lc (RW λ_ _ _=>.int)⟩
def jT:rS X (binaryOp .Mod) (aI (λ_ j=>0<j) λi j=>.int (i % j)):=⟨m2 L2.PZ (RW λ_ _ _=>.int)⟩
def TL:rS X (binaryOp .Pow) (aI Vb λi j=>.int (i ^ j.toNat)):=⟨m2 L2.PV (RW λ_ _ _=>.int)⟩
def Li:rS X (yan .Gt) (aI (λ_ _=>True) λi j=>.bl (decide (j<i))):=⟨m2 L2.Tz λx y H Q h=>zu x y H Q (RW (g':=λi j=>.bl (decide (j<i))) (λ_ _ _=>.bl) x y H Q h)⟩
def TU:rS X (yan .GtE) (aI (λ_ _=>True) λi j=>.bl (decide (j<=i))):=⟨m2 L2.TF λx y H Q h=>zu x y H Q (RW (g':=λi j=>.bl (decide (j<=i))) (λ_ _ _=>.bl) x y H Q h)⟩
def WY:A2:=λx y S Q=>match x,y with
 |.int i,.int j=>Q (.dat (.bl (decide (i<j)))) S
 |.str i,.str j=>Q (.dat (.bl (decide (i.cps.toList<j.cps.toList)))) S
 |_,_=>False
def aLe:A2:=λx y S Q=>match x,y with
 |.int i,.int j=>Q (.dat (.bl (decide (i<=j)))) S
 |.str i,.str j=>Q (.dat (.bl (!decide (j.cps.toList<i.cps.toList)))) S
 |_,_=>False
def G2:rS X (yan .Lt) WY:=⟨m2 (Lb L2.Tw L2.DE) λx y H Q h=>by
 let⟨w,d,e,S,j,ok,i,a,q,bk⟩:=h;cases d<;>cases e<;>first|exact q.elim|skip
 ·exact .inl ⟨_,_,bz i rfl,bz a rfl,bk.dat .refl ok .bl q⟩
 ·exact .inr ⟨_,_,jw i rfl,jw a rfl,bk.dat .refl ok .bl q⟩⟩
def rQ:A2:=λx y S Q=>match aP S x,aP S y with
 |.int i,.int j=>Q (.dat (.int (i+j))) S
 |.str i,.str j=>i.length+j.length<=yag/\Q (.dat (.str (i++j))) S
 |.lst xs,.lst ys=>xs.length+ys.length<=yag/\Q (.new (.lst (xs++ys))) S
 |.tup xs,.tup ys=>xs≠[]/\xs.length+ys.length<=yag/\Q (.dat (.tup (xs++ys))) S
 |_,_=>False
def bO:rS X (binaryOp .Add) rQ:=⟨m2 (Lb L2.P7 (Lb L2.zG (Lb L2.P6 L2.Ld))) λx y H Q h=>by
 let⟨w,d,e,S,W,ok,t,v,q,bk⟩:=h;unfold rQ at q;cases i:aP S d<;>cases m:aP S e<;>rw[i,m] at q<;>first|exact q.elim|skip
 ·exact .inl ⟨_,_,cG t i,cG v m,bk.dat .refl ok .int q⟩
 ·exact .inr (.inl ⟨_,_,bU t i,bU v m,q.1,bk.dat .refl ok .str q.2⟩)
 ·let⟨a,F,rfl,h1,l⟩:=cA ok t i;let⟨b,E,rfl,h2,j⟩:=cA ok v m;let⟨L,P,q⟩:=q;refine .inr (.inr (.inr ⟨a,b,F,E,rfl,rfl,h1,h2,?_,by rw[l.length,j.length];exact P,λO=>?_,λO p C=>?_⟩))
  ·intro z;subst z;have:=l.length;simp at this;exact L (zaa this.symm)
  ·subst O;have:_=[]:=zaa j.length.symm;rw[this,zbS] at q;cases d<;>simp only[aP] at i
   case tup=>cases i;exact bk.dat .refl ok t q
   case loc n=>split at i<;>first|(rename_i o _;cases o<;>simp[MO.d] at i)|cases i
   all_goals cases i
  ·let⟨U,I,G,s⟩:=ok.qh C (l.append j);exact bk.dat I G s q
 ·let⟨a,F,rfl,h1,l⟩:=bK ok t i;let⟨b,E,rfl,h2,j⟩:=bK ok v m;refine .inr (.inr (.inl ⟨a,b,F,E,rfl,rfl,h1,h2,by rw[l.length,j.length];exact q.1,λp C=>?_⟩));exact bk (.new (.lst _)) S _ w _ .refl (ok.alloc C) (ok.fresh C ⟨_,rfl,l.append j⟩) q.2⟩
end
end M
namespace M
open PySem PySem.Spec PyProof.Rows PySem.SeqAt L2
mutual
noncomputable def b8:D->Bool
 |.bx|.bl _|.int _|.str _=>true
 |.tup ds|.lst ds=>bQ ds
 |_=>false
noncomputable def bQ:List D->Bool
 |[]=>true
 |d::ds=>b8 d&&bQ ds
end
mutual
noncomputable def py:D->yam
 |.bx=>.none
 |.bl b=>.bool b
 |.int i=>.int i
 |.str x=>.str x
 |.tup ds=>.tuple (di ds)
 |.lst ds=>.list (di ds)
 |_=>.none
noncomputable def di:List D->List yam
 |[]=>[]
 |d::ds=>py d::di ds
end
section
variable {w:Wd}
mutual
theorem Ie(e:iF w.B H):∀(d:D)(v:V),b8 d=true->Rep K w d v->bJ K H (py d) v
 |.bx,v,_,h=>by simpa[Rep,py,bJ] using h
 |.bl _,v,_,h=>by simpa[Rep,py,bJ] using h
 |.int _,v,_,h=>by simpa[Rep,py,bJ] using h
 |.str _,v,_,h=>by simpa[Rep,py,bJ] using h
 |.tup ds,v,hp,h=>by
  simp only[Rep,py,bJ] at h⊢;obtain⟨a,i,h1,h2,j⟩:=h;refine⟨a,i,h1,eS.same e h2,lI e ds i (by simpa[b8] using hp) j⟩
 |.lst ds,v,hp,h=>by
  simp only[Rep,py,bJ] at h⊢;obtain⟨a,i,h1,h2,j⟩:=h;refine⟨a,i,h1,dS.of (e _ _ h2),lI e ds i (by simpa[b8] using hp) j⟩
 |.dct _ _,_,hp,_=>by simp[b8] at hp
 |.loc _,_,hp,_=>by simp[b8] at hp
 |.ty _,_,hp,_=>by simp[b8] at hp
 |.ir _,_,hp,_=>by simp[b8] at hp
 |.fd,_,hp,_=>by simp[b8] at hp
 |.fn _,_,hp,_=>by simp[b8] at hp
theorem lI(e:iF w.B H):∀(ds:List D)(vs:List V),bQ ds=true->ao K w ds vs->fc K H (di ds) vs
 |[],vs,_,h=>by simpa[ao,di,fc] using h
 |d::ds,vs,hp,h=>by
  simp only[bQ,zbN] at hp;simp only[ao,di,fc] at h⊢;obtain⟨x,r,h1,h2,a⟩:=h;refine⟨x,r,h1,Ie e d x hp.1 h2,lI e ds r hp.2 a⟩
end
def uo(k:Ok K w H S)(h:Rep K w d v)(e:b8 (aP S d)=true):bJ K H (py (aP S d)) v:=by
 cases d with
 |loc n=>
  cases z:aP S (.loc n) with
  |lst ds=>
   rw[z] at e;let⟨a,i,rfl,h1,h2⟩:=bK k h z;simp only[py,bJ];refine⟨a,i,rfl,dS.of h1,lI k.base ds i (by simpa[b8] using e) h2⟩
  |_=>
   rw[z] at e;simp only[aP] at z;split at z<;>first|(rename_i o _;cases o<;>simp[MO.d] at z)|(cases z;simp[b8] at e)|cases z
   all_goals simp[b8] at e
 |_=>exact Ie k.base _ v (by simpa[aP] using e) h
end
noncomputable def fit(d:D):Bool:=b8 d&&shaped (py d)
def NS:A2:=λx y S Q=>match aP S x,aP S y with
 |.str a,.str b=>Q (.dat (.bl (decide (a=b)))) S
 |.int a,.int b=>Q (.dat (.bl (decide (a=b)))) S
 |.bl a,.bl b=>Q (.dat (.bl (decide (a=b)))) S
 |x',y'=>fit x'=true/\fit y'=true/\Q (.dat (.bl (PyData.eqv (py x') (py y')))) S
def RX:A2:=λx y S Q=>match aP S x,aP S y with
 |.str a,.str b=>Q (.dat (.bl (!decide (a=b)))) S
 |.int a,.int b=>Q (.dat (.bl (!decide (a=b)))) S
 |.bl a,.bl b=>Q (.dat (.bl (!decide (a=b)))) S
 |x',y'=>fit x'=true/\fit y'=true/\Q (.dat (.bl (!PyData.eqv (py x') (py y')))) S
def V3(K:yaI):R2:=λx y H Q=>∃a b,bJ K H a x/\bJ K H b y/\shaped a=true/\shaped b=true/\Q (.bl (PyData.eqv a b)) H
def V0(K:yaI):R2:=λx y H Q=>∃a b,bJ K H a x/\bJ K H b y/\shaped a=true/\shaped b=true/\Q (.bl (!PyData.eqv a b)) H
def P5(n:aT k X.A):iy X (yan .Eq) (V3 X.K):=by
 intro e s C H x y v u Q I j i h;let⟨a,b,h1,h2,t,o,q⟩:=h;let⟨as,m⟩:=I.reads a x v h1 j;let⟨bs,l⟩:=I.reads b y u h2 i;exact eq_dataH m l t o n.units ⟨.bl _,H,I,rfl,q⟩
def PX(n:aT k X.A):iy X (yan .NotEq) (V0 X.K):=by
 intro e s C H x y v u Q I j i h;let⟨a,b,h1,h2,t,o,q⟩:=h;let⟨as,m⟩:=I.reads a x v h1 j;let⟨bs,l⟩:=I.reads b y u h2 i;exact ne_dataH m l t o n.units ⟨.bl _,H,I,rfl,q⟩
def fk(k:Ok K w H S)(h:Rep K w d v)(a:fit (aP S d)=true):bJ K H (py (aP S d)) v/\shaped (py (aP S d))=true:=by
 unfold fit at a;rw[zbN] at a;exact⟨uo k h a.1,a.2⟩
def cg(n:aT k X.A):rS X (yan .Eq) NS:=⟨m2 (Lb L2.TH (P5 n)) λx y H Q h=>by
 let⟨w,d,e,S,v,ok,j,i,q,bk⟩:=h;unfold NS at q;split at q
 next a b z1 z2=>
  refine .inl ⟨by rw[bU j z1,bU i z2];rfl,?_⟩;rw[bU j z1,bU i z2];exact bk.dat .refl ok (by rw[show decide (V.str a=V.str b)=decide (a=b) by simp];exact .bl) q
 next a b z1 z2=>
  refine .inl ⟨by rw[cG j z1,cG i z2];rfl,?_⟩;rw[cG j z1,cG i z2];exact bk.dat .refl ok (by rw[show decide (V.int a=V.int b)=decide (a=b) by simp];exact .bl) q
 next a b z1 z2=>
  refine .inl ⟨by rw[gM j z1,gM i z2];rfl,?_⟩;rw[gM j z1,gM i z2];exact bk.dat .refl ok (by rw[show decide (V.bl a=V.bl b)=decide (a=b) by simp];exact .bl) q
 next=>
  let⟨u,t,q⟩:=q;let⟨s,m⟩:=fk ok j u;let⟨o,l⟩:=fk ok i t;exact .inr ⟨_,_,s,o,m,l,bk.dat .refl ok .bl q⟩⟩
def G0(n:aT k X.A):rS X (yan .NotEq) RX:=⟨m2 (Lb L2.Tv (PX n)) λx y H Q h=>by
 let⟨w,d,e,S,v,ok,j,i,q,bk⟩:=h;unfold RX at q;split at q
 next a b z1 z2=>
  refine .inl ⟨by rw[bU j z1,bU i z2];rfl,?_⟩;rw[bU j z1,bU i z2];exact bk.dat .refl ok (by rw[show decide (V.str a=V.str b)=decide (a=b) by simp];exact .bl) q
 next a b z1 z2=>
  refine .inl ⟨by rw[cG j z1,cG i z2];rfl,?_⟩;rw[cG j z1,cG i z2];exact bk.dat .refl ok (by rw[show decide (V.int a=V.int b)=decide (a=b) by simp];exact .bl) q
 next a b z1 z2=>
  refine .inl ⟨by rw[gM j z1,gM i z2];rfl,?_⟩;rw[gM j z1,gM i z2];exact bk.dat .refl ok (by rw[show decide (V.bl a=V.bl b)=decide (a=b) by simp];exact .bl) q
 next=>
  let⟨u,t,q⟩:=q;let⟨s,m⟩:=fk ok j u;let⟨o,l⟩:=fk ok i t;exact .inr ⟨_,_,s,o,m,l,bk.dat .refl ok .bl q⟩⟩
noncomputable def inD(d:D)(ds:List D):Bool:=ds.any λy=>PyData.eqv (py y) (py d)
def qV(a:Bool):A2:=λx y S Q=>match aP S y with
 |.tup ds=>fit (aP S x)=true/\fit (.tup ds)=true/\Q (.dat (.bl (a != inD (aP S x) ds))) S
 |.lst ds=>fit (aP S x)=true/\fit (.lst ds)=true/\Q (.dat (.bl (a != inD (aP S x) ds))) S
 |_=>False
def Pz(K:yaI)(e:Bool):R2:=λx y H Q=>∃d a,bJ K H d x/\(bJ K H (.tuple a) y∨bJ K H (.list a) y)/\shaped d=true/\PyData.canLayAll0 a=true/\Q (.bl (e != a.any λy=>PyData.eqv y d)) H
def P4(o:aT k X.A):iy X (yan .In) (Pz X.K false):=by
 intro l s t H x y v u Q I n i h;let⟨d,E,h1,h2,a,m,q⟩:=h;let⟨as,j⟩:=I.reads d x v h1 n;have C:=o.un;obtain h2|h2:=h2
 ·let⟨bs,e⟩:=I.reads _ y u h2 i;exact PySem.SeqAt.in_tuple_reads e j m (canLay_of_shaped a) (room_in_shaped a (by lia)) ⟨.bl _,H,I,by simp[L2.RelV],q⟩
 ·let⟨bs,e⟩:=I.reads _ y u h2 i;exact PySem.SeqAt.in_list_reads e j m (canLay_of_shaped a) (room_in_shaped a (by lia)) ⟨.bl _,H,I,by simp[L2.RelV],q⟩
def DC(o:aT k X.A):iy X (yan .NotIn) (Pz X.K true):=by
 intro l s t H x y v u Q I n i h;let⟨d,E,h1,h2,a,m,q⟩:=h;let⟨as,j⟩:=I.reads d x v h1 n;have C:=o.un;obtain h2|h2:=h2
 ·let⟨bs,e⟩:=I.reads _ y u h2 i;exact PySem.SeqAt.notIn_tuple_reads e j m (canLay_of_shaped a) (room_in_shaped a (by lia)) ⟨.bl _,H,I,by simp[L2.RelV],q⟩
 ·let⟨bs,e⟩:=I.reads _ y u h2 i;exact PySem.SeqAt.notIn_list_reads e j m (canLay_of_shaped a) (room_in_shaped a (by lia)) ⟨.bl _,H,I,by simp[L2.RelV],q⟩
def kQ(ds:List D):di ds=ds.map py:=by
 induction ds with
 |nil=>rfl
 |cons d ds ih=>simp[di,ih]
def CF(ds:List D)(p:yam->Bool):(di ds).any p=ds.any λy=>p (py y):=by
 rw[kQ,zcA];rfl
def LK(h:fit (.tup ds)=true):PyData.canLayAll0 (di ds)=true:=by
 unfold fit at h;rw[zbN] at h;have:=canLay_of_shaped h.2;simpa[py,PyData.canLay0] using this
def xE(h:fit (.lst ds)=true):PyData.canLayAll0 (di ds)=true:=by
 unfold fit at h;rw[zbN] at h;have:=canLay_of_shaped h.2;simpa[py,PyData.canLay0] using this
def UJ:∀x y H Q,Ak K (qV neg) x y H Q->Pz K neg x y H Q:=by
 intro x y H Q k;let⟨w,d,e,S,s,ok,n,m,q,bk⟩:=k;unfold qV at q;split at q
 next ds z=>
  let⟨l,h,q⟩:=q;let⟨j,i⟩:=fk ok n l;let⟨a,o⟩:=fk ok m (by simp_all);rw[z] at a;refine⟨_,di ds,j,.inl (by simpa only[py] using a),i,LK h,?_⟩;rw[CF];exact bk.dat .refl ok .bl q
 next ds z=>
  let⟨l,h,q⟩:=q;let⟨j,i⟩:=fk ok n l;let⟨a,o⟩:=fk ok m (by simp_all);rw[z] at a;refine⟨_,di ds,j,.inr (by simpa only[py] using a),i,xE h,?_⟩;rw[CF];exact bk.dat .refl ok .bl q
 next=>exact q.elim
def uL(a:aT k X.A):rS X (yan .In) (qV false):=⟨m2 (P4 a) UJ⟩
def uK(a:aT k X.A):rS X (yan .NotIn) (qV true):=⟨m2 (DC a) UJ⟩
section
variable {w:Wd}{d:D}
def wo(h:ao K w ds xs)(q:kq ds g=some k):∃u,kq xs g=some u/\Rep K w k u:=by
 unfold kq at q⊢;rw[h.length];cases z:JU ds.length g with
 |none=>rw[z] at q;cases q
 |some j=>
  rw[z] at q;exact h.get q
def mH:A2:=λx y S Q=>match aP S x,y with
 |.lst ds,.int i=>∃e,kq ds i=some e/\Q (.dat e) S
 |.tup ds,.int i=>∃e,kq ds i=some e/\Q (.dat e) S
 |.str z,.int i=>z.length<=yag/\∃c,kq z.cps.toList i=some c/\Q (.dat (.str ⟨#[c]⟩)) S
 |.ir ns,.int i=>∃n,kq ns i=some n/\Q (.dat (.int n)) S
 |_,_=>False
def Mj{l m:Type}{f:l->m}{e:List l}{a:l}(h:kq e g=some a):kq (e.map f) g=some (f a):=by
 unfold kq at h⊢;cases z:JU e.length g with
 |none=>simp_all
 |some j=>
  simp_all
def TM:W3 X mH:=⟨λj l m s O H x y v u Q I U P h W=>by
 refine L2.Qv j l m s O H x y v u Q I U P ?_ W;let⟨w,d,e,S,Qa,ok,t,o,q,bk⟩:=h;unfold mH at q;split at q
 next ds i z=>
  let⟨a,C,rfl,h1,h2⟩:=bK ok t z;let⟨e',F,q⟩:=q;let⟨E,L,G⟩:=wo h2 F;exact .inl ⟨a,C,i,E,rfl,bz o rfl,dS.of h1,L,bk.dat .refl ok G q⟩
 next ds i z=>
  let⟨a,C,rfl,h1,h2⟩:=cA ok t z;let⟨e',F,q⟩:=q;let⟨E,L,G⟩:=wo h2 F;exact .inr (.inl ⟨a,C,i,E,rfl,bz o rfl,h1,L,bk.dat .refl ok G q⟩)
 next y i z=>
  let⟨Z,c,hc,q⟩:=q;exact .inr (.inr ⟨y,i,c,bU t z,bz o rfl,Z,hc,bk.dat .refl ok .str q⟩)
 next ns i z=>
  let⟨a,rfl,h1⟩:=kI ok t z;let⟨n,Y,q⟩:=q;exact .inl ⟨a,_,i,.int n,rfl,bz o rfl,h1,Mj Y,bk.dat .refl ok .int q⟩
 next=>exact q.elim⟩
noncomputable def cutD{e:Type}(a:List e)(lo h:Option Int):List e:=(a.drop (HT.cC a.length 0 lo)).take (HT.cC a.length a.length h - HT.cC a.length 0 lo)
def pS(h:ao K w ds xs)(lo a:Option Int):ao K w (cutD ds lo a) (xQ xs lo a):=by
 unfold cutD xQ;rw[h.length];exact(h.drop _).take _
end
section
variable {w:yak}
def jL(e:IsTup s.heap d items)(u:s.heap.IsSliceOf g q k .none)(pl:IsPart q r)(pu:IsPart k z)(hw:HT.cC items.size 0 r=0/\HT.cC items.size items.size z=items.size)(h:Q (.ref d) s):yar (model prog w) A (getItem (.ref d) (.ref g)) Q E s:=by
 let⟨os,j,l,v⟩:=id u;have n:s.TypeIs (.ref g) "slice":=⟨os,j,l⟩
 unfold getItem
 try with_reducible refine yad ?_
 refine yaa (wpAny_sequenceKey e.typeIs (by decide) ?_);refine yaa (wpAny_callSpecial?_slot e.typeIs PyProof.Rows.slot_tuple_getitem (wpAny_call_entry PyProof.Rows.slot_tuple_getitem e.typeIs PyProof.Rows.entry_tuple_getitem ?_ (PyProof.Rows.args_tuple_getitem _ _)));show yar _ _ (Builtin.Tuple.tupleItemsOf (.ref d) >>= _) _ _ s;refine yaa (PyProof.Rows.tupleItemsOf_ e ?_);refine yaa (wpAny_typeOf n ?_);refine yaa (HT.gu u pl pu ?_);have a:(((HT.cC items.size 0 r:Nat):Int)==0&&(1:Int)==1&&(HT.cC items.size items.size z - HT.cC items.size 0 r)==items.size)=true:=by
  simp_all
 show yar _ _ (if(((HT.cC items.size 0 r:Nat):Int)==0&&(1:Int)==1&&(HT.cC items.size items.size z - HT.cC items.size 0 r)==items.size)=true then _ else _) _ _ s;rw[yIp a];refine yaa ?_;refine yaa (wpAny_typeOf e.typeIs (yab ?_));exact yaa (wpAny_rule (yab ⟨_,rfl,yab h⟩))
end
section
variable {w:Wd}{d:D}
def yc:D->Option Int->Option Int->aA->AK->Prop:=λx lo a S Q=>match aP S x with
 |.lst ds=>Q (.new (.lst (cutD ds lo a))) S
 |.tup ds=>Q (.dat (.tup (cutD ds lo a))) S
 |.str z=>z.length<=yag/\Q (.dat (.str (Txt.slice z lo a))) S
 |.ir ns=>Q (.new (.lst ((cutD ns lo a).map D.int))) S
 |_=>False
def VW(K:yaI):V->Option Int->Option Int->Hp->VK->Prop:=λx lo h H Q=>∃a e,x=.ref a/\eS K H a e/\(HT.cC e.length 0 lo=0/\HT.cC e.length e.length h=e.length)/\Q (.ref a) H
def Fy:JX X (VW X.K):=by
 intro j s u H x v C y lo F E Q I n t pl pu h;let⟨a,m,rfl,o,hw,q⟩:=h;cases n;let⟨i,r,l,hz⟩:=I.tuple o;have e:i.toArray.size=m.length:=by exact r.length.symm
 refine⟨"tuple",_,PyProof.Rows.slot_tuple_getitem.lookup,l.typeIs,?_⟩;exact jL l t pl pu (by rw[e];exact hw) ⟨.ref a,H,I,rfl,q⟩
def D9{i:Type}{a:List i}(h:HT.cC a.length 0 g=0/\HT.cC a.length a.length k=a.length):cutD a g k=a:=by
 unfold cutD;simp_all
def Mb{a i:Type}(f:a->i)(e:List a)(lo h:Option Int):cutD (e.map f) lo h=(cutD e lo h).map f:=by
 unfold cutD;simp
theorem jv{w:Wd}:∀(ns:List Int),ao K w (ns.map D.int) (ns.map V.int)
 |[]=>.nil
 |n::ns=>.cons .int (jv ns)
def jR:W2 X yc:=⟨by
 intro m s E H x v G F lo t L Q I O P pl pu h;refine(L2.Kf.or (L2.OE.or (Fy.or L2.OF))) m s E H x v G F lo t L Q I O P pl pu ?_;let⟨w,d,S,W,ok,l,q,bk⟩:=h;unfold yc at q;split at q
 next ds z=>
  let⟨a,e,rfl,h1,h2⟩:=bK ok l z;exact .inl ⟨a,e,rfl,dS.of h1,λp i=>bk (.new (.lst _)) S _ w _ .refl (ok.alloc i) (ok.fresh i ⟨_,rfl,pS h2 lo t⟩) q⟩
 next ds z=>
  let⟨a,e,rfl,h1,h2⟩:=cA ok l z;by_cases hw:HT.cC e.length 0 lo=0/\HT.cC e.length e.length t=e.length
  ·refine .inr (.inr (.inl ⟨a,e,rfl,h1,hw,?_⟩));rw[h2.length] at hw;rw[D9 hw] at q;cases d<;>simp only[aP] at z
   case tup=>cases z;exact bk.dat .refl ok l q
   case loc n=>split at z<;>first|(rename_i o _;cases o<;>simp[MO.d] at z)|cases z
   all_goals cases z
  ·refine .inr (.inl ⟨a,e,rfl,h1,hw,λp i=>?_⟩);let⟨U,C,u,j⟩:=ok.qh i (pS h2 lo t);exact bk.dat C u j q
 next y z=>exact .inr (.inr (.inr ⟨y,bU l z,q.1,bk.dat .refl ok .str q.2⟩))
 next ns z=>
  let⟨a,rfl,h1⟩:=kI ok l z;refine .inl ⟨a,_,rfl,h1,λp i=>bk (.new (.lst _)) S _ w _ .refl (ok.alloc i) (ok.fresh i ⟨_,rfl,?_⟩) q⟩;have:=pS (jv (K:=X.K) (w:=w) ns) lo t;rw[Mb] at this;exact this
 simp_all⟩
def IW:A2:=λx y S Q=>match aP S x,y with
 |.int i,.int j=>JO i j/\Q (.dat (.int (i*j))) S
 |.lst ds,.int k=>(-(2 ^ 63)<=k/\k<2 ^ 63)/\ds.length*k.toNat<=yag/\Q (.new (.lst (zck k.toNat ds).flatten)) S
 |.str z,.int n=>MulOk z n/\Q (.dat (.str (Txt.mul z n))) S
 |_,_=>False
theorem wm(h:ao K w g q):∀k:Nat,ao K w (zck k g).flatten (zck k q).flatten
 |0=>.nil
 |k+1=>by
  exact h.append (wm h k)
def jS:rS X (binaryOp .Mult) IW:=⟨m2 (Lb L2.PY (Lb L2.PU L2.zF)) λx y H Q h=>by
 let⟨w,d,e,S,C,ok,m,l,q,bk⟩:=h;unfold IW at q;split at q
 next i j z=>exact .inl ⟨i,j,cG m z,bz l rfl,q.1,bk.dat .refl ok .int q.2⟩
 next ds k z=>
  let⟨a,s,rfl,h1,h2⟩:=bK ok m z;obtain⟨⟨v,u⟩,t,q⟩:=q;refine .inr (.inl ⟨a,k,s,rfl,bz l rfl,h1,v,u,by rw[h2.length];exact t,λp o=>?_⟩);exact bk (.new (.lst _)) S _ w _ .refl (ok.alloc o) (ok.fresh o ⟨_,rfl,wm h2 k.toNat⟩) q
 next y n z=>exact .inr (.inr ⟨y,n,bU m z,bz l rfl,q.1,bk.dat .refl ok .str q.2⟩)
 simp_all⟩
end
mutual
noncomputable def ia(n:Nat):D->Bool
 |.loc m=>decide (m<n)
 |.tup ds|.lst ds|.dct _ ds=>jc n ds
 |_=>true
noncomputable def jc(n:Nat):List D->Bool
 |[]=>true
 |d::ds=>ia n d&&jc n ds
end
noncomputable def gZ(n:Nat):MO->Bool
 |.lst ds=>jc n ds
 |.dct _ ds=>jc n ds
 |.feed _=>true
 |.ins _ _ ds=>jc n ds
 |.Ic _ ks=>jc n ks
 |.JV _ ks=>jc n ks
mutual
theorem Cy(n:Nat):∀d:D,b8 d=true->ia n d=true
 |.bx,_=>by simp[ia]
 |.bl _,_=>by simp[ia]
 |.int _,_=>by simp[ia]
 |.str _,_=>by simp[ia]
 |.tup ds,h=>by simp only[ia];exact dJ n ds (by simpa[b8] using h)
 |.lst ds,h=>by simp only[ia];exact dJ n ds (by simpa[b8] using h)
 |.dct _ _,h=>by simp[b8] at h
 |.loc _,h=>by simp[b8] at h
 |.ty _,h=>by simp[b8] at h
 |.ir _,h=>by simp[b8] at h
 |.fd,h=>by simp[b8] at h
 |.fn _,h=>by simp[b8] at h
theorem dJ(n:Nat):∀ds:List D,bQ ds=true->jc n ds=true
 |[],_=>by simp[jc]
 |d::ds,h=>by
  simp only[bQ,zbN] at h;simp only[jc,zbN];exact⟨Cy n d h.1,dJ n ds h.2⟩
end
noncomputable def kM(n:Nat)(w:Wd):Wd:=⟨w.B,λk=>if k<n then w.r k else none⟩
section
variable {w w1:Wd}{H1:Hp}{S0 S1:aA}
mutual
theorem sC(n:Nat):∀(d:D)(v:V),ia n d=true->Rep K w d v->Rep K (kM n w) d v
 |.bx,_,_,h=>by simpa[Rep] using h
 |.bl _,_,_,h=>by simpa[Rep] using h
 |.int _,_,_,h=>by simpa[Rep] using h
 |.str _,_,_,h=>by simpa[Rep] using h
 |.ty _,_,_,h=>by simpa[Rep] using h
 |.fd,_,_,h=>by simpa[Rep] using h
 |.fn _,_,_,h=>by simpa[Rep] using h
 |.ir _,_,_,h=>by simpa[Rep,kM] using h
 |.loc m,v,hb,h=>by
  simp only[ia,decide_eq_true_eq] at hb;simp only[Rep] at h⊢;obtain⟨a,h1,h2⟩:=h;refine⟨a,by show(if m<n then w.r m else none)=_;rw[yIp hb];exact h1,h2⟩
 |.tup ds,v,hb,h=>by
  simp only[Rep] at h⊢;obtain⟨a,e,h1,h2,i⟩:=h;refine⟨a,e,h1,h2,b7 n ds e (by simpa[ia] using hb) i⟩
 |.lst ds,v,hb,h=>by
  simp only[Rep] at h⊢;obtain⟨a,e,h1,h2,i⟩:=h;refine⟨a,e,h1,h2,b7 n ds e (by simpa[ia] using hb) i⟩
 |.dct ks ds,v,hb,h=>by
  simp only[Rep] at h⊢;obtain⟨a,e,h1,h2,i,j⟩:=h;refine⟨a,e,h1,h2,i,b7 n ds _ (by simpa[ia] using hb) j⟩
theorem b7(n:Nat):∀(ds:List D)(vs:List V),jc n ds=true->ao K w ds vs->ao K (kM n w) ds vs
 |[],_,_,h=>by simpa[ao] using h
 |d::ds,vs,hb,h=>by
  simp only[jc,zbN] at hb;simp only[ao] at h⊢;obtain⟨x,r,h1,h2,a⟩:=h;refine⟨x,r,h1,sC n d x hb.1 h2,b7 n ds r hb.2 a⟩
end
mutual
theorem KY(n:Nat)(i:∀k,n<=k->w.r k=none):∀(d:D)(v:V),Rep K w d v->ia n d=true
 |.bx,_,_=>by simp[ia]
 |.bl _,_,_=>by simp[ia]
 |.int _,_,_=>by simp[ia]
 |.str _,_,_=>by simp[ia]
 |.ty _,_,_=>by simp[ia]
 |.fd,_,_=>by simp[ia]
 |.fn _,_,_=>by simp[ia]
 |.ir _,_,_=>by simp[ia]
 |.loc m,v,h=>by
  simp only[Rep] at h;obtain⟨a,h1,h2⟩:=h;simp only[ia,decide_eq_true_eq];obtain q|q:=zcJ m n
  ·exact q
  ·rw[i m q] at h1;cases h1
 |.tup ds,v,h=>by
  simp only[Rep] at h;obtain⟨a,e,h1,h2,j⟩:=h;simp only[ia];exact dw n i ds e j
 |.lst ds,v,h=>by
  simp only[Rep] at h;obtain⟨a,e,h1,h2,j⟩:=h;simp only[ia];exact dw n i ds e j
 |.dct ks ds,v,h=>by
  simp only[Rep] at h;obtain⟨a,e,h1,h2,j,l⟩:=h;simp only[ia];exact dw n i ds _ l
theorem dw(n:Nat)(a:∀k,n<=k->w.r k=none):∀(ds:List D)(vs:List V),ao K w ds vs->jc n ds=true
 |[],_,_=>by simp[jc]
 |d::ds,vs,h=>by
  simp only[ao] at h;obtain⟨x,r,h1,h2,e⟩:=h;simp only[jc,zbN];exact⟨KY n a d x h2,dw n a ds r e⟩
end
def j6(n:Nat):∀{o:MO}{u:HO},gZ n o=true->lV K w o u->lV K (kM n w) o u:=by
 intro o u e h;cases o with
 |lst ds=>let⟨i,h1,h2⟩:=h;refine⟨i,h1,b7 n ds i e h2⟩
 |dct ks ds=>let⟨i,h1,h2,j⟩:=h;refine⟨i,h1,h2,b7 n ds _ e j⟩
 |feed _=>exact h
 |ins C ks ds=>let⟨l,fs,h1,h2,j⟩:=h;refine⟨l,fs,h1,h2,b7 n ds _ e j⟩
 |Ic F ks=>let⟨a,bs,h1,h2⟩:=h;refine⟨a,bs,h1,b7 n ks _ e h2⟩
 |JV F ks=>let⟨a,bs,h1,h2⟩:=h;refine⟨a,bs,h1,b7 n ks _ e h2⟩
def Gr(n:Nat)(e:∀k,n<=k->w.r k=none):∀{o:MO}{u:HO},lV K w o u->gZ n o=true:=by
 intro o u h;cases o with
 |lst ds=>let⟨j,h1,h2⟩:=h;exact dw n e ds j h2
 |dct ks ds=>let⟨j,h1,h2,i⟩:=h;exact dw n e ds _ i
 |feed _=>rfl
 |ins C ks ds=>let⟨l,fs,h1,h2,i⟩:=h;exact dw n e ds _ i
 |Ic F ks=>let⟨a,bs,h1,h2⟩:=h;exact dw n e ks _ h2
 |JV F ks=>let⟨a,bs,h1,h2⟩:=h;exact dw n e ks _ h2
noncomputable def out(n:Nat)(S1:aA):R->Option R
 |.dat (.loc m)=>if m<n then some (.dat (.loc m)) else match S1[m]? with
  |some (some o)=>if gZ n o=true then some (.new o) else none
  |_=>none
 |.dat d=>if ia n d=true then some (.dat d) else none
 |.new o=>if gZ n o=true then some (.new o) else none
def chg(S0 S1:aA):Prop:=∀k o,k<S0.length->S1[k]? =some (some o)->S0[k]? =some (some o)∨gZ S0.length o=true
def ret(S0 S1:aA)(r:R)(Q:AK):Prop:=∃a,out S0.length S1 r=some a/\chg S0 S1/\Q a (S1.take S0.length)
def uy(ok:Ok K w H S0)(le:w.le w1)(j:Ok K w1 H1 S1)(rep:EB K w1 H1 S1 r v)(h:ret S0 S1 r L)(bk:ff K w L g):g v H1:=by
 let⟨F,i,P,q⟩:=h;generalize O:S0.length=n at*;have lt:∀k a,w.r k=some a->k<n:=λk a e=>by
  obtain z|z:=zcJ k n
  ·exact z
  ·rw[ok.top k (by lia)] at e;cases e
 have at_:∀k o,(S1.take n)[k]? =some (some o)->k<n/\S1[k]? =some (some o):=λk o e=>by
  rw[zaS] at e;simp_all
 have I:w.le (kM n w1):=⟨le.b,λk a e=>by show(if k<n then w1.r k else none)=_;rw[yIp (lt k a e)];exact le.r k a e⟩
 have bl:∀k o,k<n->S1[k]? =some (some o)->gZ n o=true:=λk o l e=>by
  obtain z|z:=P k o (by lia) e
  ·let⟨a,u,_,_,_,x⟩:=ok.live k o z;exact Gr n (λk l=>ok.top k (by lia)) x
  simp_all
 have G:Ok K (kM n w1) H1 (S1.take n):=⟨j.base,λk o e=>by
   let⟨l,e⟩:=at_ k o e;let⟨a,u,h1,h2,C,x⟩:=j.live k o e;refine⟨a,u,by show(if k<n then w1.r k else none)=_;rw[yIp l];exact h1,h2,C,j6 n (bl k o l e) x⟩,
  λk m o s e y z=>by
   let⟨l,e⟩:=at_ k o e;let⟨t,y⟩:=at_ m s y;have z:(if k<n then w1.r k else none)=(if m<n then w1.r m else none):=z;rw[yIp l,yIp t] at z;exact j.inj k m o s e y z,
  λk l=>by
   show(if k<n then w1.r k else none)=none;by_cases z:k<n
   ·rw[yIp z];rw[zbz] at l;exact j.top k (by lia)
   ·rw[yIn z]⟩
 refine bk F (S1.take n) v (kM n w1) H1 I G ?_ q;have fresh:∀m o a,n<=m->S1[m]? =some (some o)->w1.r m=some a->∀k s,(S1.take n)[k]? =some (some s)->(kM n w1).r k≠some a:=λm o a t e E k s y z=>by
  let⟨l,y⟩:=at_ k s y;have z:(if k<n then w1.r k else none)=some a:=z;rw[yIp l] at z;have:=j.inj k m s o y e (z.trans E.symm);lia
 cases r with
 |new o=>
  simp only[out] at i;split at i
  next hb=>
   cases i;let⟨a,u,rfl,h1,h2,C,x⟩:=rep;refine⟨a,u,rfl,h1,h2,j6 n hb C,λk s e z=>?_⟩;let⟨l,e⟩:=at_ k s e;have z:(if k<n then w1.r k else none)=some a:=z;rw[yIp l] at z;exact x k s e z
  next=>cases i
 |dat d=>
  have gen:(if ia n d=true then some (R.dat d) else none)=some F->EB K (kM n w1) H1 (S1.take n) F v:=λi=>by
   split at i
   next hb=>cases i;exact sC n d v hb rep
   next=>cases i
  cases d with
  |loc m=>
   simp only[out] at i;split at i
   next t=>exact gen (by simp[ia,t,i])
   next t=>
    have t:n<=m:=by lia
    split at i
    next o e=>
     split at i
     next hb=>
      cases i;let⟨a,E,rfl⟩:=rep;let⟨S,u,h1,h2,C,x⟩:=j.live m o e;rw[E] at h1;cases h1;refine⟨a,u,rfl,h2,C,j6 n hb x,fresh m o a t e E⟩
     next=>cases i
    next=>cases i
  |_=>exact gen (by simpa only[out] using i)
end
noncomputable def aJ(N:List Str)(ds:List D):bh:=ds.map some++zck (N.length - ds.length) none
def jE(h:ao K w ds vs):eW K w (aJ N ds) (L2.start N vs):=by
 have j:=h.length;refine⟨by simp[aJ,L2.start,j],λi d e=>?_⟩;unfold aJ at e;by_cases a:i<ds.length
 ·rw[zae (by simp_all),zbh] at e;cases z:ds[i]? with
  |none=>rw[z] at e;cases e
  |some d'=>
   have e:d'=d:=by simp_all
   subst e;let⟨v,h1,h2⟩:=h.get z;refine⟨v,?_,h2⟩;unfold L2.start;rw[zae (by simp_all),zbh,h1];rfl
 ·rw[zab (by simp_all),List.getElem?_replicate] at e;split at e<;>cases e
section
variable {w:yak}
def eU(F:Src K mg x ps st)(S:aE N ps (aj st))(len:∀ds S Q,sp ds S Q->ds.length=ps.length)(j:∀(f:Addr)(e:yai)(A:yal)(outer:List Env)(s:yah)(H:Hp)(E:XK),aT k (A.deeper (envOfC x (aj st) s.heap.objs.size f e))->∃a,AQ (nv oZ P w K mg base N x (aj st) f e A outer s H E).JR (bH st) a/\∀ds S Q,sp ds S Q->a {nx:=λ_ S'=>ret S S' (.dat .bx) Q,rt:=λr S'=>ret S S' r Q} (aJ N ds) S):Def P w K mg base (k+1) x ps (av K sp):=
 F.def S (λvs H Q E h=>by
  let⟨w,ds,S,n,ok,rep,q,bk⟩:=h;rw[rep.length];exact len ds S n q) λf e A outer s H vs Q E t h=>by
  let⟨a,u,hd⟩:=j f e A outer s H E t;let⟨w,ds,S,n,ok,rep,q,bk⟩:=h;refine⟨_,u.p,w,aJ N ds,S,_,ok,jE rep,hd ds S n q,⟨λG S' C o y le i env m=>uy (r:=.dat .bx) ok le i (show Rep K o .bx .bx from .bx) m bk,λr S' v o y le i l m=>uy ok le i l m bk,λ_ _ _ _ _ _ _ _ z=>z.elim,λ_ _ _ _ _ _ _ _ z=>z.elim⟩⟩
end
section
variable {w:Wd}{d:D}
def eY(h:ao K w [d] vs):∃v,vs=[v]/\Rep K w d v:=by
 let⟨x,r,rfl,h1,rfl⟩:=h;refine⟨x,rfl,h1⟩
def Gp(h:ao K w [d,g] vs):∃v u,vs=[v,u]/\Rep K w d v/\Rep K w g u:=by
 obtain⟨x,r,rfl,h1,y,a,rfl,h2,rfl⟩:=h;exact⟨x,y,rfl,h1,h2⟩
noncomputable def xm:D->Option Nat
 |.lst ds=>some ds.length
 |.tup ds=>some ds.length
 |.ir ns=>some ns.length
 |.dct ks _=>some ks.length
 |.str z=>if z.length<=yag then some z.length else none
 |_=>none
def UT:AN:=λa S Q=>∃d n,a=[d]/\xm (aP S d)=some n/\Q (.dat (.int n)) S
theorem eZ:vG X (.builtin "len") UT:=⟨mC (WU L2.Iu L2.Ek) λl H Q h=>by
 let⟨w,j,S,o,ok,rep,⟨d,n,rfl,e,q⟩,bk⟩:=h;let⟨v,rfl,i⟩:=eY rep;cases z:aP S d with
 |lst j=>
  rw[z] at e;have e:=by simpa[xm] using e
  let⟨a,l,rfl,h1,h2⟩:=bK ok i z;exact .inl ⟨_,n,rfl,.inl ⟨l,dS.of h1,by rw[h2.length,e]⟩,bk.dat .refl ok .int q⟩
 |tup j=>
  rw[z] at e;have e:=by simpa[xm] using e
  let⟨a,l,rfl,h1,h2⟩:=cA ok i z;exact .inl ⟨_,n,rfl,.inr ⟨l,h1,by rw[h2.length,e]⟩,bk.dat .refl ok .int q⟩
 |ir ns=>
  rw[z] at e;have e:=by simpa[xm] using e
  let⟨a,rfl,h1⟩:=kI ok i z;exact .inl ⟨_,n,rfl,.inl ⟨_,h1,by rw[zbR,e]⟩,bk.dat .refl ok .int q⟩
 |str y=>
  rw[z] at e;simp only[xm] at e;split at e
  next hl=>
   cases e;exact .inl ⟨_,_,rfl,(by rw[bU i z];exact⟨hl,rfl⟩),bk.dat .refl ok .int q⟩
  simp_all
 |dct ks j=>
  rw[z] at e;have e:=by simpa[xm] using e
  let⟨a,m,rfl,h1,h2,_⟩:=fh ok i z;refine .inr ⟨a,m,rfl,h1,?_⟩;rw[<-zbR,h2,e];exact bk.dat .refl ok .int q
 |_=>rw[z] at e;simp[xm] at e⟩
noncomputable def RQ:D->Option String
 |.bx=>some "NoneType"
 |.bl _=>some "bool"
 |.int _=>some "int"
 |.str _=>some "str"
 |.tup _=>some "tuple"
 |.lst _=>some "list"
 |_=>none
noncomputable def T8(d:D)(T:String):Option Bool:=(RQ d).bind λt=>if T=="str"||T=="int"||T=="bool"||T=="tuple"||T=="list" then some (t==T||(t=="bool"&&T=="int")) else none
def UW:AN:=λa S Q=>∃d T b,a=[d,.ty T]/\T8 (aP S d) T=some b/\Q (.dat (.bl b)) S
def Oi(ok:Ok K w H S)(h:Rep K w d v)(e:RQ (aP S d)=some g):lU K H v (.type g)∨g="tuple"/\∃a j,v=.ref a/\eS K H a j:=by
 cases z:aP S d with
 |lst ds=>
  rw[z] at e;cases e;let⟨a,i,rfl,h1,h2⟩:=bK ok h z;exact .inl (.lst h1)
 |tup ds=>
  rw[z] at e;cases e;let⟨a,i,rfl,h1,h2⟩:=cA ok h z;exact .inr ⟨rfl,a,i,rfl,h1⟩
 |bx=>rw[z] at e;cases e;rw[Kq h z];exact .inl .bx
 |bl b=>rw[z] at e;cases e;rw[gM h z];exact .inl (.bl b)
 |int b=>rw[z] at e;cases e;rw[cG h z];exact .inl (.int b)
 |str b=>rw[z] at e;cases e;rw[bU h z];exact .inl (.str b)
 |_=>rw[z] at e;simp[RQ] at e
def Qn(a:g="NoneType"∨g="bool"∨g="int"∨g="str"∨g="tuple"∨g="list")(e:(if T=="str"||T=="int"||T=="bool"||T=="tuple"||T=="list" then some (g==T||(g=="bool"&&T=="int")) else none)=some k):PySem.W.kitOne K (.type g) (.type T)=some k:=by
 split at e
 next hT=>
  simp only[zcg,beq_iff_eq] at hT;cases e;rcases hT with(((rfl|rfl)|rfl)|rfl)|rfl<;>obtain rfl|rfl|rfl|rfl|rfl|rfl:=a<;>rfl
 simp_all
def Oj(e:RQ d=some g):g="NoneType"∨g="bool"∨g="int"∨g="str"∨g="tuple"∨g="list":=by
 cases d<;>simp[RQ] at e<;>subst e<;>simp
def El:b5 X (.builtin "isinstance") (λj H Q=>∃(a:Addr)(i:List V)(T:String)(b:Bool),j=[.ref a,.ty T]/\eS X.K H a i/\PySem.W.kitOne X.K (.type "tuple") (.type T)=some b/\Q (.bl b) H):=by
 intro l s y H j C Q I r h;let⟨a,i,T,b,rfl,u,x,q⟩:=h;let⟨v,m,rfl,t,e⟩:=vals2 r;cases Gv.2 m e;cases(show v=Value.ref a from t);obtain⟨_,_,⟨o,h1,h2,_⟩,_⟩:=I.tuple u;exact zci PySem.W.kitx_tuple I.nT ⟨o,h1,h2⟩ x (λz=>nomatch z) λn=>⟨.bl b,H,I.tok n,rfl,q⟩
theorem TN:vG X (.builtin "isinstance") UW:=⟨mC (WU L2.Iv El) λn H Q h=>by
 let⟨w,o,S,s,ok,rep,⟨d,T,b,rfl,e,q⟩,bk⟩:=h;let⟨v,u,rfl,l,i⟩:=Gp rep;unfold T8 at e;cases z:RQ (aP S d) with
 |none=>rw[z] at e;cases e
 |some t=>
  rw[z] at e;have kt:=Qn (K:=X.K) (Oj z) e;obtain ty|⟨rfl,a,j,rfl,m⟩:=Oi ok l z
  ·exact .inl ⟨v,.ty T,_,_,b,(by rw[Gq i rfl]),Gv.1,Gv.2,ty,kt,bk.dat .refl ok .bl q⟩
  ·exact .inr ⟨a,j,T,b,(by rw[Gq i rfl]),m,kt,bk.dat .refl ok .bl q⟩⟩
def CH:AN:=λa S Q=>∃d,a=[d]/\b8 (aP S d)=true/\(py (aP S d)).showable=true/\(py (aP S d)).depth<=100/\(py (aP S d)).shown.length<=yag/\Q (.dat (.str (py (aP S d)).shown)) S
def zH(e:aT k X.A):vG X (.builtin "repr") CH:=⟨mC (L2.Eg e) λl H Q h=>by
 let⟨w,m,S,n,ok,rep,⟨d,rfl,h1,h2,j,i,q⟩,bk⟩:=h;let⟨v,rfl,a⟩:=eY rep;refine⟨v,_,rfl,uo ok a h1,h2,j,i,bk.dat .refl ok .str q⟩⟩
def vB:AN:=λa S Q=>∃d,a=[d]/\match aP S d with
 |.lst es=>Q (.new (.lst es)) S
 |.tup es=>Q (.new (.lst es)) S
 |.ir ns=>Q (.new (.lst (ns.map D.int))) S
 |_=>False
def wN:vG X (.type "list") vB:=⟨mC L2.vp λi H Q h=>by
 let⟨w,l,S,m,ok,rep,⟨d,rfl,q⟩,bk⟩:=h;let⟨v,rfl,j⟩:=eY rep;split at q
 next es z=>
  let⟨a,i,rfl,h1,h2⟩:=bK ok j z;refine⟨a,i,rfl,.inl (dS.of h1),λp e=>bk (.new (.lst _)) S _ w _ .refl (ok.alloc e) (ok.fresh e ⟨_,rfl,h2⟩) q⟩
 next es z=>
  let⟨a,i,rfl,h1,h2⟩:=cA ok j z;refine⟨a,i,rfl,.inr h1,λp e=>bk (.new (.lst _)) S _ w _ .refl (ok.alloc e) (ok.fresh e ⟨_,rfl,h2⟩) q⟩
 next ns z=>
  let⟨a,rfl,h1⟩:=kI ok j z;refine⟨a,_,rfl,.inl h1,λp e=>bk (.new (.lst _)) S _ w _ .refl (ok.alloc e) (ok.fresh e ⟨_,rfl,jv ns⟩) q⟩
 next=>exact q.elim⟩
def yb:AN:=λa S Q=>∃d,a=[d]/\match aP S d with
 |.lst es=>Q (.dat (.tup es)) S
 |.tup es=>Q (.dat (.tup es)) S
 |_=>False
def jB:vG X (.type "tuple") yb:=⟨mC L2.rP λi H Q h=>by
 let⟨w,u,S,x,ok,rep,⟨d,rfl,q⟩,bk⟩:=h;let⟨v,rfl,j⟩:=eY rep;split at q
 next es z=>
  let⟨a,i,rfl,h1,h2⟩:=bK ok j z;refine⟨a,i,rfl,.inl ⟨dS.of h1,λp s=>?_⟩⟩;let⟨t,m,l,e⟩:=ok.qh s h2;exact bk.dat m l e q
 next es z=>
  let⟨a,i,rfl,h1,h2⟩:=cA ok j z;refine⟨a,i,rfl,.inr ⟨h1,?_⟩⟩;cases d<;>simp only[aP] at z
  case tup=>cases z;exact bk.dat .refl ok j q
  case loc n=>split at z<;>first|(rename_i o _;cases o<;>simp[MO.d] at z)|cases z
  all_goals cases z
 next=>exact q.elim⟩
def UR:AN:=λa S Q=>∃i j,a=[.int i,.int j]/\Q (.dat (.int (if j> i then j else i))) S
def UQ:AN:=λa S Q=>∃i j,a=[.int i,.int j]/\Q (.dat (.int (if j<i then j else i))) S
def G1(l:X.calm=true):vG X (.builtin "max") UR:=⟨mC (L2.Ei l) λm H Q h=>by
 let⟨w,n,S,o,ok,rep,⟨i,j,rfl,q⟩,bk⟩:=h;let⟨v,u,rfl,e,a⟩:=Gp rep;refine⟨i,j,by rw[bz e rfl,bz a rfl],bk.dat .refl ok .int q⟩⟩
def P9(l:X.calm=true):vG X (.builtin "min") UQ:=⟨mC (L2.Eh l) λm H Q h=>by
 let⟨w,n,S,o,ok,rep,⟨i,j,rfl,q⟩,bk⟩:=h;let⟨v,u,rfl,e,a⟩:=Gp rep;refine⟨i,j,by rw[bz e rfl,bz a rfl],bk.dat .refl ok .int q⟩⟩
theorem se:∀{ns:List Str}{a:List V},ao K w (ns.map D.str) a->a=ns.map V.str
 |[],_,h=>by simpa[ao] using h
 |n::ns,a,h=>by
  let⟨x,r,rfl,rfl,h⟩:=h;rw[se h];rfl
def UX:AN:=λa S Q=>(∃i,a=[.int i]/\Q (.dat (.int i)) S)∨∃b:Bool,a=[.bl b]/\Q (.dat (.int (if b then 1 else 0))) S
def G3:vG X (.type "int") UX:=⟨mC L2.Em λe H Q h=>by
 let⟨w,j,S,l,ok,rep,q,bk⟩:=h;rcases q with⟨i,rfl,q⟩|⟨b,rfl,q⟩
 ·let⟨v,rfl,a⟩:=eY rep;exact .inl ⟨i,by rw[bz a rfl],bk.dat .refl ok .int q⟩
 ·let⟨v,rfl,a⟩:=eY rep;exact .inr ⟨b,by rw[mZ a rfl],bk.dat .refl ok .int q⟩⟩
end
abbrev AM:=D->List D->aA->AK->Prop
structure RJ(X:Cx)(id:String)(r:AM):Prop where
 p:AJ X id (Ra X.K r)
def HH(T:String):D->Prop
 |.lst _=>T="list"
 |.str _=>T="str"
 |.ir _=>T="list"
 |.dct _ _=>T="dict"
 |_=>False
def CL(T:String)(r:AM)(a:AE)(b:AA):AE:=λe S Q=>a e S λx h=>HH T (aP h x.d)/\b e h λi j=>r x.d i j Q
def Rx(T:String)(r:AM)(a:AE):AE:=λh S Q=>a h S λx e=>HH T (aP e x.d)/\r x.d [] e Q
section
variable {w:Wd}{d:D}
def MF(ok:Ok K w H S)(h:Rep K w d v)(t:HH T (aP S d)):Vg K T v H:=by
 cases z:aP S d with
 |lst ds=>
  rw[z] at t;cases t;let⟨a,i,rfl,h1,h2⟩:=bK ok h z;exact .inl ⟨rfl,i,dS.of h1⟩
 |str y=>rw[z] at t;cases t;rw[bU h z];exact rfl
 |ir ns=>
  rw[z] at t;cases t;let⟨a,rfl,h1⟩:=kI ok h z;exact .inl ⟨rfl,_,h1⟩
 |dct ks ds=>
  rw[z] at t;cases t;let⟨a,e,rfl,h1,_⟩:=fh ok h z;exact .inr (.inr (.inl ⟨rfl,.inl ⟨e,h1⟩⟩))
 |_=>rw[z] at t;exact t.elim
def VP:∀m H Q,aO K (CL T r g k) m H Q->VG K T (Ra K r) (aO K g) (lM K k) m H Q:=by
 intro m H Q z;let⟨w,o,S,E,ok,env,q,bk⟩:=z;refine⟨w,o,S,_,ok,env,q,.go λu C F t I l i e ⟨ty,v⟩=>⟨MF i e ty,?_⟩⟩;refine⟨t,o,C,_,i,env.le l,v,λx y vs s G j n h q2=>?_⟩;refine⟨s,u.d,x,y,E,n,e.le j,h,q2,bk.le (l.trans j)⟩
def S6:∀i H Q,aO K (Rx T r g) i H Q->Ov K T (Ra K r) (aO K g) i H Q:=by
 intro i H Q z;let⟨w,l,S,t,ok,env,q,bk⟩:=z;refine⟨w,l,S,_,ok,env,q,.go λn s u m v j h e ⟨ty,o⟩=>⟨MF h e ty,?_⟩⟩;refine⟨m,n.d,[],s,t,h,e,.nil,o,bk.le j⟩
def eB(l:PlainAttrs T)(slot:Slot T name F)(j:typeOf (.builtin F)=pure (.type "method_descriptor"))(q:RJ X F r)(n:GE X g to)(s:GA X (e::k) z)(h:autoParam (attributeBase g name X.env (eval g X.env)=eval g X.env) r0)(m:autoParam ((e::k).all notStar=true) r0)(i:autoParam (decide ((e::k).length+0+0<30)=true) r0)(a:autoParam ((apos.endLine==cpos.line)=true) r0):GE X (.Call (.Attribute g name apos) (e::k) [] cpos) (CL T r to z):=⟨mE (L2.PM l slot j q.p n.p s.p h m i a) VP⟩
def zC(i:PlainAttrs T)(slot:Slot T name k)(h:typeOf (.builtin k)=pure (.type "method_descriptor"))(l:RJ X k r)(j:GE X g to)(e:autoParam (attributeBase g name X.env (eval g X.env)=eval g X.env) r0)(a:autoParam ((apos.endLine==cpos.line)=true) r0):GE X (.Call (.Attribute g name apos) [] [] cpos) (Rx T r to):=⟨mE (L2.K6 i slot h l.p j.p e a) S6⟩
def mM{id:String}{t u:V->List V->Hp->VK->Prop}(h:AJ X id t)(m:∀x a H Q,u x a H Q->t x a H Q):AJ X id u:=λe s i H x a v j Q I l n q=>h e s i H x a v j Q I l n (m x a H Q q)
def uT(ok:Ok K w H S)(h:Rep K w (.loc n) v)(e:S[n]? =some (some (.lst ds))):∃a i,v=.ref a/\w.r n=some a/\H a=some (.lst i)/\ao K w ds i:=by
 let⟨a,h1,rfl⟩:=h;let⟨q,u,j,o,m,i,rfl,l⟩:=ok.live n _ e;rw[h1] at j;cases j;refine⟨a,i,rfl,h1,m,l⟩
def iN(h:ao K w ds xs):lV K w (.lst ds) (.lst xs):=⟨xs,rfl,h⟩
def CM:AM:=λx h S Q=>∃n a e,x=.loc n/\h=[e]/\S[n]? =some (some (.lst a))/\a.length<yag/\Q (.dat .bx) (S.set n (some (.lst (a++[e]))))
def dG:RJ X "list.append" CM:=⟨mM (X:=X) (t:=BB) L2.DM λx E H Q h=>by
 let⟨w,d,G,S,I,ok,s,o,⟨n,F,e,rfl,rfl,j,u,q⟩,bk⟩:=h;let⟨a,l,rfl,y,C,i⟩:=uT ok s j;let⟨v,rfl,m⟩:=eY o;refine⟨a,l,v,rfl,rfl,C,by rw[i.length];exact u,bk.dat .refl (ok.put j y (iN (i.snoc m))) .bx q⟩⟩
def Gx(K:yaI):V->List V->Hp->VK->Prop:=λx vs H Q=>∃l b e a,x=.ref l/\vs=[.ref b]/\H l=some (.lst e)/\eS K H b a/\e.length+a.length<=yag/\Q .bx (upd H l (.lst (e++a)))
def LM(h0:¬(!g.isEmpty&&Builtin.List.listTooLong (g.size+r.size))=true)(h1:g.size<=yag)(h2:g.size+r.size<=yag+1):
  Meets (Builtin.«list.extend» ⟨[.ref l,.ref b],[]⟩) (λ_ R s=>s.heap.get? l=some {cls:=.type "list",dict:=none,data:=.seq g n,slots:=#[]}/\s.heap.get? b=some {cls:=.type "tuple",dict:=dd,data:=.seq r k,slots:=sl}/\R (.ok (.ret Value.none)) {s with heap:=s.heap.update l (Obj.mapSeq λx=>x++r),toks:=s.toks}):=
 .of_wp λprog w A R s h=>by
  let⟨i,j,q⟩:=h;wp_walk using(wpAny_updateSeq i rfl),AutoSeq1.wpAny_loadPart' i,AutoSeq1.wpAny_loadPart' j
  refine⟨_,rfl,q⟩
def zM:AJ X "list.extend" (Gx X.K):=by
 intro t s W H x vs v us Q I G L h;let⟨l,b,xs,Y,rfl,rfl,y,S,hz,q⟩:=h;cases G;obtain⟨u,rfl,ru⟩:=L.one;cases ru;let⟨z,i,n,r,hl,e⟩:=I.wY y;obtain⟨a,o,⟨⟨c2,dd,da,sl⟩,U,j,O,C⟩,Z⟩:=I.tuple S;subst j C;have P:=o.length;have m:i.toArray.size+a.toArray.size<=yag:=by simp_all
 have E:¬(!i.toArray.isEmpty&&Builtin.List.listTooLong (i.toArray.size+a.toArray.size))=true:=by
  rw[qg m];simp
 refine call_meets F.slot_list_extend ⟨_,e,rfl⟩ F.entry_list_extend (F.args_list_extend_2 _ _)
  (LM E (by lia) (by lia)) ⟨e,U,?_⟩
 refine⟨.bx,_,I.Hr y e (by simp) (r.append o) ?_,rfl,q⟩;rw[zaR];omega
def Mt:AM:=λx h S Q=>∃n a e fs,x=.loc n/\h=[e]/\S[n]? =some (some (.lst a))/\(aP S e=.lst fs∨aP S e=.tup fs)/\a.length+fs.length<=yag/\Q (.dat .bx) (S.set n (some (.lst (a++fs))))
def lq:RJ X "list.extend" Mt:=⟨mM (AJ.or (X:=X) (r:=BA) L2.DL zM) λx I H Q h=>by
 let⟨w,d,O,S,P,ok,G,F,⟨n,L,e,fs,rfl,rfl,o,i,y,q⟩,bk⟩:=h;let⟨a,t,rfl,C,E,l⟩:=uT ok G o;let⟨v,rfl,u⟩:=eY F;obtain i|i:=i
 ·let⟨b,m,rfl,s,j⟩:=bK ok u i;exact .inl ⟨a,b,t,m,rfl,rfl,E,s,by rw[l.length,j.length];exact y,bk.dat .refl (ok.put o C (iN (l.append j))) .bx q⟩
 ·let⟨b,m,rfl,s,j⟩:=cA ok u i;exact .inr ⟨a,b,t,m,rfl,rfl,E,s,by rw[l.length,j.length];exact y,bk.dat .refl (ok.put o C (iN (l.append j))) .bx q⟩⟩
theorem ao.dropLast(h:ao K w ds xs):ao K w ds.dropLast xs.dropLast:=by
 rw[List.dropLast_eq_take,List.dropLast_eq_take,h.length];exact h.take _
def UO:AM:=λx h S Q=>∃n a e,x=.loc n/\h=[]/\S[n]? =some (some (.lst a))/\a[a.length - 1]? =some e/\Q (.dat e) (S.set n (some (.lst a.dropLast)))
def T5:RJ X "list.pop" UO:=⟨mM (X:=X) (t:=Td) L2.Qi λx m H Q h=>by
 let⟨w,d,F,S,G,ok,s,o,⟨n,E,e,rfl,rfl,j,u,q⟩,bk⟩:=h;let⟨a,l,rfl,y,C,i⟩:=uT ok s j;subst (by simpa[ao] using o);let⟨v,h1,h2⟩:=i.get u;refine⟨a,l,v,rfl,rfl,C,by rw[i.length];exact h1,bk.dat .refl (ok.put j y (iN i.dropLast)) h2 q⟩⟩
def UU:AM:=λx h S Q=>∃(y:Str)(e:D)(a:List Str),x=.str y/\h=[e]/\aP S e=.lst (a.map D.str)/\(a.map (·.length)).sum+a.length*y.length<=16777216/\Q (.dat (.str (Txt.join y a))) S
def Ql:RJ X "str.join" UU:=⟨mM L2.Lm λx u H Q h=>by
 let⟨w,d,C,S,E,ok,n,m,⟨y,e,j,rfl,rfl,z,o,q⟩,bk⟩:=h;let⟨v,rfl,l⟩:=eY m;let⟨a,t,rfl,i,s⟩:=bK ok l z;rw[se s] at i;refine⟨y,a,j,jw n rfl,rfl,dS.of i,o,bk.dat .refl ok .str q⟩⟩
def UZ(i:Nat)(a:AE)(r:A2):AS:=λD e S=>∃x,e[i]? =some (some x)/\a e S λy j=>r x y.d j λz h=>D.nx (e.set i (some z.d)) h
def Rq:A2:=λx y S Q=>∃i j,x=.int i/\y=.int j/\Q (.dat (.int (i+j))) S
def Dv(F:X.N.Nodup)(y:X.N[i]? =some x)(u:Loc X.env.scope x)(E:GE X e g)(C:X.fn x=true∨X.env.scope.names.lookup x=some .local:=by first|exact .inl rfl|exact .inr rfl|assumption):
  GS X (.AugAssign (.Name x pos') .Add e pos) (UZ i g Rq):=⟨mS (L2.PJ F y u E.p L2.Qx C) λD O H h=>by
 let⟨w,o,S,U,ok,env,⟨d,hd,q⟩,bk⟩:=h;let⟨v,h1,h2⟩:=env.2 i d hd;refine⟨v,h1,w,o,S,_,ok,env,q,.go λQ I P s L l n j m=>?_⟩;let⟨a,b,rfl,G,m⟩:=m;refine⟨a,b,bz h2 rfl,bz j G,bk.nx _ I _ s L l n ((env.le l).set .int i) m⟩⟩
end
end M
namespace M
open PySem L2
theorem aW(I:List M.D->bh->aA->Prop)(j:∀δ S,I [] δ S->d S/\q.nx δ S)(l:∀x e δ S N,I (x::e) δ S->(∀a S',I e a S'->N a S')->d S/\g x δ S λi n=>k {q with nx:=N,ct:=N,bk:=q.nx} i n):∀ds δ S,I ds δ S->dO d g k ds q δ S
 |[],δ,S,h=>j δ S h
 |x::e,δ,S,h=>l x e δ S _ h λa S' m=>aW I j l e a S' m
theorem lN(I:List M.D->List M.D->bh->aA->Prop)(n:∀a δ S,I [] a δ S->d S/\z a S)(o:∀x m a δ S (N:List M.D->bh->aA->Prop),I (x::m) a δ S->(∀i j S',I m i j S'->N i j S')->d S/\g x δ S λl v=>k l v λb q=>if b=true then w l q λr u=>a.length<yag/\N (a++[r.d]) l u else N a l q):
  ∀ds a δ S,I ds a δ S->bM d g k w ds a δ S z
 |[],a,δ,S,h=>n a δ S h
 |x::m,a,δ,S,h=>o x m a δ S (λi j S'=>bM d g k w m i j S' z) h λi j S' s=>lN I n o m i j S' s
theorem comp_map{P:aA->Prop}{e:AE}{Q:List M.D->aA->Prop}{δ:bh}{S:aA}(f:M.D->M.D)(m:P S):∀(j i:List M.D)(a:bh),a.set 0 none=δ.set 0 none->(∀x∈j,∀Q:AK,Q (.dat (f x)) S->e (δ.set 0 (some x)) S Q)->i.length+j.length<=yag->Q (i++j.map f) S->
  bM P (bE 0) lR e j i a S Q
 |[],i,a,_,_,_,q=>⟨m,by simpa using q⟩
 |x::j,i,a,hd,h,hl,q=>by
  refine⟨m,?_⟩;have o:=by
   have:=congrArg (λl=>l.set 0 (some x)) hd;simpa[zcB] using this
  simp only[bE];rw[o];refine h x (by simp) _ ⟨by simp at hl;lia,?_⟩;refine comp_map f m j _ _ (by simp) (λy n=>h y (by simp[n])) (by simp at hl⊢;lia) ?_;simpa[R.d] using q
def kJ(h:b8 d=true):aP S d=d:=by
 cases d<;>first|rfl|simp[b8] at h
def FJ:aP S (.int d)=.int d:=rfl
def FG:aP S (.str d)=.str d:=rfl
def Ks:aP S (.bl d)=.bl d:=rfl
def FI:aP S .bx=.bx:=rfl
def vY:aP S (.tup d)=.tup d:=rfl
def iK:aP S (.lst d)=.lst d:=rfl
def FH:aP S (.ir d)=.ir d:=rfl
def pV{d:D}:(R.dat d).d=d:=rfl
def Gw:(R.new o).d=o.d:=rfl
def BP:(MO.lst ds).d=.lst ds:=rfl
def Ls:aLe (.int d) (.int g) S k=k (.dat (.bl (decide (d<=g)))) S:=rfl
def Lo:WY (.int d) (.int g) S k=k (.dat (.bl (decide (d<g)))) S:=rfl
def Rr:aI d g (.int k) (.int q) S r=(d k q/\r (.dat (g k q)) S):=by
 refine propext ⟨λe=>?_,λh=>⟨k,q,rfl,rfl,h⟩⟩;let⟨a,b,m,l,h⟩:=e;simp_all
def IL:rQ (.int d) (.int g) S k=k (.dat (.int (d+g))) S:=rfl
def x9:rQ (.lst d) (.lst g) S k=(d.length+g.length<=yag/\k (.new (.lst (d++g))) S):=rfl
def LP:NS (.int d) (.int g) S k=k (.dat (.bl (decide (d=g)))) S:=rfl
def LO:NS (.str d) (.str g) S k=k (.dat (.bl (decide (d=g)))) S:=rfl
def Om:e8 (.bl d)=some d:=rfl
def J5:e8 (.lst ds)=some (!ds.isEmpty):=rfl
def J3:e8 (.tup ds)=some (!ds.isEmpty):=rfl
def dW(h:b8 d=true):out n S (.dat d)=some (.dat d):=by
 have b:=Cy n d h;cases d<;>first|(simp[b8] at h;done)|(simp only[out];rw[yIp b])
def xV:chg S S:=λ_ _ _ e=>.inl e
def b6(h:b8 d=true)(q:g (.dat d) S):ret S S (.dat d) g:=⟨_,dW h,xV,by rw[zbD];exact q⟩
def Po:ret S S (.dat (.bl d)) g=g (.dat (.bl d)) S:=by
 refine propext ⟨λ⟨r,h1,_,h2⟩=>?_,b6 rfl⟩;simp[out,ia] at h1;subst h1;rw[zbD] at h2;exact h2
def KQ:ret S S (.dat (.int d)) g=g (.dat (.int d)) S:=by
 refine propext ⟨λ⟨r,h1,_,h2⟩=>?_,b6 rfl⟩;simp[out,ia] at h1;subst h1;rw[zbD] at h2;exact h2
def oH(h:bQ ds=true)(q:d (.new (.lst ds)) S):ret S S (.new (.lst ds)) d:=
 ⟨_,by simp only[out];rw[yIp (show gZ _ (.lst ds)=true from dJ _ ds h)],xV,by rw[zbD];exact q⟩
noncomputable def iu(x:Str):Bool:=x.cps.toList.all (λc=>decide (c<128))&&decide (x.length<=100)
noncomputable def gn:Nat->D->Bool
 |_,.bx=>true
 |_,.bl _=>true
 |_,.int _=>true
 |_,.str x=>iu x
 |n+1,.tup ds=>decide (ds.length<=100)&&ds.all (gn n)
 |n+1,.lst ds=>decide (ds.length<=100)&&ds.all (gn n)
 |_,_=>false
def qc(h:iu x=true):PyData.strOk x=true:=by
 unfold iu at h;rw[zbN] at h;unfold PyData.strOk;rw[<-Array.all_toList];refine zbC.mpr λc a=>?_;have:=of_decide_eq_true (zbC.mp h.1 c a);exact yDt (by lia)
def vN:∀{n m:Nat}{d:D},gn n d=true->n<=m->gn m d=true:=by
 intro n
 induction n with
 |zero=>
  intro m d h _;cases d<;>cases m<;>first|rfl|exact h|(simp[gn] at h;done)
 |succ n ih=>
  intro m d h e;cases m with
  |zero=>lia
  |succ m=>
   cases d<;>first|rfl|exact h|skip
   ·simp only[gn] at h⊢;simp_all
   ·simp only[gn] at h⊢;simp_all
def yN:∀(n:Nat)(d:D),gn n d=true->b8 d=true/\(py d).canLay0=true/\(py d).depth<=n:=by
 intro n
 induction n with
 |zero=>
  intro d h;cases d<;>first|(simp[gn] at h;done)|skip
  ·simp[b8,py,PyData.canLay0,PyData.depth]
  ·simp[b8,py,PyData.canLay0,PyData.depth]
  ·simp[b8,py,PyData.canLay0,PyData.depth]
  ·simp[b8,py,PyData.canLay0,PyData.depth,qc h]
 |succ n ih=>
  have all:∀a,(a.all (gn n))=true->bQ a=true/\PyData.canLayAll0 (di a)=true/\PyData.depthAll (di a)<=n:=by
   intro a
   induction a with
   |nil=>simp[bQ,di,PyData.canLayAll0,PyData.depthAll]
   |cons d a ih2=>
    intro h;rw[zcs,zbN] at h;let⟨i,e,j⟩:=ih d h.1;let⟨l,b2,m⟩:=ih2 h.2;refine⟨by simp[bQ,i,l],by simp[di,PyData.canLayAll0,e,b2],?_⟩;simp only[di,PyData.depthAll];lia
  intro d h;cases d<;>first|(simp[gn] at h;done)|skip
  ·simp[b8,py,PyData.canLay0,PyData.depth]
  ·simp[b8,py,PyData.canLay0,PyData.depth]
  ·simp[b8,py,PyData.canLay0,PyData.depth]
  ·simp[b8,py,PyData.canLay0,PyData.depth,qc h]
  ·simp only[gn,zbN] at h;let⟨i,e,j⟩:=all _ h.2;refine⟨by simpa[b8] using i,by simpa[py,PyData.canLay0] using e,by simp only[py,PyData.depth];lia⟩
  ·simp only[gn,zbN] at h;let⟨i,e,j⟩:=all _ h.2;refine⟨by simpa[b8] using i,by simpa[py,PyData.canLay0] using e,by simp only[py,PyData.depth];lia⟩
def ER(h:gn n d=true):b8 d=true:=(yN n d h).1
def eT(h:gn n d=true)(e:n<=64):fit d=true:=by
 let⟨a,b,c⟩:=yN n d h;unfold fit PySem.SeqAt.shaped;rw[a,b,yDt (by lia)];rfl
def J7(h:gn (n+1) (.tup ds)=true)(hd:d∈ds):gn n d=true:=by
 simp only[gn,zbN,zbC] at h;exact h.2 d hd
noncomputable def Np(x:D)(s:Str):Bool:=match x with
 |.str a=>decide (a=s)
 |_=>false
noncomputable def u5(x:D)(ss:List Str):Bool:=ss.any λs=>Np x s
def vg{x:D}(h:b8 x=true):PyData.eqv (.str g) (py x)=Np x g:=by
 cases x<;>first|(simp[b8] at h;done)|simp only[py,PyData.eqv,Np]
 rename_i a;by_cases e:g=a
 ·subst e;simp
 ·rw[yDf (λz=>e z.symm)];exact beq_eq_false_iff_ne.mpr e
theorem qy(h:b8 d=true):∀ss:List Str,inD d (ss.map D.str)=u5 d ss
 |[]=>rfl
 |s::ss=>by
  have:=qy h ss;unfold inD u5 at this⊢;rw[zcq,zcr,zcr,this];rw[show PyData.eqv (py (.str s)) (py d)=Np d s from vg h]
def iY(h:gn n d=true)(i:n<=64)(e:ss.all iu=true)(q:g (.dat (.bl (neg != u5 d ss))) S)(j:autoParam (ss.length<=100) r1):qV neg d (.tup (ss.map D.str)) S g:=by
 have a:=ER h;unfold qV;rw[kJ a];refine⟨eT h i,eT (n:=1) ?_ (by decide),?_⟩
 ·simp only[gn,List.all_map,zbR,yDt j];exact e
 ·rw[qy a];exact q
def nq(h:gn n d=true)(i:n<=64)(e:ss.all iu=true)(q:g (.dat (.bl (neg != u5 d ss))) S)(j:autoParam (ss.length<=100) r1):qV neg d (.lst (ss.map D.str)) S g:=by
 have a:=ER h;unfold qV;rw[kJ a];refine⟨eT h i,eT (n:=1) ?_ (by decide),?_⟩
 ·simp only[gn,List.all_map,zbR,yDt j];exact e
 ·rw[qy a];exact q
end M
namespace M
open PySem PySem.Spec PyProof.Rows PySem.SeqAt L2
def To(K:yaI):R2:=λx y H Q=>∃a b,x=.ref a/\y=.ref b/\eS K H a []/\(∃e,eS K H b e)/\Q (.ref b) H
def Le:iy X (binaryOp .Add) (To X.K):=by
 intro G s σ H x y v u Q I Y W h;obtain⟨a,b,rfl,rfl,ha,⟨ys,hb⟩,q⟩:=h;cases Y;cases W;let⟨t,Z,p1,_⟩:=I.tuple ha;let⟨i,r2,p2,_⟩:=I.tuple hb;have e:t=[]:=by cases Z;rfl
 subst e;let⟨⟨cls,dd,P,U⟩,L,O,n,hd⟩:=id p1;let⟨⟨S,C,E,o⟩,j,m,n2,l⟩:=id p2;subst O hd m l;exact concat_meets ⟨_,L,rfl⟩ ⟨_,j,rfl⟩ noFill_tuple_add seq_tuple_add PySem.F.slot_tuple_add PySem.F.entry_tuple_add (PySem.F.args_tuple_add_2 _ _)
  (tuple_addW0 a b #[] i.toArray n n2 dd C U o rfl) ⟨L,j,.ref b,H,I,rfl,q⟩
def yh:A2:=λx y S Q=>match aP S x,aP S y with
 |.tup [],.tup ys=>Q (.dat (.tup ys)) S
 |_,_=>rQ x y S Q
def FF(z:aP S d=.tup ds):d=.tup ds:=by
 cases d<;>simp only[aP] at z
 case loc n=>split at z<;>first|(rename_i o _;cases o<;>simp[MO.d] at z)|cases z
 all_goals first|cases z|skip
 rfl
def qf:rS X (binaryOp .Add) yh:=⟨m2 (Lb bO.p Le) λx y H Q h=>by
 let⟨w,d,e,S,s,ok,j,i,q,bk⟩:=h;unfold yh at q;split at q
 next ys z1 z2=>
  let⟨a,l,rfl,h1,n⟩:=cA ok j z1;let⟨b,m,rfl,h2,t⟩:=cA ok i z2;have:=by simpa[ao] using n
  subst this;have o:=FF z2;subst o;exact .inr ⟨a,b,rfl,rfl,h1,⟨m,h2⟩,bk.dat .refl ok i q⟩
 next=>exact .inl ⟨w,d,e,S,s,ok,j,i,q,bk⟩⟩
end M
namespace M
open PySem L2
section
variable {c:AT}{a b r:AS}{D:jo}
def bB(h:∀N:bh->aA->Prop,(∀e S',b D e S'->N e S')->a {D with nx:=N} δ S):gE a b D δ S:=h (b D) λ_ _ z=>z
def dI(h:∀Q:Bool->aA->Prop,Q false S->c δ S Q)(k:r D δ S):gE (yf c a yd) r D δ S:=h _ (by exact k)
def iZ(h:∀Q:Bool->aA->Prop,Q true S->c δ S Q)(k:a {D with nx:=r D} δ S):gE (yf c a yd) r D δ S:=h _ (by exact k)
def qF{p:Prop}[Decidable p]{Q:Bool->aA->Prop}(h:¬p)(q:Q false S):Q (decide p) S:=by rw[yDf h];exact q
def qT{p:Prop}[Decidable p]{Q:Bool->aA->Prop}(h:p)(q:Q true S):Q (decide p) S:=by rw[yDt h];exact q
end
end M
namespace M
open PySem PySem.Spec PyProof.Rows L2
theorem rX:∀{vs:List yai}{ss:List Str},StrsAre vs ss->Vals (ss.map V.str) vs
 |_,_,.nil=>.nil
 |_,_,.cons y t h=>.cons ⟨t,rfl⟩ (rX h)
theorem j5:∀{ns:List Int}{a:List V},ao d w (ns.map D.int) a->a=ns.map V.int
 |[],a,h=>by simpa[ao] using h
 |s::ss,a,h=>by
  let⟨x,r,rfl,h1,h2⟩:=h;rw[bz h1 rfl,j5 h2];rfl
theorem kO:∀ss:List Str,ao d w (ss.map D.str) (ss.map V.str)
 |[]=>by simp[ao]
 |s::ss=>by
  refine⟨_,_,rfl,by simp[Rep],kO ss⟩
section
variable {o:Expr}{es:List Expr}{tpos:Pos}
noncomputable def putD(f:Str)(d:D):List Str->List D->List Str×List D
 |k::ks,e::ds=>if k=f then(k::ks,d::ds) else(k::(putD f d ks ds).1,e::(putD f d ks ds).2)
 |_,_=>([f],[d])
theorem BC(g:Rep q w d F):∀(fs:List (Str×V))(ds:List D),ao q w ds (fs.map (·.2))->(gQ z F fs).map (·.1)=(putD z d (fs.map (·.1)) ds).1/\ao q w (putD z d (fs.map (·.1)) ds).2 ((gQ z F fs).map (·.2))
 |[],ds,h=>by
  cases ds with
  |nil=>exact⟨rfl,.cons g .nil⟩
  |cons _ _=>exact⟨rfl,.cons g .nil⟩
 |(k,x)::fs,ds,h=>by
  cases ds with
  |nil=>simp[ao] at h
  |cons e ds=>
   let⟨y,r,h1,h2,i⟩:=h;have n:=(zda.inj h1).1;have m:=(zda.inj h1).2;subst n;subst m;obtain⟨l,j⟩:=BC g fs ds i;simp only[gQ,zcq,putD];by_cases a:k=z
   ·rw[yIp a,yIp a];exact⟨rfl,.cons g i⟩
   ·rw[yIn a,yIn a];exact⟨by rw[zcq,l],.cons h2 j⟩
theorem xg{K:yaI}{w:Wd}{f:Str}{d:D}:∀(fs:List (Str×V))(ds:List D),ao K w ds (fs.map (·.2))->((fs.map (·.1)).zip ds).lookup f=some d->∃v,fs.lookup f=some v/\Rep K w d v
 |[],ds,h,q=>by simp at q
 |(k,x)::fs,ds,h,q=>by
  cases ds with
  |nil=>simp at q
  |cons e ds=>
   let⟨y,r,h1,h2,i⟩:=h;have l:=(zda.inj h1).1;have j:=(zda.inj h1).2;subst l;subst j;rw[zcq,zaT,zbB] at q;rw[zbB];split at q
   ·rename_i a;have:e=d:=by lia
    subst this;refine⟨x,by rw[a],h2⟩
   ·rename_i a;let⟨v,e,r⟩:=xg fs ds i q;refine⟨v,by rw[a];exact e,r⟩
theorem nh:∀(fs:List (Str×V)),d ∉ fs.map (·.1)->fs.lookup d=none
 |[],_=>rfl
 |(k,x)::fs,h=>by
  grind
def uZ(ok:Ok K w H S)(h:Rep K w (.loc n) v)(e:S[n]? =some (some (.ins C d ds))):
  ∃a i fs,v=.ref a/\w.r n=some a/\H a=some (.ins C i fs)/\fs.map (·.1)=d/\ao K w ds (fs.map (·.2)):=by
 let⟨a,h1,rfl⟩:=h;let⟨t,u,j,s,q,i,fs,rfl,m,l⟩:=ok.live n _ e;rw[h1] at j;cases j;refine⟨a,i,fs,rfl,h1,q,m,l⟩
def Ms(C:Addr)(a:AE)(f:Str):AE:=λi S Q=>a i S λr h=>∃n ks e d,r=.dat (.loc n)/\h[n]? =some (some (.ins C ks e))/\(ks.zip e).lookup f=some d/\Q (.dat d) h
theorem c9(F:GE X e ta)(c:AW X.K C)(nf:fR X.K C g)(G:autoParam (attributeBase e g X.env (eval e X.env)=eval e X.env) r0):GE X (.Attribute e g pos) (Ms C ta g):=
 ⟨mE (L2.c9 F.p G) λW H Q h=>by
  let⟨w,t,S,Qa,ok,env,q,bk⟩:=h;refine⟨w,t,S,_,ok,env,q,λr Z v Y H1 s j i m=>?_⟩;let⟨n,ks,U,d,O,L,y,x⟩:=m;subst O;let⟨a,P,fs,rfl,_,I,E,hd⟩:=uZ j i L;subst E;let⟨v,l,u⟩:=xg fs U hd y;refine⟨a,C,P,fs,v,rfl,I,c,nf,l,bk.dat s j u x⟩⟩
def Nb(C:Addr)(a v:AE)(f:Str):AS:=λD e S=>v e S λy j=>a e j λr i=>∃n ks h,r=.dat (.loc n)/\i[n]? =some (some (.ins C ks h))/\ks.length<1000/\D.nx e (i.set n (some (.ins C (putD f y.d ks h).1 (putD f y.d ks h).2)))
theorem pY(u:GE X o ta)(U:GE X value g)(c:AW X.K C)(nf:fR X.K C d)(W:autoParam (yat value (some (.Attribute o d pos2)) pos.line X.env=pure false) r0):
  GS X (.Assign [.Attribute o d pos2] value pos) (Nb C ta g d):=
 ⟨mS (L2.pY u.p U.p W) λDx σ H h=>by
  let⟨w,x,S,Da,ok,env,q,bk⟩:=h;refine⟨w,x,S,_,ok,env,q,.go λy S1 v1 L H1 i t l O=>?_⟩;refine⟨L,x,S1,_,t,env.le i,O,λr S2 v2 I H2 e m j s=>?_⟩;let⟨n,ks,v,er,F,Z,q2⟩:=s;subst er;let⟨a,G,fs,rfl,Y,u,hk,hd⟩:=uZ m j F;subst hk;obtain⟨Q,P⟩:=BC (l.le e) fs v hd;refine⟨a,C,G,fs,rfl,u,c,nf,by simp_all,?_⟩;exact bk.nx _ _ _ I _ (i.trans e) (m.put F Y (o':=.ins C (putD d y.d (fs.map (·.1)) v).1 (putD d y.d (fs.map (·.1)) v).2) ⟨G,_,rfl,Q,P⟩) (env.le (i.trans e)) q2⟩
end
structure qW(K:yaI)(C:Addr)(m qual:Str)(ps:List Str)(st:Stmt):Prop where
 ex:∃f fd,JK K m qual st f fd/\Meth K C m f/\Binds K fd ps []
structure fS(P:yaj)(w:yak)(K:yaI)(mg:Str->Option yai)(base:Heap)(k:Nat)(C:Addr)(m:Str)(ps:List Str)(sp:AN):Prop where
 ex:∃f fd,eV P w K mg base oZ k f fd ps (av K sp)/\Meth K C m f/\Binds K fd ps []
section
variable {w:yak}
def okB(F:JK K x qual st f fd)(S:aE N ps (aj st))(len:∀ds S Q,sp ds S Q->ds.length=ps.length)(j:∀(f:Addr)(e:yai)(A:yal)(outer:List Env)(s:yah)(H:Hp)(E:XK),aT k (A.deeper (PyProof.Rows.envOfC qual (aj st) s.heap.objs.size f e))->∃a,AQ (nv oZ P w K mg base N qual (aj st) f e A outer s H E).JR (bH st) a/\∀ds S Q,sp ds S Q->a {nx:=λ_ S'=>M.ret S S' (.dat .bx) Q,rt:=λr S'=>M.ret S S' r Q} (aJ N ds) S):eV P w K mg base oZ (k+1) f fd ps (av K sp):=
 F.ok S (λvs H Q E h=>by
  let⟨w,ds,S,n,ok,rep,q,bk⟩:=h;rw[rep.length];exact len ds S n q) λe A outer s H vs Q E t h=>by
  let⟨a,u,hd⟩:=j f e A outer s H E t;let⟨w,ds,S,n,ok,rep,q,bk⟩:=h;refine⟨_,u.p,w,aJ N ds,S,_,ok,jE rep,hd ds S n q,⟨λG S' C o y le i env m=>uy (r:=.dat .bx) ok le i (show Rep K o .bx .bx from .bx) m bk,λr S' v o y le i l m=>uy ok le i l m bk,λ_ _ _ _ _ _ _ _ z=>z.elim,λ_ _ _ _ _ _ _ _ z=>z.elim⟩⟩
end
section
variable {o:Expr}{es:List Expr}{k:Nat}{m:Str}
def ye(C:Addr)(m:Str)(sp:AN)(a:AE)(t:AA):AE:=λe S Q=>a e S λr h=>∃n ks i,r=.dat (.loc n)/\h[n]? =some (some (.ins C ks i))/\m ∉ ks/\t e h λes j=>sp (.loc n::es) j Q
def OW:∀s H Q,aO K (ye C m sp g z) s H Q->EW C m (av K sp) [] d (aO K g) (lM K z) s H Q:=by
 intro s H Q k;let⟨w,y,S,Qa,ok,env,q,bk⟩:=k;refine⟨w,y,S,_,ok,env,q,λr S1 v G H1 l i h u=>?_⟩;let⟨n,ks,ds,X,W,O,I⟩:=u;subst X;let⟨g,Y,fs,rfl,L,U,P,hd⟩:=uZ i h W;subst P;refine⟨g,Y,fs,rfl,U,nh fs O,G,y,S1,_,i,env.le l,I,λes Z vs F H2 j x e q2=>?_⟩;refine⟨F,.loc n::es,Z,Qa,x,?_,q2,bk.le (l.trans j)⟩;rw[zbS];exact .cons (by refine⟨g,j.r _ _ L,rfl⟩) e
theorem cI(n:GE X o ta)(c:AW X.K C)(D:fS X.prog X.w X.K X.mg X.base k C m ps sp)(j:aT k X.A)(s:GA X (e::es) d)(a:autoParam (yao (e::es) X.env=(false,eval e X.env)::yao es X.env) r0)(h:autoParam ((yau pos (yao es X.env)).any (·.1)=false) r0)(i:autoParam (eval (.Call (.Attribute o m apos) (e::es) [] pos) X.env=(do
   let ov <-eval o X.env
   standAt apos.atName
   let(f,first) <-holding [ov] (yaC ov m pl)
   yay pos f first (yau pos (yao (e::es) X.env)) (yaE pos (yaD [] X.env)))) r0):
  GE X (.Call (.Attribute o m apos) (e::es) [] pos) (ye C m sp ta d):=by
 let⟨f,fd,F,l,q⟩:=D.ex;exact⟨mE (L2.cI n.p c l F j q .nil BJ s.p a h i) OW⟩
theorem iS(I:GE X o ta)(c:AW X.K C)(D:fS X.prog X.w X.K X.mg X.base k C m ps sp)(t:aT k X.A)(E:autoParam (eval (.Call (.Attribute o m apos) [] [] pos) X.env=(do
   let ov <-eval o X.env
   standAt apos.atName
   let(f,first) <-holding [ov] (yaC ov m pl)
   yay pos f first (yau pos (yao [] X.env)) (yaE pos (yaD [] X.env)))) r0):
  GE X (.Call (.Attribute o m apos) [] [] pos) (ye C m sp ta b4):=by
 let⟨f,fd,F,s,L⟩:=D.ex;exact⟨mE (L2.iS I.p c s F t L .nil BJ E) λσ H Q h=>by
  let⟨w,u,S,Z,ok,env,q,bk⟩:=h;refine⟨w,u,S,_,ok,env,q,λr Y v x H1 l i e j=>?_⟩;let⟨n,ks,ds,U,P,s,y⟩:=j;subst U;let⟨a,W,fs,rfl,t,O,G,hd⟩:=uZ i e P;subst G;refine⟨a,W,fs,rfl,O,nh fs s,x,[.loc n],Y,Z,i,?_,y,bk.le l⟩;exact .cons e .nil⟩
def NN(C:Addr)(sp:AN)(t:AA):AE:=λe S Q=>t e S λes a=>sp (.loc a.length::es) (a++[some (.ins C [] [])]) λr h=>r=.dat .bx/\Q (.dat (.loc a.length)) h
def Ro:AS:=λ_ _ _=>False
theorem fF:GS X st Ro:=⟨mS L2.fF λD a H h=>by let⟨_,_,_,_,_,_,z,_⟩:=h;exact z.elim⟩
end
end M
namespace Srt
open PySem PySem.W PyProof.Rows
structure Ord(α:Type) where
 lt:α->α->Bool
 Wi:∀a,lt a a=false
 tr:∀a b c,lt a b=true->lt b c=true->lt a c=true
 nt:∀a b c,lt a c=true->lt a b=true∨lt b c=true
noncomputable def run{e:Type}(f:Nat->Nat->Bool):KasT e->e
 |.ret a=>a
 |.ask i j k=>run f (k (f i j))
theorem run_bind{e h:Type}{g:e->KasT h}:∀t:KasT e,run d (t.bind g)=run d (g (run d t))
 |.ret a=>rfl
 |.ask i j k=>run_bind (k (d i j))
section
variable {α:Type}(O:Ord α)
def le(a b:α):Prop:=O.lt b a=false
variable {O}
def le_rfl(a:α):le O a a:=O.Wi a
def BS(h:O.lt d g=true):le O d g:=by
 unfold le;cases e:O.lt g d with
 |false=>rfl
 |true=>have:=O.tr _ _ _ h e;rw[O.Wi] at this;lia
def jV(h:le O d k)(g:le O k q):le O d q:=by
 unfold le at*;cases e:O.lt q d with
 |false=>rfl
 |true=>
  obtain z|z:=O.nt _ k _ e
  ·simp_all
  simp_all
def qp(h:¬O.lt d g=true):le O g d:=by unfold le;simp_all
end
section
variable {α:Type}{O:Ord α}{k:Nat->α}{p:Array Nat}
noncomputable def val(k:Nat->α)(p:Array Nat)(i:Nat):α:=k (p.getD i 0)
variable (O k)
def Up(p:Array Nat)(m:Nat):Prop:=∀i j,i<=j->j<m->le O (val k p i) (val k p j)
def Down(p:Array Nat)(m:Nat):Prop:=∀i j,i<=j->j<m->le O (val k p j) (val k p i)
noncomputable abbrev ask(i j:Nat):Bool:=O.lt (k i) (k j)
variable {O k}
def J2(h:Up O k p n)(h1:1<=n)(g:le O (val k p (n - 1)) (val k p n)):Up O k p (n+1):=λi j a m=>by
 by_cases e:j<n
 ·exact h i j a e
 ·have:j=n:=by lia
  subst this;by_cases l:i=j
  ·subst l;exact le_rfl _
  ·exact jV (h i (j - 1) (by lia) (by omega)) g
def jF(h:Down O k p n)(h1:1<=n)(g:le O (val k p n) (val k p (n - 1))):Down O k p (n+1):=λi j a m=>by
 by_cases e:j<n
 ·exact h i j a e
 ·have:j=n:=by lia
  subst this;by_cases l:i=j
  ·subst l;exact le_rfl _
  ·exact jV g (h i (j - 1) (by lia) (by omega))
theorem Au:∀(f n:Nat),1<=n->Up O k p n->n<=run (ask O k) (kas_asc p f n)/\run (ask O k) (kas_asc p f n)<=n+f/\Up O k p (run (ask O k) (kas_asc p f n))
 |0,n,_,h=>⟨zcS _,zcS _,h⟩
 |f+1,n,h1,h=>by
  show n<=run _ (if O.lt (val k p n) (val k p (n - 1))=true then _ else _)/\_;by_cases e:O.lt (val k p n) (val k p (n - 1))=true
  ·have:run (ask O k) (kas_asc p (f+1) n)=n:=by
    show run _ (if O.lt (val k p n) (val k p (n - 1))=true then _ else _)=_;rw[yIp e];rfl
   rw[yIp e,this];refine⟨zcS _,by lia,h⟩
  ·have i:run (ask O k) (kas_asc p (f+1) n)=run (ask O k) (kas_asc p f (n+1)):=by
    show run _ (if O.lt (val k p n) (val k p (n - 1))=true then _ else _)=_;rw[yIn e]
   rw[i];let⟨a,b,c⟩:=Au f (n+1) (by lia) (J2 h h1 (qp e));refine⟨by lia,by lia,c⟩
def lB:p.getD d 0=(p[d]?).getD 0:=by
 simp
def val_rev(a:j<=p.size)(x:Nat):val k (kas_rev p i j) x=if i<=x/\x<j then val k p (i+j - 1 - x) else val k p x:=by
 unfold val kas_rev;rw[lB,getElem?_mirror_all a];split<;>rw[lB]
def pQ:(kas_rev p i j).size=p.size:=mirror_size _ _ _ _
def dj:(kas_rev p i j).Perm p:=mirror_perm _ _ _ _
def Flat(O:Ord α)(k:Nat->α)(p:Array Nat)(n q:Nat):Prop:=q+1<=n/\∀i j,n - (q+1)<=i->i<n->n - (q+1)<=j->j<n->le O (val k p i) (val k p j)
def xM(l:n<=p.size)(h:Down O k p n)(f:Flat O k p n q):Down O k (kas_rev p (n - (q+1)) n) n:=λi j e m=>by
 let⟨s,o⟩:=f;rw[val_rev l,val_rev l];by_cases a:n - (q+1)<=j
 ·rw[yIp ⟨a,m⟩];by_cases b:n - (q+1)<=i
  ·rw[yIp ⟨b,by lia⟩];exact o _ _ (by lia) (by lia) (by lia) (by lia)
  ·rw[yIn (by lia)];exact h _ _ (by lia) (by lia)
 ·rw[yIn (by lia),yIn (by lia)];exact h _ _ e m
def HV(h:1<=n):Flat O k p n 0:=⟨by omega,λi j a b c d=>by
 have:i=j:=by lia
 subst this;exact le_rfl _⟩
theorem oV:∀(f n q:Nat)(p:Array Nat),n+f<=p.size->Down O k p n->Flat O k p n q->
  ∃m l o,run (ask O k) (kas_desc f p n q)=(m,l,o)/\m.Perm p/\n<=l/\l<=n+f/\Down O k m l/\Flat O k m l o
 |0,n,q,p,hz,h,fl=>⟨p,n,q,rfl,Array.Perm.refl _,zcS _,zcS _,h,fl⟩
 |f+1,n,q,p,hz,h,fl=>by
  have h1:1<=n:=by have:=fl.1;lia
  have I:run (ask O k) (kas_desc (f+1) p n q)=run (ask O k) (if O.lt (val k p n) (val k p (n - 1))=true then(if q> 0 then kas_desc f (kas_rev p (n - (q+1)) n) (n+1) 0 else kas_desc f p (n+1) 0) else .ask (p.getD (n - 1) 0) (p.getD n 0) λd=>if d=true then .ret (p,n,q) else kas_desc f p (n+1) (q+1)):=rfl;rw[I];by_cases e:O.lt (val k p n) (val k p (n - 1))=true
  ·rw[yIp e];by_cases y:q> 0
   ·rw[yIp y];have H:val k (kas_rev p (n - (q+1)) n) n=val k p n:=by rw[val_rev (by lia),yIn (by lia)]
    have G:le O (val k (kas_rev p (n - (q+1)) n) n) (val k (kas_rev p (n - (q+1)) n) (n - 1)):=by
     rw[H,val_rev (by lia),yIp (by lia)];exact jV (BS e) (h _ _ (by omega) (by lia))
    let⟨m,l,o,a,b,c,d,t,s⟩:=oV f (n+1) 0 (kas_rev p (n - (q+1)) n) (by rw[pQ];lia) (jF (xM (by lia) h fl) h1 G) (HV (by lia));refine⟨m,l,o,a,b.trans dj,by lia,by lia,t,s⟩
   ·rw[yIn y];let⟨m,l,o,a,b,c,d,t,s⟩:=oV f (n+1) 0 p (by lia) (jF h h1 (BS e)) (HV (by lia));refine⟨m,l,o,a,b,by lia,by lia,t,s⟩
  ·rw[yIn e];show∃m l o,run _ (if O.lt (val k p (n - 1)) (val k p n)=true then _ else _)=_/\_;by_cases g:O.lt (val k p (n - 1)) (val k p n)=true
   ·rw[yIp g];refine⟨p,n,q,rfl,Array.Perm.refl _,zcS _,by lia,h,fl⟩
   ·rw[yIn g];have x:=qp g;have v:Flat O k p (n+1) (q+1):=⟨by have:=fl.1;lia,λi j a b c d=>by
     by_cases C:i=n
     ·by_cases u:j=n
      ·rw[C,u];exact le_rfl _
      ·rw[C];exact jV x (fl.2 _ _ (by lia) (by lia) (by lia) (by lia))
     ·by_cases u:j=n
      ·rw[u];exact jV (fl.2 _ _ (by lia) (by lia) (by lia) (by lia)) (qp e)
      ·exact fl.2 _ _ (by lia) (by lia) (by lia) (by lia)⟩
    let⟨m,l,o,a,b,c,d,t,s⟩:=oV f (n+1) (q+1) p (by lia) (jF h h1 x) v;refine⟨m,l,o,a,b,by lia,by lia,t,s⟩
def A0(h1:1<=n)(q:n<=m)(hz:m<=p.size)(h:Down O k p n):∃c e,run (ask O k) (kas_tail3 n m p)=(c,e)/\e.Perm p/\n<=c/\c<=m/\Up O k e c:=by
 unfold kas_tail3;rw[run_bind];have l:Up O k (kas_rev p 0 n) n:=λi j o s=>by
  rw[val_rev (by lia),val_rev (by lia),yIp (by lia),yIp (by lia)];exact h _ _ (by omega) (by lia)
 let⟨a,b,c⟩:=Au (m - n) n h1 l;refine⟨_,_,rfl,dj,a,by lia,c⟩
def nV(h1:1<=n)(E:n+1<=m)(hz:m<=p.size)(h:Down O k p n)(g:le O (val k p n) (val k p (n - 1))):∃c i,run (ask O k) (kas_descPart n m p)=(c,i)/\i.Perm p/\1<=c/\c<=m/\Up O k i c:=by
 unfold kas_descPart;rw[run_bind];let⟨i,y,v,a,b,c,d,e,f⟩:=oV (m - (n+1)) (n+1) 0 p (by lia) (jF h h1 g) (HV (by lia));have C:=b.size_eq;rw[a];by_cases u:v> 0
 ·rw[yIp u];let⟨q,j,t,s,x,o,l⟩:=A0 (m:=m) (by lia) (by lia) (by rw[pQ];lia) (xM (by lia) e f);refine⟨q,j,t,s.trans (dj.trans b),by lia,o,l⟩
 ·rw[yIn u];let⟨q,j,t,s,x,o,l⟩:=A0 (m:=m) (by lia) (by lia) (by lia) e;refine⟨q,j,t,s.trans b,by lia,o,l⟩
def Ik(Q:1<=m)(hz:m<=p.size):∃c q,run (ask O k) (kas_count m p)=(c,q)/\q.Perm p/\1<=c/\c<=m/\Up O k q c:=by
 unfold kas_count;rw[run_bind];have L:Up O k p 1:=λi j o s=>by
  have:i=j:=by lia
  subst this;exact le_rfl _
 let⟨a,b,c⟩:=Au (m - 1) 1 (zcS _) L;have stop:run (ask O k) (kas_asc p (m - 1) 1)<m->O.lt (val k p (run (ask O k) (kas_asc p (m - 1) 1))) (val k p (run (ask O k) (kas_asc p (m - 1) 1) - 1))=true:=by
  have:∀(f n:Nat),run (ask O k) (kas_asc p f n)<n+f->O.lt (val k p (run (ask O k) (kas_asc p f n))) (val k p (run (ask O k) (kas_asc p f n) - 1))=true:=by
   intro f
   induction f with
   |zero=>intro n h;exact absurd h (zcu _)
   |succ f ih=>
    intro n h;by_cases e:O.lt (val k p n) (val k p (n - 1))=true
    ·have l:run (ask O k) (kas_asc p (f+1) n)=n:=by
      show run _ (if O.lt (val k p n) (val k p (n - 1))=true then _ else _)=_;rw[yIp e];rfl
     simp_all
    ·have l:run (ask O k) (kas_asc p (f+1) n)=run (ask O k) (kas_asc p f (n+1)):=by
      show run _ (if O.lt (val k p n) (val k p (n - 1))=true then _ else _)=_;rw[yIn e]
     rw[l] at h⊢;exact ih (n+1) (by lia)
  simp_all
 generalize run (ask O k) (kas_asc p (m - 1) 1)=n at a b c stop;by_cases y:(n==m)=true
 ·rw[yIp y];refine⟨n,p,rfl,Array.Perm.refl _,a,by lia,c⟩
 ·rw[yIn y];have I:=BS (stop (by lia));by_cases l:n> 1
  ·rw[yIp l];show∃c q,run _ (if O.lt (val k p 0) (val k p (n - 1))=true then _ else _)=_/\_;by_cases x:O.lt (val k p 0) (val k p (n - 1))=true
   ·rw[yIp x];refine⟨n,p,rfl,Array.Perm.refl _,a,by lia,c⟩
   ·rw[yIn x];have all:∀i j,i<n->j<n->le O (val k p i) (val k p j):=λi j S s=>jV (c i (n - 1) (by lia) (by lia)) (jV (qp x) (c 0 j (by lia) s));have hd:Down O k (kas_rev p 0 n) n:=λi j o s=>by
     rw[val_rev (by lia),val_rev (by lia),yIp (by lia),yIp (by lia)];exact all _ _ (by lia) (by lia)
    let⟨F,t,H,G,E,C,v⟩:=nV (m:=m) a (by lia) (by rw[pQ];omega) hd (by
     rw[val_rev (by lia),val_rev (by lia),yIn (by lia),yIp (by lia)];exact jV I (all _ _ (by lia) (by lia)))
    refine⟨F,t,H,G.trans dj,E,C,v⟩
  ·rw[yIn l];let⟨F,t,H,G,E,C,v⟩:=nV (by omega) (by lia) hz (λi j o s=>by
    have:i=j:=by lia
    subst this;exact le_rfl _) I
   refine⟨F,t,H,G,E,C,v⟩
theorem p5{j:Nat}:∀(f l r:Nat),r<=l+f->l<=r->r<=j->(∀i,i<l->le O (val k p i) (val k p j))->(∀i,r<=i->i<j->le O (val k p j) (val k p i))->Up O k p j->
  ∃x,run (ask O k) (kas_place p j f l r)=x/\x<=j/\(∀i,i<x->le O (val k p i) (val k p j))/\∀i,x<=i->i<j->le O (val k p j) (val k p i)
 |0,l,r,h,hlr,hr,a,b,u=>by
  have:l=r:=by lia
  subst this;refine⟨l,rfl,hr,a,b⟩
 |f+1,l,r,h,hlr,hr,a,b,u=>by
  show∃x,run _ (if l≥r then _ else _)=x/\_;by_cases e:l≥r
  ·rw[yIp e];have:l=r:=by lia
   subst this;refine⟨l,rfl,hr,a,b⟩
  ·rw[yIn e];show∃x,run _ (if O.lt (val k p j) (val k p ((l+r) / 2))=true then _ else _)=x/\_;by_cases g:O.lt (val k p j) (val k p ((l+r) / 2))=true
   ·rw[yIp g];exact p5 f l ((l+r) / 2) (by lia) (by lia) (by lia) a (λi h1 h2=>jV (BS g) (u _ _ h1 h2)) u
   ·rw[yIn g];exact p5 f ((l+r) / 2+1) r (by lia) (by lia) hr (λi h1=>jV (u _ _ (show i<=(l+r) / 2 by lia) (by lia)) (qp g)) b u
def AX(a:j<p.size)(hd:d<=j)(x:Nat):val k (bubble p j d) x=if x=j - d then val k p j else if j - d<x/\x<=j then val k p (x - 1) else val k p x:=by
 have h1:∀y,val k p y=k ((p[y]?).getD 0):=λy=>by unfold val;rw[lB]
 rw[h1 j,h1 (x - 1),h1 x];unfold val;rw[lB,getElem?_bubble a d hd];split
 ·rfl
 ·split<;>rfl
theorem IC:∀(f j:Nat)(p:Array Nat),1<=j->j+f=p.size->Up O k p j->∃e,run (ask O k) (kas_bin f p j)=e/\e.Perm p/\Up O k e p.size
 |0,j,p,h1,h,u=>⟨p,rfl,Array.Perm.refl _,by rw[<-h];exact u⟩
 |f+1,j,p,h1,h,u=>by
  show∃e,run _ ((kas_place p j j 0 j).bind _)=e/\_;rw[run_bind];let⟨x,ex,v,a,b⟩:=p5 j 0 j (by lia) (by lia) (zcS _) (λi z=>by lia) (λi h1 h2=>by lia) u;rw[ex];have m:Up O k (bubble p j (j - x)) (j+1):=λi t n o=>by
   rw[AX (by lia) (by lia),AX (by lia) (by lia)]
   repeat' split
   all_goals first|exact le_rfl _|(exact u _ _ (by lia) (by lia))|(exact a _ (by lia))|(exact b _ (by lia) (by lia))|(exfalso;lia)
  let⟨e,s,q,l⟩:=IC f (j+1) (bubble p j (j - x)) (by lia) (by rw[bubble_size];lia) m;refine⟨e,s,q.trans (bubble_perm _ _ _),by rw[bubble_size] at l;exact l⟩
def Kd(m:1<=n):∃p:Array Nat,run (ask O k) (kas_sort n)=p/\p.Perm (List.toArray (zcX n))/\Up O k p n:=by
 unfold kas_sort;rw[run_bind];have hz:(List.toArray (zcX n)).size=n:=by simp
 obtain⟨c,h,a,b,t,v,u⟩:=Ik (p:=List.toArray (zcX n)) m (by lia);rw[a];have l:h.size=n:=by rw[b.size_eq,hz]
 by_cases e:c<n
 ·rw[yIp e];have o:max c 1=c:=by lia
  rw[o];let⟨j,s,q,i⟩:=IC (n - c) c h t (by lia) u;refine⟨j,s,q.trans b,by rw[l] at i;exact i⟩
 ·rw[yIn e];have:c=n:=by lia
  subst this;refine⟨h,rfl,b,u⟩
end
end Srt
namespace M5
open PySem PySem.Spec PyProof.Rows
def xo(t:SetTable)(es:Array (Int×yai))(h:Int)(x:yai):(layNew t es h x).2.1.led=t.led/\((layNew t es h x).2.1.plain=true->t.plain=true):=by
 unfold layNew;split
 ·unfold SetTable.orStandIn;dsimp only;split
  ·exact⟨rfl,λz=>z⟩
  ·exact⟨rfl,λz=>by cases z⟩
 ·exact⟨rfl,λz=>by cases z⟩
def nN(h:t.relaid g n=some (d,k)):d.led=t.led/\d.plain=t.plain:=by
 unfold SetTable.relaid SetTable.laid at h;cases e:SetTable.layClean (SetTable.sizeAbove n - 1) g with
 |none=>rw[e] at h;cases h
 |some ow=>
  rw[e] at h;injection h with h;injection h with h1 h2;subst h1;simp
def rE(t:SetTable)(es:Array (Int×yai))(n:Nat):(relayAll t es n).2.1.led=t.led/\((relayAll t es n).2.1.plain=true->t.plain=true):=by
 unfold relayAll;split
 ·rename_i h a e;dsimp only;split
  ·exact⟨(nN e).1,λz=>by rw[<-(nN e).2];exact z⟩
  ·exact⟨rfl,λz=>by cases z⟩
 ·exact⟨rfl,λz=>by cases z⟩
section
variable {w:yak}
def kF(i:Array (Int×yai))(t':SetTable)(j:h.get? a=some d)(hd:d.data=.set es ep t):
  (h.update a (Obj.putSet i t')).get? a=some {d with data:=.set i (ep+1) t'}:=by
 have e:=zay (Obj.putSet i t') j;rw[putSet_of i t' hd] at e;exact e rfl
end
namespace F
def sub_tuple_set:isSubtype (.type "tuple") (.type "set")=pure false:=by rfl
def sub_tuple_frozenset:isSubtype (.type "tuple") (.type "frozenset")=pure false:=by rfl
end F
noncomputable def bw(led:Bool):Obj:={cls:=.type "set",dict:=none,data:=.set #[] 0 (.fresh 0 0 led)}
section
variable {w:yak}
def Kl(a:yai)(h:Q₁ (.ref s.heap.objs.size) {s with heap:=s.heap.push (bw (!w.params.followText "set-order"))}):
  codeAny (model prog w) A (.call (.builtin "set.__new__") ⟨[.type "set",a],[]⟩) (wants Q₁ E) s:=by
 refine codeAny_of_tree ?_;refine yaa (wpAny_of_eq (PySem.F.newCall_set_1 a) (yab ⟨plainId_quiet PySem.F.plain_set_new _,codeAny_builtin PySem.F.entry_set_new ?_⟩));have e:=sub_set_self;wp_walk
 refine wpAny_askSetting (yab ?_);refine yaa (wpAny_alloc (yab ?_));exact yab h
end
end M5
namespace M5
open PySem PySem.Spec PyProof.Rows
namespace F
def wK:Manifest.owners.lookup (String.ofList ['r','o','t','a','r','e','t','i','_','t','e','s'].reverse)=some Manifest.sig_set_iterator:=by rfl
def K9:Manifest.owners.lookup (String.ofList ['t','e','s'].reverse)=some Manifest.sig_set:=by rfl
def slot_next:Slot "set_iterator" "__next__" "set_iterator.__next__":=
 .of (owner:="set_iterator") (n:="__next__") (by rfl) (by rfl) (by rfl) (by rfl)
  (by first|exact .inl (by rfl)|exact .inr (by decide+kernel)) (by rfl)
def entry_next:entryFor table "set_iterator.__next__"=some Builtin.«set_iterator.__next__»:=entryFor_of_tree (by rfl)
def args_next(a:yai):argsOk "set_iterator.__next__" ⟨[a],[]⟩:=by
 rfl
def sf:Slot "set_iterator" "__iter__" "set_iterator.__iter__":=
 .of (owner:="set_iterator") (n:="__iter__") (by rfl) (by rfl) (by rfl) (by rfl)
  (by first|exact .inl (by rfl)|exact .inr (by decide+kernel)) (by rfl)
def En(a:yai):argsOk "set_iterator.__iter__" ⟨[a],[]⟩:=by
 rfl
def Af:entryFor table "set_iterator.__iter__"=some Builtin.«dict_keyiterator.__iter__»:=
 entryFor_alias (id':="dict_keyiterator.__iter__") (by kernel_rfl) (by rfl) (by decide+kernel) (by kernel_rfl)
def pH:Slot "set" "__iter__" "set.__iter__":=
 .of (owner:="set") (n:="__iter__") (by rfl) (by rfl) (by rfl) (by rfl)
  (by first|exact .inl (by rfl)|exact .inr (by decide+kernel)) (by rfl)
def Av(a:yai):argsOk "set.__iter__" ⟨[a],[]⟩:=by
 rfl
def xH:entryFor table "set.__iter__"=some Builtin.«frozenset.__iter__»:=
 entryFor_alias (id':="frozenset.__iter__") (by kernel_rfl) (by rfl) (by decide+kernel) (by kernel_rfl)
end F
noncomputable def RV(first:yai)(i:Nat)(a:Addr)(n ep:Nat):Obj:={cls:=.type "set_iterator",data:=.fields #[first,rawInt i,.ref a,rawInt n,rawInt ep]}
def jN(h:Heap)(I:Addr)(first:yai)(i:Nat)(a:Addr)(n ep:Nat):Prop:=∃o,h.get? I=some o/\o.cls=.type "set_iterator"/\o.data=.fields #[first,rawInt i,.ref a,rawInt n,rawInt ep]
def yH(h:Heap)(a:Addr)(es:Array (Int×yai))(ep:Nat)(t:SetTable):Prop:=∃o,h.get? a=some o/\o.cls=.type "set"/\o.data=.set es ep t
def jN.at(x:jN h I d i a n ep)(e:∀o,h.get? I=some o->h'.get? I=some o):jN h' I d i a n ep:=by let⟨o,j,r⟩:=x;refine⟨o,e _ j,r⟩
def yH.at(x:yH h a es ep t)(e:∀o,h.get? a=some o->h'.get? a=some o):yH h' a es ep t:=by let⟨o,i,r⟩:=x;refine⟨o,e _ i,r⟩
section
variable {w:yak}
def jN.typeIs(x:jN s.heap I d i a n ep):s.TypeIs (.ref I) "set_iterator":=by let⟨o,e,h,_⟩:=x;refine⟨o,e,h⟩
def yH.typeIs(x:yH s.heap a es ep t):s.TypeIs (.ref a) "set":=by let⟨o,e,h,_⟩:=x;refine⟨o,e,h⟩
def Aw(a:n≠0)(h:∀i d,i<n->g i {s with drawn:=d}):yar (model prog w) A (choose src n) g E s:=by
 intro j p e;exact⟨a,h _ _ (zcY _ (Nat.pos_of_ne_zero a))⟩
theorem kh{a:Type}:∀{l:List a}{i:Nat}(h:i<l.length),(l[i]::l.eraseIdx i).Perm l
 |x::r,0,h=>.refl _
 |x::r,i+1,h=>by
  exact(List.Perm.swap ..).trans ((kh (Nat.lt_of_succ_lt_succ h)).cons x)
theorem x8{l:Type}:∀(n:Nat)(a:List l){s:yah}{Q:List l->yah->Prop},a.length=n->(∀e d,e.Perm a->Q e {s with drawn:=d})->yar (model prog w) A (drawOrder n a) Q E s
 |0,a,s,Q,hl,h=>by
  obtain rfl:a=[]:=zaa hl;exact yab (h [] s.drawn .nil)
 |n+1,[],s,Q,hl,h=>by cases hl
 |n+1,x::r,s,Q,hl,h=>by
  refine yaa (Aw (by simp) λi d j=>?_);rw[zak j];refine yaa (x8 n _ ?_ λe o m=>?_)
  ·rw[List.length_eraseIdx,yIp j,hl];rfl
  ·refine yab (h _ o ((m.cons _).trans ?_));exact kh j
theorem BG{e:Type}(next:Nat->Nat):∀(n k:Nat)(left:List e)(out:Array e),left.length=n->(pickOrder.go next n k left out).toList.Perm (out.toList++left)
 |0,k,left,out,h=>by
  obtain rfl:left=[]:=zaa h;unfold pickOrder.go;simp
 |n+1,k,left,out,h=>by
  unfold pickOrder.go;have a:next k % left.length<left.length:=zcY _ (by lia)
  rw[zak a];refine(BG next n (k+1) _ _ ?_).trans ?_
  ·rw[List.length_eraseIdx,yIp a,h];rfl
  ·rw[zbt,zbj];exact(kh a).append_left _
def sJ{e:Type}(next:Nat->Nat)(a:Array e):(pickOrder next a).toList.Perm a.toList:=by
 unfold pickOrder;have:=BG next a.size 0 a.toList #[] zaN
 simp_all
end
end M5
namespace M5
open PySem PySem.Spec PyProof.Rows
section
variable {w:yak}
def next_item{sl nx:Nat}(e:jN s.heap I (rawInt sl) i a n ep)(L:yH s.heap a es ep t)(C:t.fits es.size=true)(y:es.size=n)(v:∀{A':yal}{u:Option (yai×Nat)->yah->Prop}{P:yai->yah->Prop},u (some (d,nx)) s->yar (model prog w) A' (setNext a sl i ep) u P s)(O:∀h',jN h' I (rawInt nx) (i+1) a n ep->Heap.SameBut I s.heap h'->g (some d) {s with heap:=h'}):yar (model prog w) A (pyNext (.ref I)) g E s:=by
 let⟨o,m,H,hd⟩:=id e;let⟨os,l,G,q⟩:=id L;refine yaa (wpAny_attempt (wpAny_callSpecial?_slot e.typeIs F.slot_next (wpAny_call_entry F.slot_next e.typeIs F.entry_next ?_ (F.args_next _))));refine yaa (wpAny_of_eq rfl ?_);refine yaa (wpAny_fieldsOf m hd ?_);refine yaa (wpAny_setEntries_of l q C ?_);rw[yIn (by rw[y];simp)];refine yaa (v ?_);refine yaa (wpAny_setField m hd (by simp) ?_);have j:=zay (Obj.mapFields (·.setIfInBounds 0 (rawInt nx))) m (Obj.isFreed_of_fields (Obj.data_mapFields hd _));have h:=Obj.data_mapFields hd (·.setIfInBounds 0 (rawInt nx));refine yaa (wpAny_setField j h (by simp) ?_);refine yab ⟨d,rfl,yab (O _ ?_ ((Heap.SameBut.update ..).trans (Heap.SameBut.update ..)))⟩;refine⟨_,zay _ j (Obj.isFreed_of_fields (Obj.data_mapFields h _)),(Obj.cls_mapFields ..).trans ((Obj.cls_mapFields ..).trans H),by
  rw[Obj.data_mapFields h];rfl⟩
def next_end{sl:Nat}(u:A.handled=none)(h:jN s.heap I (rawInt sl) i a n ep)(L:yH s.heap a es ep t)(C:t.fits es.size=true)(y:es.size=n)(x:∀{A':yal}{v:Option (yai×Nat)->yah->Prop}{P:yai->yah->Prop},v none s->yar (model prog w) A' (setNext a sl i ep) v P s)(O:∀h',Heap.ExtBut I s.heap h'->d none {s with heap:=h'}):yar (model prog w) A (pyNext (.ref I)) d E s:=by
 let⟨o,q,U,hd⟩:=id h;let⟨os,j,G,l⟩:=id L;refine yaa (wpAny_attempt (wpAny_callSpecial?_slot h.typeIs F.slot_next (wpAny_call_entry F.slot_next h.typeIs F.entry_next ?_ (F.args_next _))));refine yaa (wpAny_of_eq rfl ?_);refine yaa (wpAny_fieldsOf q hd ?_);refine yaa (wpAny_setEntries_of j l C ?_);rw[yIn (by rw[y];simp)];refine yaa (x ?_);refine yaa (wpAny_setField q hd (by simp) ?_);refine yaa ?_;refine yaa (yae ?_ (by size_fits));refine yaa (wpAny_of_eq (by rfl) ?_);refine yae ?_ (by size_fits);simp only[raiseNew];refine yaa (wpAny_handled ?_)
 first|rw[show A.in1.handled=none from u]|rw[u]
 refine yaa (yab (wpAny_throw ?_));refine yaa (wpAny_isInstance ⟨_,zaO _ rfl,rfl⟩ isSubtype_stop ?_);refine yab (O _ (Heap.ExtBut.push (Heap.ExtBut.push ?_ _) _));exact λb S H e=>(zat _ _ (Ne.symm H)).trans e
def zJ{pl:Nat}(e:jN s.heap I (.ref T) i a n ep)(S:yH s.heap a es ep t)(u:t.fits es.size=true)(C:es.size=n)(P:s.heap.IsTuple T d)(y:d[i]? =some (.int pl tk))(G:es[pl]? =some (g,k))(U:∀h',jN h' I (.ref T) (i+1) a n ep->Heap.SameBut I s.heap h'->r (some k) {s with heap:=h'}):yar (model prog w) A (pyNext (.ref I)) r E s:=by
 let⟨o,m,O,hd⟩:=id e;let⟨os,h,L,j⟩:=id S;let⟨W,l,H,nt,q⟩:=id P;refine yaa (wpAny_attempt (wpAny_callSpecial?_slot e.typeIs F.slot_next (wpAny_call_entry F.slot_next e.typeIs F.entry_next ?_ (F.args_next _))));refine yaa (wpAny_of_eq rfl ?_);refine yaa (wpAny_fieldsOf m hd ?_);refine yaa (wpAny_setEntries_of h j u ?_);rw[yIn (by rw[C];simp)];refine yaa (wpAny_seqItems l q ?_);dsimp only;rw[zbs,y];refine yaa ?_;refine yaa (wpAny_setState_of h j u ?_);dsimp only;rw[yIn (by simp),zbs,G];refine yab ?_;refine yaa (wpAny_setField m hd (by simp) ?_);refine yab ⟨k,rfl,yab (U _ ?_ (Heap.SameBut.update ..))⟩;refine⟨_,zay _ m (Obj.isFreed_of_fields (Obj.data_mapFields hd _)),(Obj.cls_mapFields ..).trans O,by
  rw[Obj.data_mapFields hd];rfl⟩
def DH(y:A.handled=none)(h:jN s.heap I (.ref T) i a n ep)(U:yH s.heap a es ep t)(L:t.fits es.size=true)(H:es.size=n)(S:s.heap.IsTuple T d)(G:d[i]? =none)(W:∀h',Heap.ExtBut I s.heap h'->g none {s with heap:=h'}):yar (model prog w) A (pyNext (.ref I)) g E s:=by
 let⟨o,u,Z,hd⟩:=id h;let⟨os,l,P,x⟩:=id U;let⟨X,j,O,nt,v⟩:=id S;refine yaa (wpAny_attempt (wpAny_callSpecial?_slot h.typeIs F.slot_next (wpAny_call_entry F.slot_next h.typeIs F.entry_next ?_ (F.args_next _))));refine yaa (wpAny_of_eq rfl ?_);refine yaa (wpAny_fieldsOf u hd ?_);refine yaa (wpAny_setEntries_of l x L ?_);rw[yIn (by rw[H];simp)];refine yaa (wpAny_seqItems j v ?_);dsimp only;rw[zbs,G];refine yaa (wpAny_setField u hd (by simp) ?_);refine yaa (wpAny_setField (zay (Obj.mapFields (·.setIfInBounds 0 (rawInt 0))) u (Obj.isFreed_of_fields (Obj.data_mapFields hd _))) (Obj.data_mapFields hd _) (by simp) ?_);refine yaa ?_;refine yaa (yae ?_ (by size_fits));refine yaa (wpAny_of_eq (by rfl) ?_);refine yae ?_ (by size_fits);simp only[raiseNew];refine yaa (wpAny_handled ?_)
 first|rw[show A.in1.handled=none from y]|rw[y]
 refine yaa (yab (wpAny_throw ?_));refine yaa (wpAny_isInstance ⟨_,zaO _ rfl,rfl⟩ isSubtype_stop ?_);refine yab (W _ (Heap.ExtBut.push (Heap.ExtBut.push ?_ _) _));exact λb Y C e=>(zat _ _ (Ne.symm C)).trans ((zat _ _ (Ne.symm C)).trans e)
def BY(e:jN s.heap I d i a n ep)(h:Q (.ref I) s):yar (model prog w) A (pyIter (.ref I)) Q E s:=by
 refine wpAny_pyIter_slot e.typeIs F.sf (wpAny_call_entry F.sf e.typeIs F.Af ?_ (F.En _));exact yab ⟨_,rfl,"set_iterator",_,e.typeIs,F.slot_next.lookup,h⟩
def EK{j:List yai}{sl:Nat->Nat}(X:A.handled=none)(y:a≠I)(S:t.fits es.size=true)(O:j.length=es.size)(U:∀i x,j[i]? =some x->∀{A':yal}{s':yah}{u:Option (yai×Nat)->yah->Prop}{H:yai->yah->Prop},yH s'.heap a es ep t->u (some (x,sl (i+1))) s'->yar (model prog w) A' (setNext a (sl i) i ep) u H s')(Y:∀{A':yal}{s':yah}{u:Option (yai×Nat)->yah->Prop}{H:yai->yah->Prop},yH s'.heap a es ep t->u none s'->yar (model prog w) A' (setNext a (sl j.length) j.length ep) u H s'):
  Walks prog w A I [I,a] [I] j.length (λi v=>j[i]? =some v) (λi h=>jN h I (rawInt (sl i)) i a es.size ep/\yH h a es ep t) where
 sub:=λb l=>by simp_all
 frame:=λ_ _ _ x P=>⟨x.1.at λo e=>P I (by simp) o e,x.2.at λo e=>P a (by simp) o e⟩
 item:=λi s Q E W x q=>by
  have L:=zak W;refine next_item x.1 x.2 S rfl (U i _ L x.2) λF n m=>?_;exact q _ F s.toks L ⟨n,x.2.at λo e=>(m.2 a y).trans e⟩ λb o l G=>m.extBut b o (λz=>l (by simp[z])) G
 done:=λs Q E x q=>next_end X x.1 x.2 S rfl (Y x.2) λF C=>q F s.toks λb o l G=>C b o (λz=>l (by simp[z])) G
 self:=λ_ _ _ _ x q=>BY x.1 q
def Oe{ps:List Nat}{j:List yai}(W:A.handled=none)(C:a≠I)(X:T≠I)(O:t.fits es.size=true)(U:j.length=ps.length)(S:∀i (h:i<ps.length)(h2:i<j.length),∃k,es[ps[i]]? =some (k,j[i])):
  Walks prog w A I [I,a,T] [I] j.length (λi v=>j[i]? =some v) (λi h=>jN h I (.ref T) i a es.size ep/\yH h a es ep t/\h.IsTuple T (ps.map λ(i:Nat)=>rawInt i).toArray) where
 sub:=λb m=>by grind
 frame:=λ_ _ _ x n=>⟨x.1.at λo e=>n I (by simp) o e,x.2.1.at λo e=>n a (by simp) o e,x.2.2.at λo e=>n T (by simp) o e⟩
 item:=λi s Q E L x y=>by
  have u:i<ps.length:=by lia
  let⟨k,n⟩:=S i u L;refine zJ (tk:=0) x.1 x.2.1 O rfl x.2.2 (by simp[u,rawInt]) n λG q l=>?_;exact y _ G s.toks (zak L) ⟨q,x.2.1.at λo e=>(l.2 a C).trans e,x.2.2.at λo e=>(l.2 T X).trans e⟩ λb o m H=>l.extBut b o (λz=>m (by simp[z])) H
 done:=λs Q E x y=>DH W x.1 x.2.1 O rfl x.2.2 (by simp[U]) λG F=>y G s.toks λb o m H=>F b o (λz=>m (by simp[z])) H
 self:=λ_ _ _ _ x y=>BY x.1 y
def gY(h:d (w.params.followText "set-order") s):yar (model prog w) A setsByText d E s:=by
 exact yaa (wpAny_askSetting (yab h))
def Nk(m:w.params.followText "set-order"=true)(n:yH s.heap a es ep t)(l:t.fits es.size=true)(h:d (((pickOrder (w.params.setOrder a ep) es)[i]?).map λe=>(e.2,0)) s):yar (model prog w) A (setNext a 0 i ep) d E s:=by
 let⟨o,j,q,hd⟩:=n;refine yaa (wpAny_setState_of j hd l ?_);refine yaa (gY ?_);rw[yIp m];rw[yIn (by simp)];refine yaa ?_;refine yaa (wpAny_setState_of j hd l ?_);refine yaa (gY ?_);rw[yIp m];refine yaa (wpAny_askSetting (yab ?_));exact yab h
def pull{e:Type}(es:Array e)(ps:List Nat)(h:ps.Perm (zcX es.size)):∃l:List e,l.length=ps.length/\l.Perm es.toList/\∀i (h:i<ps.length)(h2:i<l.length),es[ps[i]]? =some l[i]:=by
 have all:∀p∈ps,p<es.size:=λp j=>zcj.mp (h.mem_iff.mp j);have key:∀a:List Nat,(∀p∈a,p<es.size)->∃l:List e,l.length=a.length/\l=a.filterMap (λi=>es[i]?)/\∀i (h:i<a.length)(h2:i<l.length),es[a[i]]? =some l[i]:=by
  intro a
  induction a with
  |nil=>exact λ_=>⟨[],rfl,rfl,λi h=>by simp at h⟩
  |cons q r ih=>
   intro t;let⟨l,o,n,m⟩:=ih λp j=>t p (zaz _ j);have s:=t q zaP;refine⟨es[q]::l,by simp[o],by simp_all,λi h h2=>?_⟩;cases i with
   |zero=>simp[s]
   |succ i=>exact m i (by simp_all) (by simpa using h2)
 let⟨l,o,n,m⟩:=key ps all;refine⟨l,o,?_,m⟩;rw[n,<-filterMap_getElem?_range es];exact h.filterMap _
end
end M5
namespace L2
open PySem PySem.Spec PyProof.Rows
def Inv.Ce(I:Inv X pins σ H s)(d:Drawn):Inv X pins σ H {s with drawn:=d}:=
 ⟨I.ok,I.os,I.bare,I.base,I.loc,I.cell,I.free,I.iw,I.pin,I.hok,I.len⟩
end L2
namespace M
open PySem PySem.Spec PyProof.Rows L2
noncomputable def gh(ks:List Key)(ds:List D)(k:Key):Option D:=((ks.zip ds).find? λp=>decide (p.1=k)).map (·.2)
noncomputable def ja(ks:List Key)(ds:List D)(k:Key)(d:D):MO:=if(ks.any λj=>decide (j=k))=true then .dct ks ((ks.zip ds).map λp=>if p.1=k then d else p.2) else .dct (ks++[k]) (ds++[d])
theorem oQ{w:Wd}{k:Key}{d:D}:∀{kvs:List (Key×V)}{ds:List D},ao K w ds (kvs.map (·.2))->gh (kvs.map (·.1)) ds k=some d->∃v,iz kvs k=some v/\Rep K w d v
 |[],ds,h,e=>by simp[gh] at e
 |(j,u)::r,ds,h,e=>by
  cases ds with
  |nil=>simp[gh] at e
  |cons x ds=>
   let⟨l,m,i,h1,h2⟩:=h;injection i with e1 e2;subst e1;subst e2;unfold gh at e;unfold iz;by_cases a:j=k
   ·rw[zcq,zaT,List.find?_cons_of_pos (by simpa using a)] at e;rw[List.find?_cons_of_pos (by simpa using a)];cases e;refine⟨u,rfl,h1⟩
   ·rw[zcq,zaT,List.find?_cons_of_neg (by simpa using a)] at e;rw[List.find?_cons_of_neg (by simpa using a)];exact oQ h2 e
theorem wu(g:Rep K w d q):∀{kvs:List (Key×V)}{ds:List D},ao K w ds (kvs.map (·.2))->
  ao K w (((kvs.map (·.1)).zip ds).map λp=>if p.1=k then d else p.2) ((kvs.map λe=>if e.1=k then(e.1,q) else e).map (·.2))
 |[],ds,h=>by
  cases ds with
  |nil=>exact .nil
  |cons x ds=>let⟨_,_,z,_⟩:=h;cases z
 |(j,u)::r,ds,h=>by
  cases ds with
  |nil=>cases h
  |cons x ds=>
   let⟨l,m,i,h1,h2⟩:=h;injection i with e1 e2;subst e1;subst e2;simp only[zcq,zaT];refine .cons ?_ (wu g h2);by_cases a:j=k
   ·rw[yIp a,yIp a];exact g
   ·rw[yIn a,yIn a];exact h1
def pW(g:Rep K w d v)(h:ao K w ds (kvs.map (·.2))):lV K w (ja (kvs.map (·.1)) ds k d) (.dK (putK kvs k v)):=by
 unfold ja putK;have e:((kvs.map (·.1)).any λj=>decide (j=k))=(kvs.any λa=>decide (a.1=k)):=by
  rw[zcA];rfl
 rw[e];by_cases i:(kvs.any λa=>decide (a.1=k))=true
 ·rw[yIp i,yIp i];refine⟨_,rfl,?_,wu g h⟩;rw[zcC];refine zaK λa _=>?_;lia
 ·rw[yIn i,yIn i];refine⟨_,rfl,by simp,?_⟩;rw[zbZ];exact h.snoc g
def vh(ok:Ok K w H S)(h:Rep K w (.loc d) v)(e:S[d]? =some (some (.dct g ds))):
  ∃a kvs,v=.ref a/\w.r d=some a/\H a=some (.dK kvs)/\kvs.map (·.1)=g/\ao K w ds (kvs.map (·.2)):=by
 let⟨a,h1,rfl⟩:=h;let⟨o,u,i,n,m,kvs,rfl,l,j⟩:=ok.live d _ e;rw[h1] at i;cases i;refine⟨a,kvs,rfl,h1,m,l,j⟩
def Jc(a b:AE):AE:=λe S Q=>a e S λl m=>b e m λj i=>∃ks h k d,aP i l.d=.dct ks h/\j.d=.str k/\gh ks h (.inr k)=some d/\Q (.dat d) i
def Pb:∀m H Q,aO K (Jc g r) m H Q->E1 (aO K g) (aO K r) m H Q:=by
 intro m H Q z;let⟨w,s,S,Qa,ok,env,q,bk⟩:=z;refine⟨w,s,S,_,ok,env,q,.go λX L U y H1 l o h C=>?_⟩;refine⟨y,s,L,_,o,env.le l,C,.go λW Z P O H2 j i e n=>?_⟩;let⟨ks,Y,k,d,x,u,t,q2⟩:=n;let⟨g,E,rfl,h1,rfl,F⟩:=fh i (h.le j) x;let⟨v,I,G⟩:=oQ F t;rw[jw e u];refine⟨g,v,rfl,?_,bk.dat (l.trans j) i G q2⟩;rw[<-I];exact rg.k (k:=.inr k) h1
def Ja(a b c:AE):AS:=λD e S=>c e S λj q=>a e q λm o=>b e o λl i=>∃n ks h k,m.d=.loc n/\l.d=.str k/\i[n]? =some (some (.dct ks h))/\h.length<1000/\D.nx e (i.set n (some (ja ks h (.inr k) j.d)))
def O9:∀D t H,fU K (Ja d g r) D t H->Gb (aO K d) (aO K g) (aO K r) D t H:=by
 intro D t H z;let⟨w,u,S,Da,ok,env,q,bk⟩:=z;refine⟨w,u,S,_,ok,env,q,.go λr3 Y Z P H1 i C l Q=>?_⟩;refine⟨P,u,Y,_,C,env.le i,Q,.go λr1 X v1 O H2 h y j q2=>?_⟩;refine⟨O,u,X,_,y,(env.le i).le h,q2,.go λr2 S3 v2 w3 H3 e o m v=>?_⟩;let⟨n,ks,W,k,L,I,F,hl,q3⟩:=v;rw[L] at j;let⟨d,E,rfl,U,h1,rfl,G⟩:=vh o (j.le e) F;rw[jw m I];have s:E.length=W.length:=by have:=G.length;simp_all
 refine⟨d,_,rfl,EE.k (k:=.inr k) h1 (by rw[yaf];lia),?_⟩;exact bk.nx u _ t w3 _ ((i.trans h).trans e) (o.put F U (pW (k:=.inr k) (l.le (h.trans e)) G)) (((env.le i).le h).le e) q3
section
variable {o i:Expr}{pc pu:Pos}
theorem dB(a:X.A.units+1<cLine)(h:GE X o ta)(j:GE X i tb)(e:yw i):GE X (.Subscript o i pos) (Jc ta tb):=⟨mE (L2.dB a h.p j.p e) Pb⟩
theorem kU(h:X.A.units+1<cLine)(l:GE X o ta)(m:GE X i tb)(e:GE X value d)(j:yat value (some (.Subscript o i pos')) pos.line X.env=pure false):GS X (.Assign [.Subscript o i pos'] value pos) (Ja ta tb d):=
 ⟨mS (L2.kU h l.p m.p e.p j) O9⟩
def Nh:W4 X (unaryOp .USub) (λx S Q=>∃i,x=.int i/\Q (.dat (.int (-i))) S):=⟨m1 Oh λx H Q h=>by
 let⟨w,d,S,e,ok,a,⟨i,rfl,q⟩,bk⟩:=h;refine⟨i,bz a rfl,bk.dat .refl ok .int q⟩⟩
end
noncomputable def AZ(K:yaI):List Str->List AE->List (TE×TE)
 |k::ks,a::as=>(tC (.str k),aO K a)::AZ K ks as
 |_,_=>[]
def vA:List AE->bh->aA->(List D->aA->Prop)->Prop
 |[],_,S,Q=>Q [] S
 |a::as,δ,S,Q=>a δ S λr i=>vA as δ i λe h=>Q (r.d::e) h
theorem Bm:∀(ks:List Str)(as:List AE){w:Wd}{δ:bh}{S:aA}{e:L2.St}{H:Hp}{m:List D->aA->Prop}{Q:List (V×V)->Hp->Prop},ks.length=as.length->Ok K w H S->eW K w δ e->vA as δ S m->
  (∀ds S' (vs:List V) n H',w.le n->Ok K n H' S'->ao K n ds vs->vs.length=ks.length->m ds S'->Q ((ks.zip vs).map λp=>(V.str p.1,p.2)) H')->tX (AZ K ks as) e H Q
 |[],[],w,δ,S,e,H,m,Q,_,ok,env,q,bk=>bk [] S [] w H .refl ok .nil rfl q
 |[],_::_,_,_,_,_,_,_,_,hl,_,_,_,_=>by cases hl
 |_::_,[],_,_,_,_,_,_,_,hl,_,_,_,_=>by cases hl
 |k::ks,a::as,w,δ,S,e,H,m,Q,hl,ok,env,q,bk=>by
  refine⟨w,δ,S,_,ok,env,q,.go λr F v E G l s i u=>?_⟩;refine Bm ks as (by simp_all) s (env.le l) u λds y vs t C j o h x q2=>?_;exact bk (r.d::ds) y (v::vs) t C (l.trans j) o (.cons (i.le j) h) (by simp[x]) q2
theorem sN:∀(more kvs:List (Key×V)),((kvs++more).map (·.1)).Nodup->iV kvs more=kvs++more
 |[],kvs,_=>by simp[iV]
 |p::r,kvs,h=>by
  show iV (putK kvs p.1 p.2) r=_;have e:putK kvs p.1 p.2=kvs++[p]:=by
   unfold putK;grind
  rw[e,sN r (kvs++[p]) (by simp_all)];simp
def I0(ks:List Str)(as:List AE):AE:=λe S Q=>vA as e (S++[some (.dct [] [])]) λh a=>a[S.length]? =some (some (.dct [] []))/\Q (.dat (.loc S.length)) (a.set S.length (some (.dct (ks.map Sum.inr) h)))
def Pa(O:d.Nodup)(P:d.length=as.length)(E:d.length<=15):∀t H Q,aO K (I0 d as) t H Q->MT (AZ K d as) t H Q:=by
 intro t H Q z p G;let⟨w,Z,S,Qa,ok,env,q,bk⟩:=z;let⟨w2,n,u,e⟩:=store (ok.alloc (o:=.dK []) G) (ok.fresh (m:=.dct [] []) G ⟨[],rfl,rfl,.nil⟩);refine Bm d as P u (env.le n) q λY S' vs w3 H3 i l j y ⟨I,q3⟩=>?_;let⟨a,s,X,W,h1,h2,h3⟩:=vh l (e.le i) I;cases X;have U:s=[]:=by
  simp_all
 subst U;have L:((d.map Sum.inr).zip vs:List (Key×V)).map (·.1)=d.map Sum.inr:=by
  rw[zbF];simp_all
 have F:((d.map Sum.inr).zip vs:List (Key×V)).map (·.2)=vs:=by
  rw[zbG];simp_all
 refine⟨h1,(d.map Sum.inr).zip vs,?_,?_,?_⟩
 ·rw[List.zip_map_left,zcC];rfl
 ·simp_all
 ·have C:(([]++((d.map Sum.inr).zip vs:List (Key×V)):List (Key×V)).map (λp=>p.1)).Nodup:=by
   grind
  rw[sN _ [] C,zbY];refine bk.dat (n.trans i) (l.put I W (o':=.dct (d.map Sum.inr) Y) ⟨_,rfl,L,by rw[F];exact j⟩) (e.le i) q3
def QG(k:Ok K w H S)(e:S[m]? =some (some (.lst ds))):∃s,w.le s/\Ok K s H (S.set m none)/\∀v,Rep K w (.loc m) v->Rep K s (.lst ds) v:=by
 let⟨a,u,h1,h2,P,h,rfl,O⟩:=k.live m _ e;have le:w.le ⟨upd w.B a (.lst h),w.r⟩:=⟨al h2,λ_ _ e=>e⟩
 have at_:∀n o,(S.set m none)[n]? =some (some o)->n≠m/\S[n]? =some (some o):=λn o z=>by
  by_cases x:m=n
  ·subst x;rw[zbk] at z;simp at z
  ·rw[zaB x] at z;exact⟨λy=>x y.symm,z⟩
 refine⟨⟨upd w.B a (.lst h),w.r⟩,le,⟨λb o z=>?_,λn o z=>?_,λn j o C I G z=>k.inj n j o C (at_ n o I).2 (at_ j C G).2 z,λn l=>k.top n (by simp_all)⟩,λv E=>?_⟩
 ·by_cases F:b=a
  ·subst F;have z:upd w.B b (.lst h) b=some o:=z;rw[bN] at z;simp_all
  ·have z:upd w.B a (.lst h) b=some o:=z;rw[aM F] at z;exact k.base b o z
 ·let⟨l,z⟩:=at_ n o z;let⟨q,L,i,W,U,Q⟩:=k.live n o z;have t:q≠a:=λy=>l (k.inj n m _ _ z e (by rw[i,h1,y]));refine⟨q,L,i,by show upd w.B a _ q=none;rw[aM t];exact W,U,Q.le le⟩
 ·let⟨q,i,rfl⟩:=E;rw[h1] at i;cases i;refine⟨a,h,rfl,bN,O.le le⟩
noncomputable def sb(m:Nat)(e:D):D->D
 |.loc n=>if n=m then e else .loc n
 |d=>d
theorem yX(le:w.le g)(f:∀v,Rep K w (.loc k) v->Rep K g (.lst q) v):∀{es:List D}{a:List V},ao K w es a->ao K g (es.map (sb k (.lst q))) a
 |[],a,h=>by subst h;exact .nil
 |d::es,a,h=>by
  let⟨x,r,rfl,h1,h2⟩:=h;refine .cons ?_ (yX le f h2);cases d with
  |loc n=>
   show Rep K g (if n=k then _ else _) x;by_cases i:n=k
   ·rw[yIp i];subst i;exact f x h1
   ·rw[yIn i];exact h1.le le
  |_=>exact h1.le le
def Rt(a:AE):AE:=λj S Q=>a j S λr i=>∃m h e,r=.dat (.tup e)/\i[m]? =some (some (.lst h))/\Q (.dat (.tup (e.map (sb m (.lst h))))) (i.set m none)
def SV:∀i H Q,aO K (Rt d) i H Q->aO K d i H Q:=by
 intro i H Q z;let⟨w,s,S,U,ok,env,q,bk⟩:=z;refine⟨w,s,S,_,ok,env,q,λr P v x W o n e j=>?_⟩;let⟨m,O,G,I,E,y⟩:=j;subst I;let⟨t,u,rfl,F,C⟩:=e;let⟨L,h,l,f⟩:=QG n E;refine bk.dat (o.trans h) l ?_ y;refine⟨t,u,rfl,eS.same h.b F,yX h f C⟩
def WX(h:GE X e d):GE X e (Rt d):=⟨mE h.p SV⟩
structure VC(X:Cx)(pos:Pos)(keys:List (Option Expr))(values:List Expr)(ks:List Str)(as:List AE):Prop where
 p:U6 X pos keys values (AZ X.K ks as)
theorem uB:VC X pos [] [] [] []:=⟨L2.uB⟩
theorem iP(h:GE X g r)(i:VC X pos keys values q as):
  VC X pos (some (.Constant (.str k) j d)::keys) (g::values) (k::q) (r::as):=⟨L2.iP L2.au h.p i.p⟩
theorem uG(h:VC X pos keys values d as)(a:autoParam (keys.all (·.isSome)=true) r0)(m:autoParam (keys.length=values.length) r0)(h0:keys≠[]:=by exact List.cons_ne_nil _ _)(j:autoParam (keys.length<=15) r1)(l:d.Nodup:=by decide+kernel)(i:autoParam (d.length=as.length) r0)(e:autoParam (d.length<=15) r1):GE X (.Dict keys values pos) (I0 d as):=⟨mE (L2.uG h.p a m h0 j) (Pa l i e)⟩
end M
namespace M6
open PySem PySem.Spec PyProof.Rows
mutual
noncomputable def bP:yam->Bool
 |.int _=>true
 |.str x=>(PyData.str x).canLay0
 |.tuple xs=>eF xs
 |_=>false
noncomputable def eF:List yam->Bool
 |[]=>true
 |x::xs=>bP x&&eF xs
end
mutual
noncomputable def bu(w:yak):yam->Int
 |.int i=>hashInt i
 |.str x=>hashStr w x
 |.tuple xs=>reduceHash (Builtin.Tuple.tupleHashOf (i7 w xs))
 |_=>0
noncomputable def i7(w:yak):List yam->List Int
 |[]=>[]
 |x::xs=>bu w x::i7 w xs
end
mutual
noncomputable def Vr:yam->Nat
 |.int _=>1
 |.str _=>1
 |.tuple xs=>qH xs+1
 |_=>0
noncomputable def qH:List yam->Nat
 |[]=>0
 |x::xs=>Vr x+qH xs
end
theorem jW(w:yak):∀a b,i7 w (a++b)=i7 w a++i7 w b
 |[],b=>rfl
 |x::a,b=>by simp only[zbH,i7,jW w a b]
theorem nU:∀a b,qH (a++b)=qH a+qH b
 |[],b=>by simp[qH]
 |x::a,b=>by simp only[zbH,qH,nU a b];lia
theorem fJ:∀{e:List yam},eF e=true->∀x∈e,bP x=true
 |[],_,x,a=>by simp at a
 |y::e,h,x,a=>by
  simp only[eF,zbN] at h;obtain rfl|a:=zcp.mp a
  ·exact h.1
  ·exact fJ h.2 x a
theorem cJ:∀{a:List yam}{x:yam},x∈a->x.depth<=PyData.depthAll a
 |y::a,x,e=>by
  simp only[PyData.depthAll];obtain rfl|e:=zcp.mp e
  ·lia
  ·have:=cJ e;lia
def bD(a:List yam):(PyData.tuple a).depth=PyData.depthAll a+1:=by
 rfl
section
variable {w:yak}
def fq(e:s.heap.get? a=some d)(h:d.cls=Value.type "tuple"):s.TypeIs (.ref a) "tuple":=⟨d,e,h⟩
theorem wF:∀(n:Nat)(d:yam){v:yai}{as:List Addr}{A:yal}{E:yai->yah->Prop}{s:yah}{Q:Int->yah->Prop},d.depth<=n->bP d=true->Reads s.heap v d as->A.units+n<cLine->
  Q (bu w d) {s with toks:=s.toks+Vr d}->yar (model prog w) A (pyHash v) Q E s:=by
 intro n
 induction n with
 |zero=>
  intro d v as A E s Q hd j y I h;cases y with
  |int i t=>exact wpAny_pyHash_int h
  |str x t=>exact wpAny_pyHash_str h
  |tuple ho hc hd' hall=>rw[bD] at hd;lia
  |none=>simp[bP] at j
  |bool b=>simp[bP] at j
  |list _ _ _ _=>simp[bP] at j
  |dict _ _ _ _ _=>simp[bP] at j
 |succ n ih=>
  intro d v as A E s Q hd j y I h;cases y with
  |int i t=>exact wpAny_pyHash_int h
  |str x t=>exact wpAny_pyHash_str h
  |none=>simp[bP] at j
  |bool b=>simp[bP] at j
  |list _ _ _ _=>simp[bP] at j
  |dict _ _ _ _ _=>simp[bP] at j
  |@tuple a o vs m xs as ho hc hdat hall=>
   rw[bD] at hd;refine W.pyHash_slot (fq ho hc) F.slot_tuple_hash F.entry_tuple_hash (F.args_tuple_hash_1 (.ref a)) (by decide) (.inr (by lia)) ?_;show yar (model prog w) A.in1 (do
    let __do_lift <-Builtin.Tuple.tupleItemsOf (.ref a);let __s <-forIn __do_lift (#[]:Array Int) λx __s=>do
       let __do_lift <-pyHash x
       pure (ForInStep.yield (__s.push __do_lift))
    retInt (Builtin.Tuple.tupleHashOf __s.toList)) _ E s
   refine yaa (wpAny_tupleItemsOf ho hdat (yaa ?_));rw[<-zbc];refine wpAny_forIn_list _ (λrest b u=>∃e left l,xs=e++left/\ReadsAll s.heap rest left l/\b.toList=i7 w e/\u={s with toks:=s.toks+qH e}) _ ?_ ?_ vs.toList #[] ⟨[],xs,_,rfl,hall,rfl,rfl⟩
   ·intro x rest b u k;let⟨e,left,l,rfl,C,G,rfl⟩:=k;cases C with
    |@cons _ _ d' ds as1 bs hx hrest=>
     have H:d'∈e++d'::ds:=by simp
     refine yaa (ih d' (by have:=cJ H;lia) (fJ j d' H) hx (by lia) ?_);refine yab ⟨e++[d'],ds,bs,by simp,hrest,?_,?_⟩
     ·rw[zbt,G,jW];rfl
     ·rw[nU];simp only[qH,zcK,zcv]
   ·intro b u k;let⟨e,left,l,rfl,C,G,rfl⟩:=k;cases C;rw[zbS] at h;rw[G];refine yac (wpAny_ret_mkInt (Q:=λv u=>∃n t,v=Value.int n t/\Q (reduceHash n) u) ⟨_,_,rfl,h⟩) (λO u=>?_) (λ_ _ z=>z)
    ·rintro⟨v,rfl,n,t,rfl,q⟩;refine⟨n,t,rfl,q⟩
def j7:∀(n:Nat)(d:yam){v:yai}{as:List Addr}{A:yal}{E:yai->yah->Prop}{s:yah}{Q:Bool->yah->Prop},d.depth<=n->bP d=true->Reads s.heap v d as->Q true s->yar (model prog w) A (eqIsQuiet n v) Q E s:=by
 intro n
 induction n with
 |zero=>
  intro d v as A E s Q hd e l h;cases l with
  |int i t=>exact yab h
  |str x t=>exact yab h
  |tuple ho hc hd' hall=>rw[bD] at hd;lia
  |none=>simp[bP] at e
  |bool b=>simp[bP] at e
  |list _ _ _ _=>simp[bP] at e
  |dict _ _ _ _ _=>simp[bP] at e
 |succ n ih=>
  intro d v as A E s Q hd e l h;cases l with
  |int i t=>exact yab h
  |str x t=>exact yab h
  |none=>simp[bP] at e
  |bool b=>simp[bP] at e
  |list _ _ _ _=>simp[bP] at e
  |dict _ _ _ _ _=>simp[bP] at e
  |@tuple a o vs m xs as ho hc hdat hall=>
   have I:=fq ho hc;rw[bD] at hd;rw[eqIsQuiet.eq_def];refine yaa (wpAny_specialOf I F.slot_tuple_eq.lookup ?_);refine yaa (wpAny_isInstance I isSubtype_tuple_tuple ?_);refine yaa (wpAny_seqItems ho hdat (yaa ?_));rw[<-zbc];refine wpAny_forIn_list _ (λrest r C=>r.1=none/\C=s/\∃left u,ReadsAll s.heap rest left u/\∀x∈left,x∈xs) _ ?_ ?_ vs.toList (none,()) ⟨rfl,rfl,xs,_,hall,λ_ q=>q⟩
   ·rintro y rest ⟨G,L⟩ C ⟨l,rfl,left,u,O,j⟩;cases O with
    |@cons _ _ d' ds as1 bs q hrest=>
     have H:=j d' (by simp);refine yaa (ih d' (by have:=cJ H;lia) (fJ e d' H) q ?_);exact yab ⟨rfl,rfl,ds,bs,hrest,λx q=>j x (zaz _ q)⟩
   ·rintro⟨G,L⟩ C ⟨l,rfl,_⟩;subst l;exact yab h
end
noncomputable instance:DecidableEq yam:=λ_ _=>Classical.propDecidable _
mutual
theorem oU:∀x y:yam,bP x=true->bP y=true->PyData.eqv x y=decide (x=y)
 |.int i,.int j,_,_=>by
  simp only[PyData.eqv];by_cases h:i=j
  ·subst h;simp
  ·have:¬PyData.int i=.int j:=λe=>h (by injection e);rw[yDf this];simpa using h
 |.str i,.str j,_,_=>by
  simp only[PyData.eqv];by_cases h:i=j
  ·subst h;simp
  ·have:¬PyData.str i=.str j:=λe=>h (by injection e);rw[yDf this];simpa using h
 |.tuple xs,.tuple ys,hx,hy=>by
  simp only[PyData.eqv];rw[xG xs ys hx hy];by_cases h:xs=ys
  ·subst h;simp
  ·have:¬PyData.tuple xs=.tuple ys:=λe=>h (by injection e);rw[yDf this,yDf h]
 |.int i,.str j,_,_=>by rw[yDf (λe=>nomatch e)];rfl
 |.int i,.tuple j,_,_=>by rw[yDf (λe=>nomatch e)];rfl
 |.str i,.int j,_,_=>by rw[yDf (λe=>nomatch e)];rfl
 |.str i,.tuple j,_,_=>by rw[yDf (λe=>nomatch e)];rfl
 |.tuple i,.int j,_,_=>by rw[yDf (λe=>nomatch e)];rfl
 |.tuple i,.str j,_,_=>by rw[yDf (λe=>nomatch e)];rfl
 |.none,_,h,_=>by simp[bP] at h
 |.bool _,_,h,_=>by simp[bP] at h
 |.list _,_,h,_=>by simp[bP] at h
 |.dict _,_,h,_=>by simp[bP] at h
 |_,.none,_,h=>by simp[bP] at h
 |_,.bool _,_,h=>by simp[bP] at h
 |_,.list _,_,h=>by simp[bP] at h
 |_,.dict _,_,h=>by simp[bP] at h
theorem xG:∀x y:List yam,eF x=true->eF y=true->PyData.eqvAll x y=decide (x=y)
 |[],[],_,_=>by simp[PyData.eqvAll]
 |[],y::ys,_,_=>by simp[PyData.eqvAll]
 |x::xs,[],_,_=>by simp[PyData.eqvAll]
 |x::xs,y::ys,hx,hy=>by
  simp only[eF,zbN] at hx hy;simp only[PyData.eqvAll];rw[oU x y hx.1 hy.1,xG xs ys hx.2 hy.2];by_cases h:x=y<;>by_cases g:xs=ys<;>simp[h,g]
end
mutual
theorem gV:∀x:yam,bP x=true->x.canLay0=true
 |.int i,_=>rfl
 |.str i,h=>h
 |.tuple xs,h=>by simp only[PyData.canLay0];exact BU xs h
 |.none,h=>by simp[bP] at h
 |.bool _,h=>by simp[bP] at h
 |.list _,h=>by simp[bP] at h
 |.dict _,h=>by simp[bP] at h
theorem BU:∀x:List yam,eF x=true->PyData.canLayAll0 x=true
 |[],_=>rfl
 |x::xs,h=>by
  simp only[eF,zbN] at h;simp only[PyData.canLayAll0,gV x h.1,BU xs h.2,zcx]
end
def isKey(h:Heap)(d:yam)(a:Addr):Prop:=bP d=true/\d.depth<=6/\∃as,Reads h (.ref a) d as
mutual
theorem sF{h h':Heap}{b:Addr}{ob:Obj}{es:Array yav}{ep:Nat}(n:h.get? b=some ob)(hd:ob.data=Data.dict es ep)(l:Heap.SameBut b h h'):∀(d:yam){v:yai}{as:List Addr},bP d=true->Reads h v d as->Reads h' v d as
 |.int i,v,as,hk,hr=>by cases hr;exact .int ..
 |.str i,v,as,hk,hr=>by cases hr;exact .str ..
 |.tuple xs,v,as,hk,hr=>by
  cases hr with
  |@tuple a o vs m _ _ ho hc hdat hall=>
   have j:a≠b:=λe=>by
    subst e;rw[n] at ho;cases ho;rw[hd] at hdat;cases hdat
   exact .tuple (by rw[l.2 a j];exact ho) hc hdat (pU n hd l xs hk hall)
 |.none,_,_,h,_=>by simp[bP] at h
 |.bool _,_,_,h,_=>by simp[bP] at h
 |.list _,_,_,h,_=>by simp[bP] at h
 |.dict _,_,_,h,_=>by simp[bP] at h
theorem pU{h h':Heap}{b:Addr}{ob:Obj}{es:Array yav}{ep:Nat}(e:h.get? b=some ob)(hd:ob.data=Data.dict es ep)(a:Heap.SameBut b h h'):∀(ds:List yam){vs:List yai}{as:List Addr},eF ds=true->ReadsAll h vs ds as->ReadsAll h' vs ds as
 |[],vs,as,hk,hr=>by cases hr;exact .nil
 |d::ds,vs,as,hk,hr=>by
  simp only[eF,zbN] at hk;cases hr with
  |cons hx hr=>exact .cons (sF e hd a d hk.1 hx) (pU e hd a ds hk.2 hr)
end
noncomputable def cz(prog:yaj)(w:yak):HeapKind prog w yam where
 is:=isKey
 hash:=bu w
 draws:=Vr
 room:=λA=>A.units+10<cLine
 inj:=λ⟨_,_,as,m⟩ ⟨_,_,bs,l⟩=>(Reads.unique m _ _ l).1
 keeps:=λ⟨h1,h2,as,e⟩ o hd j=>⟨h1,h2,as,sF o hd j _ h1 e⟩
 pyHash:=λn ⟨h1,h2,as,e⟩ h=>wF 6 _ h2 h1 e (by lia) h
 eqBool:=λ{A E s x y a b Q} n ⟨h1,h2,as,e⟩ ⟨i,t,bs,q⟩ h=>SeqAt.eqBoolOverData prog w A E s _ _ _ _ _ _ Q e q (gV _ h1) (gV _ i) (by lia) (by
  rw[oU _ _ h1 i];exact h)
 quiet:=λ⟨h1,h2,as,e⟩ h=>j7 8 _ (by lia) h1 e h
def gF(h:Heap)(d:Addr)(es:Array yav)(ep:Nat):Prop:=∃o,h.get? d=some o/\o.ExactDict/\o.data=Data.dict es ep
def gF.at(x:gF h d g ep)(e:∀o,h.get? d=some o->h'.get? d=some o):gF h' d g ep:=by let⟨o,a,r⟩:=x;refine⟨o,e o a,r⟩
section
variable {w:yak}
def gF.typeIs(x:gF s.heap d g ep):s.TypeIs (.ref d) "dict":=by let⟨o,a,e,_⟩:=x;refine⟨o,a,e.1⟩
def nextK(l:s.heap.IsKeyIter it d i g.size ep)(G:gF s.heap d g ep)(u:g[i]? =some k)(C:∀h',h'.IsKeyIter it d (i+1) g.size ep->Heap.SameBut it s.heap h'->r (some k.key) {s with heap:=h'}):yar (model prog w) A (pyNext (.ref it)) r E s:=by
 let⟨o,t,x,hd⟩:=id l;let⟨I,h,v,m⟩:=id G;have q:=Heap.IsKeyIter.typeIs l;refine yaa (wpAny_attempt (wpAny_callSpecial?_slot q F.slot_dict_keyiterator_next (wpAny_call_entry F.slot_dict_keyiterator_next q F.entry_dict_keyiterator_next ?_ (F.args_dict_keyiterator_next_1 _))));refine yaa (yab ?_);refine yaa ?_;refine yaa ?_;refine yaa (wpAny_typeNameOfWhole_keyiter q (yab ?_));have a:Builtin.Dict_items.ownsTuple "dict_keyiterator"=false:=by rfl
 refine yaa (wpAny_fieldsOf t hd ?_);refine yaa (yab ?_);refine yaa (wpAny_dictEntries h m ?_);rw[yIn (by simp)];refine yaa (yab ?_);refine yaa (wpAny_dictEpoch h m ?_);rw[yIn (by simp)];refine yab ?_;dsimp only;rw[show((i:Int)).toNat=i from zbs i,u];refine yaa (?_);refine yaa (wpAny_typeNameOfWhole_keyiter q (yab ?_));simp only[a];refine yaa (wpAny_isOneOf_keyiter q ?_);refine yaa (wpAny_setField t hd (by simp) ?_);refine yaa (yad ?_);have j:=zay (Obj.mapFields (·.setIfInBounds (0+1) (rawInt ((i+1:Nat):Int)))) t (Obj.isFreed_of_fields (Obj.data_mapFields hd _));have n:=(Obj.cls_mapFields o (·.setIfInBounds (0+1) (rawInt ((i+1:Nat):Int)))).trans x;refine yaa (wpAny_isOneOf_keyiter ⟨_,j,n⟩ ?_);refine yab (yab ⟨k.key,rfl,yab (C _ ?_ (Heap.SameBut.update ..))⟩);refine⟨_,j,n,by rw[Obj.data_mapFields hd];rfl⟩
def Ut(t:A.handled=none)(j:s.heap.IsKeyIter it d g.size g.size ep)(y:gF s.heap d g ep)(x:∀h',Heap.ExtBut it s.heap h'->k none {s with heap:=h'}):yar (model prog w) A (pyNext (.ref it)) k E s:=by
 let⟨o,q,H,hd⟩:=id j;let⟨C,i,u,l⟩:=id y;have n:=Heap.IsKeyIter.typeIs j;refine yaa (wpAny_attempt (wpAny_callSpecial?_slot n F.slot_dict_keyiterator_next (wpAny_call_entry F.slot_dict_keyiterator_next n F.entry_dict_keyiterator_next ?_ (F.args_dict_keyiterator_next_1 _))));refine yaa (yab ?_);refine yaa ?_;refine yaa ?_;refine yaa (wpAny_typeNameOfWhole_keyiter n (yab ?_));have h:Builtin.Dict_items.ownsTuple "dict_keyiterator"=false:=by rfl
 refine yaa (wpAny_fieldsOf q hd ?_);refine yaa (yab ?_);refine yaa (wpAny_dictEntries i l ?_);rw[yIn (by simp)];refine yaa (yab ?_);refine yaa (wpAny_dictEpoch i l ?_);rw[yIn (by simp)];refine yab ?_;dsimp only;rw[show((g.size:Int)).toNat=g.size from zbs _,zar (zcS _)];refine yaa ?_;refine yaa (wpAny_typeNameOfWhole_keyiter n (yab ?_));simp only[h];refine yaa (wpAny_setField q hd (by simp) ?_);refine yaa ?_;refine yaa (yae ?_ (by size_fits));refine yaa (wpAny_of_eq (by rfl) ?_);refine yae ?_ (by size_fits);simp only[raiseNew];refine yaa (wpAny_handled ?_)
 first|rw[show A.in1.handled=none from t]|rw[t]
 refine yaa (yab (wpAny_throw ?_));refine yaa (wpAny_isInstance ⟨_,zaO _ rfl,rfl⟩ isSubtype_stop ?_);refine yab (x _ (Heap.ExtBut.push (Heap.ExtBut.push ?_ _) _));exact λb G v e=>(zat _ _ (Ne.symm v)).trans e
def Nn(hd:(d==yas)=false)(i:gF s.heap d g ep)(l:Q (.ref s.heap.objs.size) {s with heap:=s.heap.push {cls:=.type "dict_keyiterator",data:=.fields #[.ref d,.int 0 0,.int g.size 0,.int ep 0]}}):yar (model prog w) A (pyIter (.ref d)) Q E s:=by
 let⟨m,a,j,e⟩:=id i;have h:=i.typeIs;refine wpAny_pyIter_slot h F.slot_dict_iter (wpAny_call_entry F.slot_dict_iter h F.entry_dict_iter ?_ (F.args_dict_iter_1 _));refine yaa (yaa (wpAny_notOrdered_dict h (yab ?_)));refine yaa (yab ?_);unfold Builtin.Dict.showsAll;rw[yIn (by simp_all)];refine yaa (yab ?_);refine yaa (wpAny_dictEntries a e ?_);refine yaa (wpAny_dictEpoch a e ?_);refine yaa (yae ?_ (by size_fits));exact yab ⟨_,rfl,"dict_keyiterator",_,⟨_,zaO _ rfl,rfl⟩,F.slot_dict_keyiterator_next.lookup,l⟩
def Od(C:A.handled=none)(I d:Addr)(t:d≠I)(es:Array yav)(ep:Nat):
  Walks prog w A I [I,d] [I] es.size (λi v=>∃e,es[i]? =some e/\v=e.key) (λi h=>h.IsKeyIter I d i es.size ep/\gF h d es ep) where
 sub:=λb j=>by simp_all
 frame:=λi h q a x=>⟨Heap.IsKeyIter.at a.1 λo e=>x I (by simp) o e,a.2.at λo e=>x d (by simp) o e⟩
 item:=λi s Q E y a n=>by
  have u:=zai y;refine nextK a.1 a.2 u λq m l=>n es[i].key q s.toks ⟨es[i],u,rfl⟩ ⟨m,a.2.at λo e=>by rw[l.2 d t];exact e⟩ λb o j e=>?_;rw[l.2 b (λz=>j (by simp[z]))];exact e
 done:=λs Q E a n=>Ut C a.1 a.2 λq F=>n q s.toks λb o j e=>F b o (λz=>j (by simp[z])) e
 self:=λi s Q E a n=>wpAny_pyIter_keyiter a.1 n
def Su(lo:(d==yas)=false):W.KdlSrc prog w "dict" d d g.size (λi v=>∃e,g[i]? =some e/\v=e.key) (λh=>gF h d g ep) where
 type:=λs a=>a.typeIs
 there:=λh a=>by let⟨o,j,_⟩:=a;exact⟨zcP j,zcP j⟩
 keep:=λh t a n=>a.at λo e=>n d (.inl rfl) o e
 notList:=by decide
 notTuple:=by decide
 hint:=λA E s Q a l=>W.kdl_hint_dict a.typeIs l
 iter:=λA s q a=>by
  have m:d<s.heap.objs.size:=by let⟨o,j,_⟩:=a;exact zcP j
  refine⟨_,_,λE Q l=>Nn lo a l,Od q s.heap.objs.size d (zcE m) g ep,⟨_,zaO _ rfl,rfl,rfl⟩,a.at λo e=>zas _ e⟩
def qK(lo:(d==yas)=false)(m:A.handled=none)(q:gF s.heap d g ep)(l:g.size<=yag)(h:∀(h':Heap)(tk:Nat),(∀b o,s.heap.get? b=some o->h'.get? b=some o)->R (g.toList.map (·.key)) {s with heap:=h',toks:=tk}):yar (model prog w) A (collect (.ref d)) R E s:=by
 refine W.kdu_collect (Su lo) m q l λh' tk j kp a=>?_;have:j.toList=g.toList.map (·.key):=by
  refine zbm λi=>?_;rw[zax,zbh,zax];cases z:j[i]? with
  |some v=>
   let⟨e,n,rfl⟩:=a.2 i v z;rw[n];rfl
  |none=>
   have:g.size<=i:=by rw[<-a.1];exact zac.mp z
   simp_all
 rw[this];exact h h' tk kp
end
mutual
noncomputable def gH:yam->yam->Bool
 |.int i,.int j=>decide (i<j)
 |.str i,.str j=>decide (i.cps.toList<j.cps.toList)
 |.tuple xs,.tuple ys=>cP xs ys
 |_,_=>false
noncomputable def cP:List yam->List yam->Bool
 |[],[]=>false
 |[],_::_=>true
 |_::_,[]=>false
 |x::xs,y::ys=>if x=y then cP xs ys else gH x y
end
mutual
noncomputable def cj:yam->yam->Bool
 |.int _,.int _=>true
 |.str _,.str _=>true
 |.tuple xs,.tuple ys=>fN xs ys
 |_,_=>false
noncomputable def fN:List yam->List yam->Bool
 |x::xs,y::ys=>cj x y&&fN xs ys
 |_,_=>true
end
theorem gA:∀{ds:List yam}{vs:List yai}{as:List Addr},ReadsAll d vs ds as->vs.length=ds.length
 |[],_,_,d=>by cases d;rfl
 |_::_,_,_,d=>by cases d with|cons _ r=>simp[gA r]
section
variable {w:yak}
theorem Lp:∀(n:Nat)(x y:yam){u v:yai}{as bs:List Addr}{A:yal}{E:yai->yah->Prop}{s:yah}{Q:yai->yah->Prop},x.depth<=n->y.depth<=n->bP x=true->bP y=true->cj x y=true->Reads s.heap u x as->Reads s.heap v y bs->A.units+n<cLine->
  Q (.bool (gH x y)) s->yar (model prog w) A (yan .Lt u v) Q E s:=by
 intro n
 induction n with
 |zero=>
  intro x y u v as bs A E s Q hx hy e Z C I S hu h;cases I with
  |int i t=>
   cases S with
   |int j t'=>exact wpAny_lt_int h
   |_=>simp[cj] at C
  |str i t=>
   cases S with
   |str j t'=>exact lt_str h
   |_=>simp[cj] at C
  |tuple ho C hd' hall=>rw[bD] at hx;lia
  |none=>simp[bP] at e
  |bool b=>simp[bP] at e
  |list _ _ _ _=>simp[bP] at e
  |dict _ _ _ _ _=>simp[bP] at e
 |succ n ih=>
  intro x y u v as bs A E s Q hx hy e Z C I S hu h;cases I with
  |int i t=>
   cases S with
   |int j t'=>exact wpAny_lt_int h
   |_=>simp[cj] at C
  |str i t=>
   cases S with
   |str j t'=>exact lt_str h
   |_=>simp[cj] at C
  |none=>simp[bP] at e
  |bool b=>simp[bP] at e
  |list _ _ _ _=>simp[bP] at e
  |dict _ _ _ _ _=>simp[bP] at e
  |@tuple a o us m xs as ho hcl hdat hall=>
   cases S with
   |@tuple b o2 vs m2 ys bs ho2 hcl2 hdat2 hall2=>
    have hT:=fq ho hcl;have U:=fq ho2 hcl2;rw[bD] at hx hy;show yar (model prog w) A (richCompare .Lt (.ref a) (.ref b)) Q E s;refine wpAny_richCompare_same_room hT U F.slot_tuple_lt ?_ (by lia);refine wpAny_call_entry F.slot_tuple_lt hT F.entry_tuple_lt ?_ (F.args_tuple_lt_2 _ _);refine yaa (yab ?_);refine yaa (wpAny_isInstance U isSubtype_tuple_tuple ?_);refine yaa (wpAny_tupleItemsOf ho hdat (yaa (wpAny_tupleItemsOf ho2 hdat2 (yaa ?_))));refine wpAny_forIn_list _ (λrest r W=>r.1=none/\W=s/\∃L H Y X P O,rest=Y.zip X/\ReadsAll s.heap Y L P/\ReadsAll s.heap X H O/\cP xs ys=cP L H/\(∀z∈L,z∈xs)/\(∀z∈H,z∈ys)/\fN L H=true/\us.size+H.length=vs.size+L.length) _ ?_ ?_ (us.toList.zip vs.toList) (none,())
     ⟨rfl,rfl,xs,ys,us.toList,vs.toList,_,_,rfl,hall,hall2,rfl,λ_ z=>z,λ_ z=>z,C,by
      have h1:=gA hall;have h2:=gA hall2;rw[zaN] at h1 h2;lia⟩
    ·rintro⟨p,q⟩ rest ⟨r1,r2⟩ W ⟨I,rfl,L,H,Y,X,P,O,hz,h1,h2,hl,m1,m2,G,l⟩;cases h1 with
     |nil=>simp at hz
     |@cons _ _ d1 ds1 a1 b1 g1 t1=>
      cases h2 with
      |nil=>simp at hz
      |@cons _ _ d2 ds2 a2 b2 g2 t2=>
       injection hz with e1 e2;injection e1 with e3 e4;subst e3;subst e4;subst e2;have n1:=m1 d1 (by simp);have n2:=m2 d2 (by simp);have k1:=fJ e d1 n1;have k2:=fJ Z d2 n2;have dd1:=cJ n1;have dd2:=cJ n2;simp only[fN,zbN] at G;refine yaa (SeqAt.eqBoolOverData prog w _ _ _ _ _ _ _ _ _ _ g1 g2 (gV _ k1) (gV _ k2) (by lia) ?_);rw[oU _ _ k1 k2];by_cases he:d1=d2
       ·rw[yDt he];refine yab ⟨rfl,rfl,ds1,ds2,_,_,_,_,rfl,t1,t2,?_,λz hz=>m1 z (zaz _ hz),λz hz=>m2 z (zaz _ hz),G.2,by simp only[zby] at l;lia⟩;rw[hl];simp only[cP];rw[yIp he]
       ·rw[yDf he];have hl2:cP xs ys=gH d1 d2:=by
         rw[hl];simp only[cP];rw[yIn he]
        refine yaa (wpAny_rule ?_);refine yaa (ih d1 d2 (by lia) (by lia) k1 k2 G.1 g1 g2 (by lia) ?_);refine yaa (yab (yab ?_));refine yab ⟨_,rfl,(λz=>by cases z),?_⟩;rw[<-hl2];exact h
    ·rintro⟨r1,r2⟩ W ⟨I,rfl,L,H,Y,X,P,O,hz,h1,h2,hl,m1,m2,G,l⟩;subst I;refine yab ⟨_,rfl,(λz=>by cases z),?_⟩;have Wk:decide (us.size<vs.size)=cP xs ys:=by
      rw[hl];cases h1 with
      |nil=>
       cases H with
       |nil=>exact yDf (by lia)
       |cons _ _=>simp only[zby,zbW] at l⊢;exact yDt (by lia)
      |cons g1 t1=>
       cases h2 with
       |nil=>simp only[zbW] at l⊢;exact yDf (by lia)
       |cons g2 t2=>simp at hz
     show Q (.bool (decide (us.size<vs.size))) W;rw[Wk];exact h
   |_=>simp[cj] at C
def Fs(b:Bool)(z:yam):Prop:=(b=false/\∃i,z=.int i)∨(b=true/\∃i,z=.str i)
def GV(n:Nat)(j:d.depth<=n)(i:g.depth<=n)(e:bP d=true)(a:bP g=true)(o:cj d g=true)(m:Reads s.heap u d as)(q:Reads s.heap k g bs)(l:A.units+n<cLine)(h:r (gH d g) s):yar (model prog w) A (PyProof.Rows.oneLt' false u k) r E s:=W.kat_one u k (Lp n d g j i e a o m q l h)
theorem xj{A:yal}{Q:Bool->yah->Prop}{s:yah}{m1 m2:Nat}:∀(e a:List yam){l j:List yai}{as bs:List Addr}(i:Nat),(∀z∈e,z.depth<=6)->(∀z∈a,z.depth<=6)->eF e=true->eF a=true->fN e a=true->ReadsAll s.heap l e as->ReadsAll s.heap j a bs->A.units+6<cLine->
  (i=0->∃b,Fs b (e.headD .none)/\Fs b (a.headD .none))->m1+a.length=m2+e.length->Q (cP e a) s->W.KatLex prog w A true (decide (m1<m2)) Q (l.zip j) i s
 |[],a,l,j,as,bs,i,d1,d2,k1,k2,hc,h1,h2,hu,h0,hm,h=>by
  cases h1;cases a with
  |nil=>rw[yDf (by lia)];exact h
  |cons _ _=>simp only[zbW,zby] at hm h;rw[yDt (by lia)];exact h
 |x::e,[],l,j,as,bs,i,d1,d2,k1,k2,hc,h1,h2,hu,h0,hm,h=>by
  cases h2;rw[List.zip_nil_right];simp only[zbW] at hm h;rw[yDf (by lia)];exact h
 |x::e,y::a,l,j,as,bs,i,d1,d2,k1,k2,hc,h1,h2,hu,h0,hm,h=>by
  simp only[eF,zbN] at k1 k2;simp only[fN,zbN] at hc;have G:=d1 x (by simp);cases h1 with
  |@cons u us _ _ a1 b1 g1 t1=>
   cases h2 with
   |@cons v vs _ _ a2 b2 g2 t2=>
    refine SeqAt.eqBoolOverData prog w _ _ _ _ _ _ _ _ _ _ g1 g2 (gV _ k1.1) (gV _ k2.1) (by lia) ?_;rw[oU _ _ k1.1 k2.1];simp only[cP] at h;by_cases m:x=y
    ·rw[yDt m];rw[yIp m] at h;exact xj e a (i+1) (λz hz=>d1 z (zaz _ hz)) (λz hz=>d2 z (zaz _ hz)) k1.2 k2.2 hc.2 t1 t2 hu (λz=>by lia) (by simp only[zby] at hm;lia) h
    ·rw[yDf m];rw[yIn m] at h;by_cases n:i=0
     ·let⟨b,E,C⟩:=h0 n;subst n;rcases E with⟨rfl,p,t⟩|⟨rfl,p,t⟩<;>rcases C with⟨z,q,o⟩|⟨z,q,o⟩<;>cases z
      ·cases(show x=_ from t);cases(show y=_ from o);cases g1;cases g2;exact W.kat_lt_int h
      ·cases(show x=_ from t);cases(show y=_ from o);cases g1;cases g2;exact PyProof.Rows.oneLt_str h
     ·have:(true&&i==0)=false:=by simp[n]
      rw[this];exact GV 6 G (d2 y (by simp)) k1.1 k2.1 hc.1 g1 g2 hu h
def dU{e:Type}(P:e->Prop)(n:Nat):W.KasT e->Prop
 |.ret a=>P a
 |.ask i j k=>i<n/\j<n/\∀b,dU P n (k b)
theorem dU.bind{e l:Type}{P:e->Prop}{R:l->Prop}{f:e->W.KasT l}:∀{t:W.KasT e},dU P n t->(∀a,P a->dU R n (f a))->dU R n (t.bind f)
 |.ret a,h,g=>g a h
 |.ask i j k,⟨h1,h2,h3⟩,g=>⟨h1,h2,λb=>dU.bind (h3 b) g⟩
def dY{p:Array Nat}(e:0<n)(a:p.Perm (zcX n).toArray)(x:Nat):p.getD x 0<n:=by
 rw[Srt.lB];cases z:p[x]? with
 |none=>exact e
 |some y=>
  have:=(a.mem_iff).mp (Array.mem_of_getElem? z);simp_all
theorem vt(e:0<n)(a:d.Perm (zcX n).toArray):∀(f x:Nat),dU (λ_=>True) n (W.kas_asc d f x)
 |0,x=>trivial
 |f+1,x=>⟨dY e a _,dY e a _,λb=>by
  cases b
  ·exact vt e a f (x+1)
  ·exact trivial⟩
theorem lF(a:0<n):∀(f:Nat){p:Array Nat}(x q:Nat),p.Perm (zcX n).toArray->dU (λr:Array Nat×Nat×Nat=>r.1.Perm (zcX n).toArray) n (W.kas_desc f p x q)
 |0,p,x,q,hp=>hp
 |f+1,p,x,q,hp=>⟨dY a hp _,dY a hp _,λb=>by
  cases b
  ·refine⟨dY a hp _,dY a hp _,λc=>?_⟩;cases c
   ·exact lF a f (x+1) (q+1) hp
   ·exact hp
  ·by_cases e:q> 0
   ·rw[yIp e];exact lF a f (x+1) 0 (Srt.dj.trans hp)
   ·rw[yIn e];exact lF a f (x+1) 0 hp⟩
def vO(h:0<n)(e:d.Perm (zcX n).toArray)(x m:Nat):dU (λr:Nat×Array Nat=>r.2.Perm (zcX n).toArray) n (W.kas_tail3 x m d):=
 dU.bind (vt h (Srt.dj.trans e) _ _) λa _=>Srt.dj.trans e
def lG(a:0<n)(i:d.Perm (zcX n).toArray)(x m:Nat):dU (λr:Nat×Array Nat=>r.2.Perm (zcX n).toArray) n (W.kas_descPart x m d):=
 dU.bind (lF a _ _ _ i) λr e=>by
  by_cases h:r.2.2> 0
  ·rw[yIp h];exact vO a (Srt.dj.trans e) _ _
  ·rw[yIn h];exact vO a e _ _
def Ea(e:0<n)(a:d.Perm (zcX n).toArray)(m:Nat):dU (λr:Nat×Array Nat=>r.2.Perm (zcX n).toArray) n (W.kas_count m d):=
 dU.bind (vt e a _ _) λx _=>by
  by_cases h:(x==m)=true
  ·rw[yIp h];exact a
  ·rw[yIn h];by_cases h2:x> 1
   ·rw[yIp h2];refine⟨dY e a _,dY e a _,λb=>?_⟩;cases b
    ·exact lG e (Srt.dj.trans a) _ _
    ·exact a
   ·rw[yIn h2];exact lG e a _ _
theorem m5(e:0<n)(a:d.Perm (zcX n).toArray)(k:Nat):∀(f l r:Nat),dU (λ_=>True) n (W.kas_place d k f l r)
 |0,l,r=>trivial
 |f+1,l,r=>by
  rw[W.kas_place.eq_2];by_cases h:l≥r
  ·rw[yIp h];exact trivial
  ·rw[yIn h];refine⟨dY e a _,dY e a _,λb=>?_⟩;cases b
   ·exact m5 e a k f _ _
   ·exact m5 e a k f _ _
theorem Cw(a:0<n):∀(f:Nat){p:Array Nat}(j:Nat),p.Perm (zcX n).toArray->dU (λr:Array Nat=>r.Perm (zcX n).toArray) n (W.kas_bin f p j)
 |0,p,j,hp=>hp
 |f+1,p,j,hp=>by
  exact dU.bind (m5 a hp _ _ _ _) λl _=>Cw a f (j+1) ((bubble_perm _ _ _).trans hp)
def vW(e:0<n):dU (λr:Array Nat=>r.Perm (zcX n).toArray) n (W.kas_sort n):=
 dU.bind (Ea e (Array.Perm.refl _) _) λr a=>by
  by_cases h:r.1<n
  ·rw[yIp h];exact Cw e _ _ a
  ·rw[yIn h];exact a
theorem wp_run{e:Type}{n:Nat}{P:e->Prop}{f:Nat->Nat->Bool}{cmp:Nat->Nat->(Bool->yah->Prop)->yah->Prop}{Q:e->yah->Prop}{s:yah}(l:∀i j C,i<n->j<n->C (f i j) s->cmp i j C s):∀{t:W.KasT e},dU P n t->Q (Srt.run f t) s->W.KasT.kasWp cmp t Q s
 |.ret a,h,q=>q
 |.ask i j k,⟨h1,h2,h3⟩,q=>l i j _ h1 h2 (wp_run l (h3 _) q)
theorem Br{e:Type}{P:e->Prop}:∀{t:W.KasT e},dU P d t->P (Srt.run g t)
 |.ret a,h=>h
 |.ask i j k,⟨_,_,h3⟩=>show P (Srt.run g (k (g i j))) from Br (h3 (g i j))
theorem run_eq{l:Type}{n:Nat}{P:l->Prop}{f g:Nat->Nat->Bool}:∀{t:W.KasT l},dU P n t->(∀i j,i<n->j<n->f i j=g i j)->Srt.run f t=Srt.run g t
 |.ret a,h,_=>rfl
 |.ask i j k,⟨h1,h2,h3⟩,e=>by
  show Srt.run f (k (f i j))=Srt.run g (k (g i j));rw[e i j h1 h2];exact run_eq (h3 _) e
def sG:((zcX vs.length).map λi=>vs.getD i Value.none)=vs:=by
 refine zbI (by simp) λi h1 h2=>?_;simp[zak h2]
noncomputable def cX(h:Heap)(a:Addr)(vs:List yai):Heap:=((h.update a (Obj.mapSeq λ_=>#[])).push (seqObj "tuple" vs.toArray 0)).push (seqObj "list" #[] 0)
def zU(f:Nat->Nat->Bool)(H:s.heap.get? a=some (seqObj "list" vs.toArray n))(I:vs.length<64)(hk:2<=vs.length->∃κ,(∀(Q:SortKind->yah->Prop),Q κ {s with heap:=cX s.heap a vs}->yar (model prog w) A (keyKind' vs.toArray) Q (λ_ _=>False) {s with heap:=cX s.heap a vs})/\∀i j C,i<vs.length->j<vs.length->C (f i j) {s with heap:=cX s.heap a vs}->W.kas_ask prog w A κ vs i j C {s with heap:=cX s.heap a vs})(h:∀p:Array Nat,p.Perm (zcX vs.length).toArray->(2<=vs.length->p=Srt.run f (W.kas_sort vs.length))->d (.done (.ret .none)) {s with heap:=sortedHeap s.heap a vs (p.toList.map λi=>vs.getD i Value.none).toArray}):
  yar (model prog w) A (Builtin.«list.sort» ⟨[.ref a],[]⟩) d E s:=by
 obtain⟨t,q⟩:∃t,(s.heap.update a (Obj.mapSeq λ_=>#[])).get? a=some (seqObj "list" #[] t):=⟨_,get?_update_seq H λ_=>#[]⟩
 have e:(cX s.heap a vs).get? a=some (seqObj "list" #[] t):=zas _ (zas _ q);have hz:vs.toArray.size<=yag:=by rw[zbf,yaf];lia
 rw[list_sort_plain a];refine yaa (listItems_at H rfl (yaa (listUpdate_at H rfl ?_ hz (zcT _))));refine yaa (seqEpoch_at q rfl (yaa (wpAny_newTuple ?_ (by simp_all))));refine yaa (wpAny_newList (yad ?_) (zcT _));by_cases h2:vs.length<2
 ·rw[yIp (by simp_all)];refine yaa (yab ?_);rw[yIp (by simp_all)];refine yaa (yab ?_);have S:((vs.toArray.zip vs.toArray).map (·.2))=((zcX vs.length).map λi=>vs.getD i Value.none).toArray:=by
   rw[List.zip_toArray,List.map_toArray,zbG (zcS _),sG]
  refine yaa (seqEpoch_at e rfl (yaa (listUpdate_at e rfl ?_ (zcT _) ?_)))
  ·rw[yIn (by simp)];refine yab ?_;have:=h (zcX vs.length).toArray (Array.Perm.refl _) (λz=>by lia);rw[<-S] at this;exact this
  ·rw[S,sG];lia
 ·rw[yIn (by simp_all)];let⟨κ,k1,Z⟩:=hk (by lia);refine yaa (yac (k1 (λo l=>o=κ/\l={s with heap:=cX s.heap a vs}) ⟨rfl,rfl⟩) (λo l z=>?_) (λ_ _ z=>z.elim));let⟨rfl,rfl⟩:=z;rw[yIn (by simp_all)];have m:=vW (n:=vs.length) (by lia);refine yaa (yac (W.kat_run (Q:=λu l=>∃p:Array Nat,(arrOf u).map (·.2)=(p.toList.map λi=>vs.getD i Value.none).toArray/\failedOf u=none/\p.Perm (zcX vs.length).toArray/\p=Srt.run f (W.kas_sort vs.length)/\l={s with heap:=cX s.heap a vs}) (G:=λp l=>(p.Perm (zcX vs.length).toArray/\p=Srt.run f (W.kas_sort vs.length))/\l={s with heap:=cX s.heap a vs}) rfl (by lia) I ?_ (wp_run Z m ⟨⟨Br m,rfl⟩,rfl⟩)) ?_ (λ_ _ z=>z))
  ·rintro p U l hp1 F y ⟨⟨x,v⟩,rfl⟩;refine⟨p,W.kat_snds rfl F,y,x,v,rfl⟩
  ·rintro⟨⟨⟩,u⟩ l ⟨p,O,Y,L,X,rfl⟩;refine yaa (seqEpoch_at e rfl (yaa (listUpdate_at e rfl ?_ (zcT _) ?_)))
   ·rw[Y];rw[yIn (by simp)];refine yab ?_;have:=h p L λ_=>X;rw[<-O] at this;exact this
   ·rw[O];have:=L.size_eq;rw[zbf,zbR,zaN,this,zbf,zbn,yaf];lia
mutual
theorem sE{h h':Heap}{b:Addr}{ob:Obj}(l:h.get? b=some ob)(hd:ob.cls≠ .type "tuple")(kp:∀c o,c≠b->h.get? c=some o->h'.get? c=some o):∀(d:yam){v:yai}{as:List Addr},bP d=true->Reads h v d as->Reads h' v d as
 |.int i,v,as,hk,hr=>by cases hr;exact .int ..
 |.str i,v,as,hk,hr=>by cases hr;exact .str ..
 |.tuple xs,v,as,hk,hr=>by
  cases hr with
  |@tuple a o vs m _ _ ho hc hdat hall=>
   have j:a≠b:=λe=>by
    subst e;rw[l] at ho;cases ho;exact hd hc
   exact .tuple (kp a o j ho) hc hdat (pT l hd kp xs hk hall)
 |.none,_,_,h,_=>by simp[bP] at h
 |.bool _,_,_,h,_=>by simp[bP] at h
 |.list _,_,_,h,_=>by simp[bP] at h
 |.dict _,_,_,h,_=>by simp[bP] at h
theorem pT{h h':Heap}{b:Addr}{ob:Obj}(a:h.get? b=some ob)(hd:ob.cls≠ .type "tuple")(kp:∀c o,c≠b->h.get? c=some o->h'.get? c=some o):∀(ds:List yam){vs:List yai}{as:List Addr},eF ds=true->ReadsAll h vs ds as->ReadsAll h' vs ds as
 |[],vs,as,hk,hr=>by cases hr;exact .nil
 |d::ds,vs,as,hk,hr=>by
  simp only[eF,zbN] at hk;cases hr with
  |cons hx hr=>exact .cons (sE a hd kp d hk.1 hx) (pT a hd kp ds hk.2 hr)
end
theorem gC{a e:Type}{f:a->e}:∀{ks:List a}{out:List e},out.Perm (ks.map f)->∃o':List a,o'.Perm ks/\out=o'.map f
 |[],out,h=>⟨[],.refl _,by simp_all⟩
 |k::ks,out,h=>by
  have q:f k∈out:=h.mem_iff.mpr (by simp);let⟨o,n,rfl⟩:=List.append_of_mem q;have h2:(o++n).Perm (ks.map f):=by
   have:=List.perm_middle.symm.trans h;simp_all
  let⟨o',j,i⟩:=gC h2;let⟨m,l,u,t,s⟩:=List.map_eq_append_iff.mp i.symm;subst u;refine⟨m++k::l,List.perm_middle.trans (j.cons k),?_⟩;grind
mutual
theorem Hq:∀x:yam,gH x x=false
 |.int i=>by simp only[gH];exact yDf (Int.lt_irrefl i)
 |.str i=>by simp only[gH];exact yDf (List.lt_irrefl _)
 |.tuple xs=>by simp only[gH];exact BR xs
 |.none=>by simp only[gH]
 |.bool _=>by simp only[gH]
 |.list _=>by simp only[gH]
 |.dict _=>by simp only[gH]
theorem BR:∀x:List yam,cP x x=false
 |[]=>by simp only[cP]
 |x::xs=>by simp only[cP];rw[yIp trivial];exact BR xs
end
def vo(h:cj (.int d) g=true):∃j,g=.int j:=by
 cases g<;>first|exact⟨_,rfl⟩|simp[cj] at h
def vn(h:cj (.str d) g=true):∃j,g=.str j:=by
 cases g<;>first|exact⟨_,rfl⟩|simp[cj] at h
def vm(h:cj (.tuple d) g=true):∃a,g=.tuple a/\fN d a=true:=by
 cases g<;>first|refine⟨_,rfl,h⟩|simp[cj] at h
mutual
theorem Ho:∀x y z:yam,cj x y=true->cj y z=true->cj x z=true->gH x y=true->gH y z=true->gH x z=true
 |.int i,y,z,a,b,_,h,g=>by
  obtain⟨j,rfl⟩:=vo a;obtain⟨k,rfl⟩:=vo b;simp only[gH,decide_eq_true_eq] at h g⊢;lia
 |.str i,y,z,a,b,_,h,g=>by
  obtain⟨j,rfl⟩:=vn a;obtain⟨k,rfl⟩:=vn b;simp only[gH,decide_eq_true_eq] at h g⊢;exact List.lt_trans h g
 |.tuple xs,y,z,a,b,c,h,g=>by
  obtain⟨l,rfl,a⟩:=vm a;obtain⟨e,rfl,b⟩:=vm b;simp only[gH] at h g⊢;exact Hl xs l e a b c h g
 |.none,_,_,a,_,_,_,_=>by simp[cj] at a
 |.bool _,_,_,a,_,_,_,_=>by simp[cj] at a
 |.list _,_,_,a,_,_,_,_=>by simp[cj] at a
 |.dict _,_,_,a,_,_,_,_=>by simp[cj] at a
theorem Hl:∀x y z:List yam,fN x y=true->fN y z=true->fN x z=true->cP x y=true->cP y z=true->cP x z=true
 |[],[],z,_,_,_,h,_=>by simp[cP] at h
 |[],y::ys,[],_,_,_,_,g=>by simp[cP] at g
 |[],y::ys,z::zs,_,_,_,_,_=>by simp only[cP]
 |x::xs,[],z,_,_,_,h,_=>by simp[cP] at h
 |x::xs,y::ys,[],_,_,_,_,g=>by simp[cP] at g
 |x::xs,y::ys,z::zs,a,b,c,h,g=>by
  simp only[fN,zbN] at a b c;simp only[cP] at h g⊢;by_cases i:x=y
  ·rw[yIp i] at h;subst i;by_cases e:x=z
   ·rw[yIp e] at g⊢;exact Hl xs ys zs a.2 b.2 c.2 h g
   ·rw[yIn e] at g⊢;exact g
  ·rw[yIn i] at h;by_cases e:y=z
   ·subst e;rw[yIn i];exact h
   ·rw[yIn e] at g;have t:=Ho x y z a.1 b.1 c.1 h g;rw[yIn (λj=>by subst j;rw[Hq] at t;cases t)];exact t
end
mutual
theorem zS:∀x y:yam,cj x y=true->x≠y->gH x y=true∨gH y x=true
 |.int i,y,a,n=>by
  obtain⟨j,rfl⟩:=vo a;have:i≠j:=λe=>n (by rw[e]);simp only[gH,decide_eq_true_eq];lia
 |.str i,y,a,n=>by
  obtain⟨j,rfl⟩:=vn a;simp only[gH,decide_eq_true_eq];by_cases h:i.cps.toList<j.cps.toList
  ·exact .inl h
  ·by_cases g:j.cps.toList<i.cps.toList
   ·exact .inr g
   ·refine absurd ?_ n;have e:i.cps.toList=j.cps.toList:=List.le_antisymm g h;obtain⟨i⟩:=i;obtain⟨j⟩:=j;have e:i.toList=j.toList:=e;rw[show i=j from Array.toList_inj.mp e]
 |.tuple xs,y,a,n=>by
  obtain⟨l,rfl,a⟩:=vm a;simp only[gH];exact BQ xs l a λe=>n (by rw[e])
 |.none,_,a,_=>by simp[cj] at a
 |.bool _,_,a,_=>by simp[cj] at a
 |.list _,_,a,_=>by simp[cj] at a
 |.dict _,_,a,_=>by simp[cj] at a
theorem BQ:∀x y:List yam,fN x y=true->x≠y->cP x y=true∨cP y x=true
 |[],[],_,n=>absurd rfl n
 |[],y::ys,_,_=>.inl (by simp only[cP])
 |x::xs,[],_,_=>.inr (by simp only[cP])
 |x::xs,y::ys,a,n=>by
  simp only[fN,zbN] at a;simp only[cP];by_cases e:x=y
  ·subst e;rw[yIp rfl,yIp rfl];exact BQ xs ys a.2 λe=>n (by rw[e])
  ·rw[yIn e,yIn (Ne.symm e)];exact zS x y a.1 e
end
noncomputable def V9(S:List yam)(i:∀x∈S,∀y∈S,cj x y=true):Srt.Ord {x // x∈S} where
 lt:=λa b=>gH a.1 b.1
 Wi:=λa=>Hq a.1
 tr:=λa b c h g=>Ho _ _ _ (i _ a.2 _ b.2) (i _ b.2 _ c.2) (i _ a.2 _ c.2) h g
 nt:=λa b c h=>by
  by_cases e:a.1=b.1
  ·simp_all
  ·obtain z|z:=zS _ _ (i _ a.2 _ b.2) e
   ·exact .inl z
   ·exact .inr (Ho _ _ _ (i _ b.2 _ a.2) (i _ a.2 _ c.2) (i _ b.2 _ c.2) z h)
theorem J1{o:List (yam×Addr)}(hok:∀k∈o,bP k.1=true)(Z:∀k∈o,∀l∈o,cj k.1 l.1=true)(I:g.Perm (zcX n).toArray)(L:n=o.length)(U:2<=n->g=Srt.run (λi j=>gH (o.getD i q).1 (o.getD j q).1) (W.kas_sort n)):
  (g.toList.map λi=>o.getD i q).Pairwise (λx y=>gH y.1 x.1=false):=by
 have Q:=by have:=I.size_eq;simpa using this
 rw[zah];intro i j t v Y;have E:=by simpa using t
 have u:=by simpa using v
 have h2:2<=n:=by lia
 have C:∀i∈g.toList,i<o.length:=λi t=>by
  have:=(Array.perm_iff_toList_perm.mp I).mem_iff.mp t;simp_all
 cases o with
 |nil=>simp at L;lia
 |cons m rest=>
  generalize P:(m::rest).map (·.1)=S;have F:∀x∈S,∀y∈S,cj x y=true:=λx s y H=>by
   grind
  have X:∀i,((m::rest).getD i m).1∈S:=λi=>by
   rw[<-P];refine zcD.mpr ⟨_,?_,rfl⟩;by_cases h:i<(m::rest).length
   ·simp_all
   simp_all
  let⟨G,e1,e2,e3⟩:=Srt.Kd (O:=V9 S F) (k:=λi=>⟨((m::rest).getD i m).1,X i⟩) (n:=n) (by lia);have eq:Srt.run (λi j=>gH ((m::rest).getD i q).1 ((m::rest).getD j q).1) (W.kas_sort n)=G:=by
   rw[<-e1];refine run_eq (vW (by lia)) λi j t v=>?_;have d:∀i,i<n->(m::rest).getD i q=(m::rest).getD i m:=λi t=>by
    simp_all
   show _=gH ((m::rest).getD i m).1 ((m::rest).getD j m).1;rw[d i t,d j v]
  obtain rfl:g=G:=(U h2).trans eq;have:=e3 i j (by lia) (by lia);have this:gH ((m::rest).getD (g.getD j 0) m).1 ((m::rest).getD (g.getD i 0) m).1=false:=this;simp_all
def JI(b:Bool)(h:Heap)(k:yam×Addr):Prop:=isKey h k.1 k.2/\∃p r,Fs b p/\k.1=.tuple (p::r)
def oY(h:Heap)(k:yam×Addr):Prop:=isKey h k.1 k.2/\∃p r,k.1=.tuple (.str p::r)
def oY.g(i:oY h k):JI true h k:=by let⟨a,p,r,e⟩:=i;refine⟨a,_,r,.inr ⟨rfl,p,rfl⟩,e⟩
noncomputable def tyB(b:Bool):String:=if b then "str" else "int"
def Ul(f:Fs d z)(g:Reads h k z as)(s:yah):s.TypeIs k (tyB d):=by
 rcases f with⟨rfl,p,rfl⟩|⟨rfl,p,rfl⟩
 ·cases g;exact typeIs_int s _ _
 ·cases g;exact typeIs_str s _ _
theorem xq:∀{ks:List (yam×Addr)},(∀k∈ks,JI g z k)->∃fs,W.KatTups z (ks.map λk=>.ref k.2) fs/\fs.length=ks.length/\∀f∈fs,∀s:yah,s.TypeIs f (tyB g)
 |[],_=>⟨[],.nil,rfl,by simp⟩
 |(d,a)::ks,hk=>by
  let⟨fs,h1,h2,u⟩:=xq λk n=>hk k (zaz _ n);let⟨⟨y,x,as,q⟩,p,r,t,e⟩:=hk (d,a) (by simp);subst e;cases q with
  |@tuple _ o vs m _ _ ho hc hdat hall=>
   generalize j:vs.toList=l at hall;cases hall with
   |@cons v l' _ _ a1 b1 g1 t1=>
    refine⟨v::fs,.cons ho hc hdat ?_ h1,by simp[h2],λf i=>?_⟩
    ·rw[<-zax,j];rfl
    ·obtain rfl|i:=zcp.mp i
     ·exact Ul t g1
     ·exact u f i
theorem Ml(P:∀k∈ks,JI d s.heap k)(hc:∀k∈ks,∀l∈ks,cj k.1 l.1=true)(Y:A.units+6<cLine)(i j:Nat)(C:Bool->yah->Prop)(F:i<ks.length)(E:j<ks.length)(h:C (gH ks[i].1 ks[j].1) s):
  W.kas_ask prog w A (tuples' true) (ks.map λk=>.ref k.2) i j C s:=by
 have L:=P ks[i] (zbJ F);have I:=P ks[j] (zbJ E);have a:=hc ks[i] (zbJ F) ks[j] (zbJ E);have e:∀n (O:n<ks.length),(ks.map λk=>Value.ref k.2).getD n Value.none=.ref ks[n].2:=λn O=>by simp[O]
 unfold W.kas_ask;rw[e i F,e j E];generalize ks[i]=x at L a h;generalize ks[j]=y at I a h;let⟨⟨X,v,as,Z⟩,p,r,f1,H⟩:=L;let⟨⟨U,u,bs,gr⟩,q,t,f2,G⟩:=I;let⟨dx,ax⟩:=x;let⟨dy,ay⟩:=y;subst H;subst G;rw[bD] at v u;cases Z with
 |@tuple _ o us m _ _ ho hcl hdat hall=>
  cases gr with
  |@tuple _ o2 vs m2 _ _ ho2 hcl2 hdat2 hall2=>
   have S:=gA hall;have Q:=gA hall2;rw[zaN] at S Q;exact W.kat_lt ho hdat ho2 hdat2 (xj _ _ 0 (λz hz=>by have:=cJ hz;lia) (λz hz=>by have:=cJ hz;lia) X U a hall hall2 Y (λ_=>⟨d,f1,f2⟩) (by lia) h)
def DO(i:b≠a)(e:h.get? b=some d):(cX h a vs).get? b=some d:=
 zas _ (zas _ ((zat _ _ (Ne.symm i)).trans e))
def nM{R:yah->Prop}(hh:A.handled=none)(hk:∀k∈ks,JI g s.heap k)(hc:∀k∈ks,∀l∈ks,cj k.1 l.1=true)(h64:ks.length<64)(hu:A.units+20<cLine)(col:∀{A':yal}{Q':List yai->yah->Prop}{U:yai->yah->Prop},A'.handled=none->(∀s1 (a:List (yam×Addr)),(∀g o,s.heap.get? g=some o->s1.heap.get? g=some o)->R s1->a.Perm ks->Q' (a.map λk=>Value.ref k.2) s1)->yar (model prog w) A' (collect (.ref d)) Q' U s)(h:∀(s1:yah)(h2:Heap)(out:List (yam×Addr))(c:Nat),R s1->(∀g o,s.heap.get? g=some o->s1.heap.get? g=some o)->(∀g o,s1.heap.get? g=some o->h2.get? g=some o)->h2.get? s1.heap.objs.size=some (seqObj "list" (out.map λk=>Value.ref k.2).toArray c)->out.Perm ks->out.Pairwise (λx y=>gH y.1 x.1=false)->Q (.ref s1.heap.objs.size) {s1 with heap:=h2}):
  yar (model prog w) A (call (.builtin "sorted") [.ref d]) Q E s:=by
 refine zaj kind_sorted plain_sorted entry_sorted (args_sorted1 _) ?_;refine yaa (yab ?_);refine yaa (col ?_ λs1 a kp hR n=>?_)
 ·exact hh
 have hol:=n.length_eq;generalize t:(a.map λk=>Value.ref k.2)=vs;have H:vs.length=a.length:=by rw[<-t,zbR]
 refine yaa (wpAny_newList ?_ (by first|(rw[yaf];lia)|(rw[zbf,yaf];lia)));have S:(s1.heap.push (seqObj "list" vs.toArray 0)).get? s1.heap.objs.size=some (seqObj "list" vs.toArray 0):=zaO _ rfl;have F:∀k∈a,JI g (cX (s1.heap.push (seqObj "list" vs.toArray 0)) s1.heap.objs.size vs) k:=λk u=>by
  obtain⟨⟨k1,k2,as,hr⟩,r⟩:=hk k (n.mem_iff.mp u);exact⟨⟨k1,k2,as,sE S (λz=>by lia) (λc o Z e=>DO Z e) _ k1 (Reads.keeps (λg o e=>zas _ (kp g o e)) hr)⟩,r⟩
 have O:=λk h1 l h2=>hc k (n.mem_iff.mp h1) l (n.mem_iff.mp h2);generalize ab:(PyData.none,(0:Addr))=df;have key:∀(A':yal),A'.units+8<cLine->∀{P:PySem.Fin->yah->Prop}{U:yai->yah->Prop},(∀p,p.Perm (zcX vs.length).toArray->(2<=vs.length->p=Srt.run (λi j=>gH (a.getD i df).1 (a.getD j df).1) (W.kas_sort vs.length))->P (.done (.ret .none)) {s1 with heap:=sortedHeap (s1.heap.push (seqObj "list" vs.toArray 0)) s1.heap.objs.size vs (p.toList.map λi=>vs.getD i Value.none).toArray})->
   yar (model prog w) A' (Builtin.«list.sort» ⟨[.ref s1.heap.objs.size],[]⟩) P U {s1 with heap:=s1.heap.push (seqObj "list" vs.toArray 0)}:=λA' hA P U hP=>by
  refine zU _ S (by lia) (λh2=>⟨tuples' true,λQ' hQ'=>?_,?_⟩) hP
  ·let⟨fs,f1,f2,f3⟩:=xq F;rw[t] at f1;cases g<;>exact W.kat_kind f1 (by lia) (λv hv A2 Q2 E2 s2 _ q=>wpAny_typeOf (f3 v hv s2) q) (by decide) hQ'
  ·intro i j C G hj hC;have e:∀i (G:i<a.length),a.getD i df=a[i]:=λi G=>by simp[G]
   rw[e i (by lia),e j (by lia)] at hC;have:=Ml (prog:=prog) (w:=w) (A:=A') F O (by lia) i j C (by lia) (by lia) hC;rw[t] at this;exact this
 refine yaa (yad (wpAny_call_entry slot_list_sort ⟨_,S,rfl⟩ entry_list_sort (key _ ?_ λp hp I=>⟨_,rfl,?_⟩) (args_list_sort _)))
 ·lia
 ·obtain⟨c,Y⟩:=sortedHeap_at S;have L:p.toList.Perm (zcX a.length):=by have:=Array.perm_iff_toList_perm.mp hp;simp_all
  have X:∀i∈p.toList,i<a.length:=λi G=>zcj.mp (L.mem_iff.mp G);have eo:(p.toList.map λi=>vs.getD i Value.none)=(p.toList.map λi=>a.getD i df).map λk=>Value.ref k.2:=by
   rw[zcC];refine zaK λi G=>?_;have:=X i G;rw[<-t];simp[this]
  refine yab ⟨_,rfl,h s1 _ (p.toList.map λi=>a.getD i df) c hR kp (λg o e=>?_) (by rw[<-eo];exact Y) ?_ (J1 (λk u=>(F k u).1.1) O hp H I)⟩
  ·have lb:=zcP e;rw[sortedHeap_old (zcE lb) (by rw[size_push'];exact zbp lb)];exact zas _ e
  ·refine(L.map _).trans ?_;have:(zcX a.length).map (λi=>a.getD i df)=a:=by
    refine zbI (by simp) λi h1 h2=>?_;simp[zak h2]
   rw[this];exact n
end
end M6
namespace L2
open PySem PySem.Spec PyProof.Rows M6
def nY(W:yak)(a:Addr)(e:List (yam×Addr)):Heap->Prop:=λh=>(a==yas)=false/\∃o i j,h.get? a=some o/\o.ExactDict/\o.data=Data.dict i j/\
 i.toList=e.map (λx=>({hash:=bu W x.1,key:=.ref x.2,val:=.bool true}:yav))/\(e.map (·.1)).Nodup
def nY.at(x:nY W a d h)(e:∀o,h.get? a=some o->h'.get? a=some o):nY W a d h':=by
 let⟨z,o,j,l,h1,r⟩:=x;refine⟨z,o,j,l,e o h1,r⟩
def nY.ok(x:nY W a d h):aQ P w H h a (.ext (nY W a d)):=by
 let⟨z,o,j,l,h1,r⟩:=id x;refine⟨x,⟨o,h1⟩,λh1 h2 y e=>y.at e⟩
def oS(x:aQ P w H h a (.ext (nY W b d))):b=a:=by
 obtain⟨y,⟨o,e⟩,n⟩:=x;apply Classical.byContradiction;intro i;let⟨z,C,L,O,h1,h2,I,r⟩:=id y;have t:(h.update b λ_=>{cls:=.none}).get? a=some o:=(zat _ _ i).trans e;have s:=zay (λ_=>{cls:=.none}) h1 rfl;let⟨_,E,u,v,j,G,q,_⟩:=n h (h.update b λ_=>{cls:=.none}) y λF l=>by simp_all
 simp_all
noncomputable def zx(a:List (yam×Addr))(d:yam)(b:Addr):List (yam×Addr):=if(a.any λx=>decide (x.1=d))=true then a else a++[(d,b)]
def wH(a:List (yam×Addr))(d:yam)(b:Addr):storedH (a.map λx=>(x.1,x.2,Value.bool true)) d b (.bool true)=(zx a d b).map λx=>(x.1,x.2,Value.bool true):=by
 have e:(atKey (a.map λx=>(x.1,x.2,Value.bool true)) d).isSome=(a.any λx=>decide (x.1=d)):=by
  unfold atKey;grind
 unfold storedH zx;rw[e];by_cases h:(a.any λx=>decide (x.1=d))=true
 ·rw[yIp h,yIp h,zcC];refine zaK λx _=>?_;simp only[Function.comp,putAt];simp
 ·rw[yIn h,yIn h,zbZ];rfl
section
variable {σ:St}
def tN(K:yaI)(H:Hp)(a:List (yam×Addr)):Prop:=∀x∈a,bP x.1=true/\x.1.depth<=6/\bJ K H x.1 (.ref x.2)
def Inv.key(I:Inv X pins σ H s)(h1:bP d=true)(h2:d.depth<=6)(a:bJ X.K H d (.ref b)):isKey s.heap d b:=
 ⟨h1,h2,I.reads d (.ref b) (.ref b) a rfl⟩
def DJ(hu:A.units+20<cLine)(I:Inv X pins σ H s)(e:H a=some (.ext (nY X.w a g)))(hk:tN X.K H g)(h1:bP d=true)(h2:d.depth<=6)(h3:bJ X.K H d (.ref b))(hl:g.length<1000)(h:∀s',Inv X pins σ (upd H a (.ext (nY X.w a (zx g d b)))) s'->k () s'):yar (model X.prog X.w) A (setItem (.ref a) (.ref b) (.bool true)) k E s:=by
 obtain⟨⟨z,o,es,ep,Z,W,hd,m,hn⟩,_,_⟩:=(show aQ X.prog X.w H s.heap a (.ext (nY X.w a g)) from I.hok a _ e)
 have dd:Heap.DictOfH (cz X.prog X.w) s.heap a (g.map λx=>(x.1,x.2,Value.bool true)):=by
  refine⟨o,es,ep,Z,W,hd,?_,λx l=>?_,?_⟩
  ·rw[m,zcC];rfl
  ·let⟨y,U,rfl⟩:=zcD.mp l;let⟨S,P,O⟩:=hk y U;exact I.key S P O
  ·rw[zcC];exact hn
 refine wpAny_setItem_heap (show A.units+1+10<cLine by lia) (I.key h1 h2 h3) dd λh' j Y=>h _ ?_;rw[wH] at j;let⟨q,n,t,v,G,F,C,_,u⟩:=j;have L:nY X.w a (zx g d b) h':=⟨z,q,n,t,v,G,F,by rw[C,zcC];rfl,by rw[zcC] at u;exact u⟩
 exact lJ I (by rw[e];exact True.intro) Y ⟨q,v⟩ L.ok
end
def EX(W:yak):TE:=λ_ H Q=>∀p,H p=none->Q (.ref p) (upd H p (.ext (nY W p [])))
def M4(K:yaI)(W:yak)(m ty l:TE):TS:=λD e H=>l e H λv o=>m e o λx n=>ty e n λy i=>∃(a j b:Addr)(h:List (yam×Addr))(d:yam),v=.bl true/\x=.ref a/\y=.ref b/\i a=some (.ext (nY W j h))/\
 tN K i h/\bP d=true/\d.depth<=6/\bJ K i d (.ref b)/\h.length<1000/\(j=a->D.nx e (upd i a (.ext (nY W a (zx h d b)))))
theorem jr{a:Type}(f:a->Addr):∀l:List a,Vals (l.map λx=>V.ref (f x)) (l.map λx=>Value.ref (f x))
 |[]=>.nil
 |x::l=>.cons rfl (jr f l)
section
variable {o i:Expr}{td ty tv:TE}
def kY:PE X (.Dict [] [] pos) (EX X.w):=λe s j H Q I h=>
 wpAny_Dict_empty ⟨.ref s.heap.objs.size,_,I.laid (a:=s.heap.objs.size) (o:=.ext (nY X.w s.heap.objs.size [])) (t':=s.toks) (λ_ _ q=>zas _ q) (zcS _) (nY.ok ⟨beq_eq_false_iff_ne.mpr (Ne.symm (zcE I.big)),_,#[],0,zaO _ rfl,⟨rfl,rfl,rfl⟩,rfl,rfl,List.nodup_nil⟩),rfl,h _ (I.hok.fresh (zcS _))⟩
def kT(hu:X.A.units+20<cLine)(ho:PE X o td)(hi:PE X i ty)(hv:PE X value tv)(hs:yat value (some (.Subscript o i pos')) pos.line X.env=pure false):
  PS X (.Assign [.Subscript o i pos'] value pos) (M4 X.K X.w td ty tv):=by
 intro j s l H D I h;refine wpAny_Assign_Subscript (bW (hv j s l H _ I h) λr G q=>?_) hs;let⟨v,H1,I1,P,Q⟩:=q;refine bW (ho j G l H1 _ I1 Q) λu F n=>?_;let⟨x,H2,I2,O,q2⟩:=n;refine bW (hi j F l H2 _ I2 q2) λZ E m=>?_;let⟨y,H3,t,L,a,a',b,C,d,ev,ex,ey,e,Y,W,U,S,k5,q3⟩:=m;subst ev ex ey;obtain rfl:u=Value.ref a:=O;obtain rfl:Z=Value.ref b:=L;obtain rfl:r=Value.bool true:=P;obtain rfl:=oS (show aQ X.prog X.w H3 E.heap a (.ext (nY X.w a' C)) from t.hok a _ e);exact DJ hu t e Y W U S k5 λs4 I4=>⟨l,_,I4,q3 rfl⟩
end
end L2
namespace M6
open PySem PySem.Spec PyProof.Rows
section
variable {w:yak}
def HG{es:Array yav}(a:ItemsOf (λi v=>∃e,es[i]? =some e/\v=e.key) d es.size):d.toList=es.toList.map (·.key):=by
 refine zbm λi=>?_;rw[zax,zbh,zax];cases z:d[i]? with
 |some v=>
  let⟨e,j,rfl⟩:=a.2 i v z;rw[j];rfl
 |none=>
  have:es.size<=i:=by rw[<-a.1];exact zac.mp z
  simp_all
def vU(t:A.handled=none)(lo:(d==yas)=false)(u:gF s.heap d g ep)(i:IntsAre (g.toList.map (·.key)) ns)(v:g.size<64)(h:∀(h1 h2:Heap)(tk:Nat)(out:List yai)(a:List Int)(c:Nat),(∀b o,s.heap.get? b=some o->h1.get? b=some o)->(∀b o,h1.get? b=some o->h2.get? b=some o)->h2.get? h1.objs.size=some (seqObj "list" out.toArray c)->IntsAre out a->a.Perm ns->a.Pairwise (· <=·)->Q (.ref h1.objs.size) {s with heap:=h2,toks:=tk}):
  yar (model prog w) A (call (.builtin "sorted") [.ref d]) Q E s:=by
 refine zaj kind_sorted plain_sorted entry_sorted (args_sorted1 _) ?_;refine yaa (yab ?_);refine yaa (qK lo ?_ u (by rw[yaf];lia) λh1 tk kp=>?_)
 ·exact t
 have j:(g.toList.map (·.key)).length=g.size:=by simp
 generalize (g.toList.map (·.key))=vs at i j;refine yaa (wpAny_newList ?_ (by first|(rw[yaf];lia)|(rw[zbf,yaf];lia)));have n:(h1.push (seqObj "list" vs.toArray 0)).get? h1.objs.size=some (seqObj "list" vs.toArray 0):=zaO _ rfl;refine yaa (yad (wpAny_call_entry slot_list_sort ⟨_,n,rfl⟩ entry_list_sort (list_sort_tree n i (by lia) λout a C y x=>⟨_,rfl,?_⟩) (args_list_sort _)));let⟨c,l⟩:=sortedHeap_at (out:=out) n;refine yab ⟨_,rfl,h h1 _ tk out.toList a c kp (λb o e=>?_) (by simp_all) C y x⟩;have q:=zcP e;rw[sortedHeap_old (zcE q) (by rw[size_push'];exact zbp q)];exact zas _ e
end
end M6
namespace L2
open PySem PySem.Spec PyProof.Rows M6
def Qt(h:qu k u=true):RelV (kV k) u:=by
 rcases bL h with⟨i,t,rfl,rfl⟩|⟨x,t,rfl,rfl⟩
 ·exact⟨t,rfl⟩
 ·exact⟨t,rfl⟩
theorem qq{prog:yaj}{w:yak}:∀{kvs:List (Key×V)}{vs:List (Key×yai)}{es:List yav},KV kvs vs->Pairs (bA prog w) es vs->Vals (kvs.map λp=>kV p.1) (es.map (·.key))
 |[],_,es,h1,h2=>by cases h1;cases h2;exact .nil
 |p::kvs,_,es,h1,h2=>by
  cases h1 with
  |cons r t=>
   cases h2 with
   |cons g1 g2 g3=>
    refine .cons ?_ (qq t g3);show RelV (kV p.1) _;rw[r.1];exact Qt g1
theorem xA:∀{ns:List Int}{us:List yai},Vals (ns.map V.int) us->IntsAre us ns
 |[],us,h=>by cases h;exact .nil
 |n::ns,us,h=>by
  cases h with
  |cons r t=>
   let⟨a,rfl⟩:=r;exact .cons n a (xA t)
def Px:List V->Hp->VK->Prop:=λh H Q=>∃(a:Addr)(e:List (Key×V)),h=[.ref a]/\H a=some (.dK e)/\∀p,H p=none->Q (.ref p) (upd H p (.lst (e.map λx=>kV x.1)))
def Pw:List V->Hp->VK->Prop:=λi H Q=>∃(a:Addr)(h:List (Key×V))(ns:List Int),i=[.ref a]/\H a=some (.dK h)/\(h.map λx=>kV x.1)=ns.map V.int/\ns.length<64/\∀p (e:List Int),H p=none->e.Perm ns->e.Pairwise (· <=·)->Q (.ref p) (upd H p (.lst (e.map V.int)))
def Py(h:Bool):R2:=λy x H Q=>∃a e k,x=.ref a/\y=kV k/\H a=some (.dK e)/\Q (.bl (h != (iz e k).isSome)) H
def zq(I:Inv X pins d H s)(e:H a=some (.dK kvs)):(a==yas)=false/\kvs.length<=yag/\∃es ep,gF s.heap a es ep/\Vals (kvs.map λx=>kV x.1) (es.toList.map (·.key)):=by
 let⟨z,hd,vs,i,o,es,ep,n,l,h,t,m,q⟩:=Cf I.hok e;refine⟨hd,z,es,ep,⟨o,n,l,h⟩,qq i m⟩
def Am(y:aT k X.A):b5 X (.type "list") Px:=by
 intro m s G H L O Q I r h;let⟨a,i,rfl,e,q⟩:=h;let⟨u,rfl,ru⟩:=vals1 r;cases ru;let⟨lo,hz,t,S,E,n⟩:=zq I e;have C:t.size=i.length:=by have:=n.length;simp_all
 refine W.kdl_call (Su lo) y.hd E (by simp_all) λP v l c kp g j=>?_;refine⟨.ref s.heap.objs.size,_,I.laid (o:=.lst (i.map λx=>kV x.1)) kp (zcS _) ⟨by simp_all,l.toList,c,by rw[(HG j)];exact n,by exact g⟩,rfl,q _ (I.hok.fresh (zcS _))⟩
def Al(F:aT k X.A):b5 X (.builtin "sorted") Pw:=by
 intro i s C H U W Q I r h;let⟨a,E,ns,rfl,e,G,v,q⟩:=h;let⟨u,rfl,ru⟩:=vals1 r;cases ru;let⟨lo,hz,O,Z,L,t⟩:=zq I e;rw[G] at t;have Y:O.size=ns.length:=by have:=t.length;simp_all
 refine vU F.hd lo L (xA t) (by lia) λh1 h2 l out j c n m g S x P=>?_;have y:Inv X i C H {s with heap:=h1,toks:=l}:=I.kept n;refine⟨.ref h1.objs.size,_,y.laid (o:=.lst (j.map V.int)) m (zcS _) ⟨by rw[zbR,x.length_eq,yaf];lia,out,c,rY S,g⟩,rfl,q _ j (y.hok.fresh (zcS _)) x P⟩
def P1(n:X.A.units+1<cLine):iy X (yan .In) (Py false):=by
 intro j s t H y x v u Q I l m h;let⟨a,i,k,rfl,rfl,e,q⟩:=h;obtain rfl:u=Value.ref a:=m;exact Wn n I (rg.k e) l λC o=>⟨.bl (iz i k).isSome,H,o,rfl,by simpa using q⟩
def DB(n:X.A.units+1<cLine):iy X (yan .NotIn) (Py true):=by
 intro j s t H y x v u Q I l m h;let⟨a,i,k,rfl,rfl,e,q⟩:=h;obtain rfl:u=Value.ref a:=m;exact LR n I (rg.k e) l λC o=>⟨.bl (!(iz i k).isSome),H,o,rfl,by simpa using q⟩
end L2
namespace M6
open PySem PySem.Spec PyProof.Rows
def DN:typeLookup (.type "list") (Str.ofString "keys")=pure none:=by rfl
section
variable {w:yak}
def DT(m:s.heap.get? a=some {cls:=.type "list",data:=.seq r k})(H:A.handled=none)(h:∀(h':Heap)(tk:Nat),(∀b o,s.heap.get? b=some o->h'.get? b=some o)->z none {s with heap:=h',toks:=tk}):yar (model prog w) A (getAttr? (.ref a) (Str.ofString "keys")) z E s:=by
 have v:=sub_AttributeError;have S:=PySem.F.slot_list_getattribute.lookup;have P:=PySem.F.slot_list_getattribute.bind (Value.ref a);let⟨q,g,d,tk,os⟩:=s;unfold getAttr? getAttrBy? getAttrBy getAttrByItsOwn callGetattribute boundAndCalled;generalize G:@PySem.call=C
 wp_walk
 subst G;refine call_meets PySem.F.slot_list_getattribute ⟨_,m,rfl⟩ am_entry_list_getattribute (PySem.F.args_list_getattribute_2 (Value.ref a) (Value.str (Str.ofString "keys") tk)) (meets_getattribute_miss_list a r k #[] (Str.ofString "keys") tk DN (by rfl)) ⟨m,H,λh' i e j=>?_⟩;let⟨t,u,y⟩:=j.there;have l:Shared.TypeIs ⟨h',g,d,i,os⟩ (.ref e) "AttributeError":=⟨_,y,rfl⟩
 refine yaa (wpAny_isInstance l v ?_);refine yaa (wpAny_of_eq am_list_getattr_none ?_);refine yaa (wpAny_throw ?_);refine yaa (wpAny_isInstance l v ?_);exact yab (h h' i j.keeps)
end
def sV:entryFor table "dict.update.loop"=some Builtin.«dict.update.loop»:=entryFor_of_tree (by rfl)
def jy:plainId "dict.update.loop"=true:=by decide+kernel
noncomputable def bY{K:Type}[DecidableEq K](ps:List (K×yai)):List (K×yai):=ps.foldl (λa p=>stored a p.1 p.2) []
section
variable {w:yak}{K:Type}[DecidableEq K]{knd:KeyKind prog w K}
def kC(knd:KeyKind prog w K)(h:Heap)(v:yai)(p:K×yai):Prop:=∃t a o n,v=.ref t/\h.get? t=some o/\o.cls=.type "tuple"/\o.data=.seq #[a,p.2] n/\knd.is p.1 a=true
def kC.at(x:kC knd h d g)(e:∀b o,o.cls=.type "tuple"->h.get? b=some o->h'.get? b=some o):kC knd h' d g:=by
 let⟨t,i,o,n,h1,h2,a,j⟩:=x;refine⟨t,i,o,n,h1,e t o a h2,a,j⟩
def lE(x:Heap.DictOf knd h d g)(e:∀o,h.get? d=some o->h'.get? d=some o):Heap.DictOf knd h' d g:=by
 let⟨o,a,i,h1,r⟩:=x;refine⟨o,a,i,e o h1,r⟩
def yO(kvs:List (K×yai))(k:K)(v:yai):(stored kvs k v).length<=kvs.length+1:=by
 unfold stored;split
 ·simp
 simp
def pF(ps:List (K×yai))(p:K×yai):bY (ps++[p])=stored (bY ps) p.1 p.2:=by
 unfold bY;simp
def rA(ps:List (K×yai)):(bY ps).length<=ps.length:=by
 have:∀(l e:List (K×yai)),(l.foldl (λe p=>stored e p.1 p.2) e).length<=e.length+l.length:=by
  intro l
  induction l with
  |nil=>simp
  |cons a r ih=>intro e;rw[zbX,zby];have:=ih (stored e a.1 a.2);have:=yO e a.1 a.2;lia
 have:=this ps [];simpa[bY] using this
theorem DQ{d:Addr}{ps:List (K×yai)}{R:Result->yah->Prop}{St:Nat->Heap->Prop}(W:Walks prog w A.in1 I [I,l] [I] its.size (λi v=>its[i]? =some v) St)(hSt:∀i h,St i h->∀o,h.get? I=some o->o.cls≠ .type "tuple")(u:d≠I)(Y:d≠l)(G:its.size=ps.length)(hn:ps.length<=1000):
  ∀(k i:Nat)(s:yah),its.size - i=k->i<=its.size->St i s.heap->Heap.DictOf knd s.heap d (bY (ps.take i))->(∀(i:Nat)(v:yai)(p:K×yai),its[i]? =some v->ps[i]? =some p->kC knd s.heap v p)->
   (∀(h':Heap)(tk:Nat),Heap.DictOf knd h' d (bY ps)->(∀b o,b≠d->b≠I->s.heap.get? b=some o->h'.get? b=some o)->R (.ok (.ret .none)) {s with heap:=h',toks:=tk})->
   codeAny (model prog w) A (.builtin "dict.update.loop" ⟨[.ref d,.ref I,rawInt i,.none],[]⟩) R s:=by
 intro k
 induction k with
 |zero=>
  intro i s hk hi a P hp hR;obtain rfl:i=its.size:=by lia
  refine codeAny_builtin sV ?_;refine yaa (W.done s _ _ a λh' tk x=>?_);rw[G,zbD] at P;exact yab (hR h' tk (lE P λo e=>x d o (by simp_all) e) λb o h1 h2 e=>x b o (by simp_all) e)
 |succ k ih=>
  intro i s hk hi a P hp hR;have F:i<its.size:=by lia
  refine codeAny_builtin sV ?_;refine yaa (W.item i s _ _ F a λv h' tk hP y x=>?_);have C:ps[i]? =some ps[i]:=zak (by omega);have E:=λj v p h1 h2=>(hp j v p h1 h2).at λb o q e=>x b o (by
   grind) e
  let⟨t,ku,o,m,rfl,ho,q,hd,X⟩:=E i v _ hP C;have H:=lE P λo e=>x d o (by simp_all) e;refine yaa (yad ?_);refine yaa (wpAny_tryCatch ?_);refine yaa (wpAny_typeOf ⟨o,ho,q⟩ ?_);refine yaa (wpAny_seqItems ho hd (yab ?_));have h2:=rA (ps.take i);rw[zbz] at h2;refine yad (wpAny_dictSet_pairs X H (λn L hs=>?_) (by rw[yaf];lia));have e9:∀b o,b≠d->h'.get? b=some o->n.get? b=some o:=λb o O e=>(hs.2 b O).trans e;refine yab ⟨plainId_quiet jy _,?_⟩;refine ih (i+1) {s with heap:=n,toks:=tk+1} (by lia) F (W.frame _ h' n y λb O o e=>e9 b o ?_ e) ?_ (λj v p h1 h2=>(E j v p h1 h2).at λb o q e=>e9 b o ?_ e) λh3 Q hD3 S=>hR h3 Q hD3 λb o h1 h2 e=>S b o h1 h2 (e9 b o h1 (x b o (by simp_all) e))
  ·grind
  ·rw[List.take_succ,C];show Heap.DictOf knd n d (bY (ps.take i++[ps[i]]));rw[pF];exact L
  ·intro z;subst z;let⟨od,_,_,U,Z,_⟩:=H;rw[U] at e;cases e;rw[Z.1] at q;lia
def An(U:A.handled=none)(S:s.heap.get? l=some {cls:=.type "list",data:=.seq its g})(x:its.size=d.length)(X:∀(i:Nat)(v:yai)(p:K×yai),its[i]? =some v->d[i]? =some p->kC knd s.heap v p)(Z:d.length<=1000)(h:∀(h':Heap)(tk:Nat),Heap.DictOf knd h' s.heap.objs.size (bY d)->(∀b o,s.heap.get? b=some o->h'.get? b=some o)->Q (.ref s.heap.objs.size) {s with heap:=h',toks:=tk}):
  yar (model prog w) A (call (.type "dict") [.ref l]) Q E s:=by
 refine callType_codes PySem.F.kt_called_dict (PySem.F.kt_typeCall_dict_1 (.ref l)) PySem.F.entry_dict_init (kt_code_dict_new (.ref l) (Q₁:=λu j=>u=.ref s.heap.objs.size/\j={s with heap:=s.heap.push {cls:=.type "dict",data:=.dict #[]}}) ⟨rfl,rfl⟩) λobj j z=>?_;let⟨rfl,rfl⟩:=z;have a:Heap.DictOf knd (s.heap.push {cls:=Value.type "dict",data:=Data.dict #[]}) s.heap.objs.size []:=Heap.DictOf.new s.heap;have n:(s.heap.push {cls:=Value.type "dict",data:=Data.dict #[]}).get? l=some {cls:=.type "list",data:=.seq its g}:=zas _ S;refine⟨Heap.DictOf.typeIs a,PySem.F.args_dict_init_2 _ _,?_⟩;refine yaa (yaa (wpAny_notOrdered_dict (Heap.DictOf.typeIs a) (yab ?_)));refine yaa (wpAny_typeOf ⟨_,n,rfl⟩ ?_);refine yaa (DT n U λh1 W m=>?_);refine yaa (wpAny_rule ?_);have y:h1.IsList l its:=⟨_,m _ _ n,rfl,g,rfl⟩
 refine yaa (wpAny_pyIter_list y ?_);have C:=lE a λo e=>m _ _ e;refine yab ⟨plainId_quiet jy _,?_⟩;have G:s.heap.objs.size<h1.objs.size:=by let⟨o,_,_,Y,_⟩:=C;exact zcP Y
 have O:=zcP S;have q:=λb o e=>m b o (zas _ e);refine DQ (Walks.list (A:=A.in1.in1) U h1.objs.size l (zcE (zcI O G)) its) (λi h z o e=>?_) (zcE G) (zcH O) x Z its.size 0 _ rfl (zcT _) ⟨⟨_,zaO _ rfl,rfl,rfl⟩,y.at λo e=>zas _ e⟩ (lE C λo e=>zas _ e) (λi v p h2 h3=>(X i v p h2 h3).at λb o _ e=>zas _ (q b o e)) λh' tk L H=>⟨rfl,h h' tk L λb o e=>?_⟩
 ·let⟨o',t,I,_⟩:=z.1;lia
 ·have P:=zcP e;exact H b o (zcE P) (zcE (zcI P G)) (zas _ (q b o e))
end
end M6
namespace L2
open PySem PySem.Spec PyProof.Rows M6
noncomputable def putAll(kvs:List (Key×V)):List (Key×V):=kvs.foldl (λa p=>putK a p.1 p.2) []
theorem pX:∀{kvs:List (Key×V)}{vs:List (Key×yai)},KV kvs vs->∀{a:List (Key×V)}{b:List (Key×yai)},KV a b->KV (kvs.foldl (λe p=>putK e p.1 p.2) a) (vs.foldl (λe p=>stored e p.1 p.2) b)
 |[],_,h,a,b,g=>by cases h;exact g
 |p::kvs,_,h,a,b,g=>by
  cases h with
  |@cons _ q _ vs r t=>
   show KV (kvs.foldl _ (putK a p.1 p.2)) (vs.foldl _ (stored b q.1 q.2));rw[<-r.1];exact pX t (g.put p.1 r.2)
def zw(kvs:List (Key×V)):(putAll kvs).length<=kvs.length:=by
 have:∀(l e:List (Key×V)),(l.foldl (λe p=>putK e p.1 p.2) e).length<=e.length+l.length:=by
  intro l
  induction l with
  |nil=>simp
  |cons a r ih=>intro e;rw[zbX,zby];have:=ih (putK e a.1 a.2);have:=fX e a.1 a.2;lia
 have:=this kvs [];simpa[putAll] using this
def RH(K:yaI)(H:Hp)(ts:List Addr)(kvs:List (Key×V)):Prop:=Paired (λt (p:Key×V)=>eS K H t [kV p.1,p.2]) ts kvs
def PB(K:yaI):List V->Hp->VK->Prop:=λi H Q=>∃(a:Addr)(h:List Addr)(e:List (Key×V)),i=[.ref a]/\H a=some (.lst (h.map V.ref))/\RH K H h e/\e.length<=1000/\∀p,H p=none->Q (.ref p) (upd H p (.dK (putAll e)))
theorem sD:∀{ts:List Addr}{us:List yai},Vals (ts.map V.ref) us->us=ts.map Value.ref
 |[],us,h=>by cases h;rfl
 |t::ts,us,h=>by
  cases h with
  |cons r g=>
   obtain rfl:_=Value.ref t:=r;rw[sD g];rfl
theorem GJ(I:Inv X d k w z):∀{ts:List Addr}{kvs:List (Key×V)},RH X.K w ts kvs->∃ps:List (Key×yai),KV kvs ps/\ps.length=ts.length/\∀(i:Nat)(v:yai)(p:Key×yai),(ts.map Value.ref)[i]? =some v->ps[i]? =some p->kC (bA X.prog X.w) z.heap v p
 |[],_,h=>by cases h;refine⟨[],.nil,rfl,λi v p h=>by simp at h⟩
 |t::ts,_,h=>by
  cases h with
  |@cons _ q _ kvs r g=>
   let⟨ps,h1,h2,E⟩:=GJ I g;obtain⟨x,a,⟨o,y,C,n,hd⟩,_⟩:=I.tuple r;cases a with
   |@cons _ ku _ its' g1 a=>
    cases a with
    |@cons _ u _ its'' g2 a=>
     cases a;refine⟨(q.1,u)::ps,.cons ⟨rfl,g2⟩ h1,by simp[h2],λi v p l j=>?_⟩;cases i with
     |zero=>
      simp only[zcq,List.getElem?_cons_zero,zcW.injEq] at l j;subst l;subst j;refine⟨t,ku,o,n,rfl,y,C,hd,nS g1⟩
     |succ i=>
      exact E i v p l j
def Ao(F:aT k X.A):b5 X (.type "dict") (PB X.K):=by
 intro m s P H S U Q I r h;let⟨a,x,j,rfl,e,G,Y,q⟩:=h;let⟨u,rfl,ru⟩:=vals1 r;cases ru;let⟨hz,its,c,C,g⟩:=(show aQ X.prog X.w H s.heap a (.lst (x.map V.ref)) from I.hok a _ e)
 have t:=sD C;let⟨ps,n,E,p3⟩:=GJ I G;have W:=Paired.length n;refine An F.hd g (by simp_all) (λi v p h1 h2=>p3 i v p (by rw[<-t];simpa using h1) h2) (by lia) λL y O kp=>?_;refine⟨.ref s.heap.objs.size,_,I.laid (o:=.dK (putAll j)) kp (zcS _) ⟨by have:=zw j;rw[yaf];lia,beq_eq_false_iff_ne.mpr (Ne.symm (zcE I.big)),_,pX n .nil,O⟩,rfl,q _ (I.hok.fresh (zcS _))⟩
end L2
namespace M
open PySem PySem.Spec PyProof.Rows L2 M6
noncomputable def keyOf:D->Option Key
 |.int i=>some (.inl i)
 |.str x=>some (.inr x)
 |_=>none
noncomputable def kD:Key->D
 |.inl i=>.int i
 |.inr x=>.str x
noncomputable def lK(ks:List Key)(k:Key):Bool:=ks.any λj=>decide (j=k)
def oK(h:Rep K w d v)(e:keyOf d=some k):v=kV k:=by
 cases d<;>simp only[keyOf] at e<;>cases e
 ·simpa[Rep,kV] using h
 ·simpa[Rep,kV] using h
def Kr(h:Rep K w d v)(e:keyOf (aP S d)=some k):v=kV k:=by
 cases z:aP S d<;>rw[z] at e<;>simp only[keyOf] at e<;>cases e
 ·exact cG h z
 ·exact bU h z
def HC(k:Key):Rep K w (kD k) (kV k):=by cases k<;>simp[kD,kV,Rep]
theorem BV:∀(kvs:List (Key×V)),ao K w ((kvs.map (·.1)).map kD) (kvs.map λx=>kV x.1)
 |[]=>.nil
 |p::r=>.cons (HC p.1) (BV r)
def AB:AE:=λ_ S Q=>Q (.new (.dct [] [])) S
def KI:∀a H Q,aO K AB a H Q->EY a H Q:=by
 intro a H Q z p e;let⟨w,h,S,i,ok,env,q,bk⟩:=z;exact bk (.new (.dct [] [])) S _ w _ .refl (ok.alloc e) (ok.fresh e ⟨[],rfl,rfl,.nil⟩) q
def kB(a b:AE):AE:=λe S Q=>a e S λl m=>b e m λj i=>∃ks h k d,aP i l.d=.dct ks h/\keyOf j.d=some k/\gh ks h k=some d/\Q (.dat d) i
def KL:∀m H Q,aO K (kB g r) m H Q->E1 (aO K g) (aO K r) m H Q:=by
 intro m H Q z;let⟨w,s,S,Qa,ok,env,q,bk⟩:=z;refine⟨w,s,S,_,ok,env,q,.go λX L U y H1 l o h C=>?_⟩;refine⟨y,s,L,_,o,env.le l,C,.go λW Z P O H2 j i e n=>?_⟩;let⟨ks,Y,k,d,x,u,t,q2⟩:=n;let⟨g,E,rfl,h1,rfl,F⟩:=fh i (h.le j) x;let⟨v,I,G⟩:=oQ F t;rw[oK e u];refine⟨g,v,rfl,?_,bk.dat (l.trans j) i G q2⟩;rw[<-I];exact rg.k h1
def nC(a b c:AE):AS:=λD e S=>c e S λj q=>a e q λm o=>b e o λl i=>∃n ks h k,m.d=.loc n/\keyOf l.d=some k/\i[n]? =some (some (.dct ks h))/\h.length<1000/\D.nx e (i.set n (some (ja ks h k j.d)))
def KG{a b c:AE}:∀D t H,fU K (nC a b c) D t H->Gb (aO K a) (aO K b) (aO K c) D t H:=by
 intro D t H z;let⟨w,u,S,Da,ok,env,q,bk⟩:=z;refine⟨w,u,S,_,ok,env,q,.go λr3 Y Z P H1 i C l Q=>?_⟩;refine⟨P,u,Y,_,C,env.le i,Q,.go λr1 X v1 O H2 h y j q2=>?_⟩;refine⟨O,u,X,_,y,(env.le i).le h,q2,.go λr2 S3 v2 w3 H3 e o m v=>?_⟩;let⟨n,ks,W,k,L,I,F,hl,q3⟩:=v;rw[L] at j;let⟨a,E,rfl,U,h1,rfl,G⟩:=vh o (j.le e) F;rw[oK m I];have s:E.length=W.length:=by have:=G.length;simp_all
 refine⟨a,_,rfl,EE.k h1 (by rw[yaf];lia),?_⟩;exact bk.nx u _ t w3 _ ((i.trans h).trans e) (o.put F U (pW (k:=k) (l.le (h.trans e)) G)) (((env.le i).le h).le e) q3
def Az(a:Bool):A2:=λx y S Q=>match aP S y with
 |.dct ks _=>∃k,keyOf (aP S x)=some k/\Q (.dat (.bl (a != lK ks k))) S
 |_=>False
def NC:∀x y H Q,Ak K (Az neg) x y H Q->Py neg x y H Q:=by
 intro x y H Q h;let⟨w,d,e,S,s,ok,m,l,q,bk⟩:=h;unfold Az at q;cases z:aP S e<;>rw[z] at q<;>first|exact q.elim|skip
 let⟨k,j,q⟩:=q;let⟨a,i,rfl,h1,rfl,o⟩:=fh ok l z;refine⟨a,i,k,rfl,Kr m j,h1,bk.dat .refl ok .bl ?_⟩;have n:lK (i.map (·.1)) k=(iz i k).isSome:=by
  unfold lK;rw[zcA];exact pA k i
 rw[<-n];exact q
def Rp:AN:=λe S Q=>∃d ks a,e=[d]/\aP S d=.dct ks a/\Q (.new (.lst (ks.map kD))) S
def Rk:AN:=λh S Q=>∃d e,∃ns:List Int,h=[d]/\aP S d=.dct (ns.map Sum.inl) e/\ns.length<64/\∀a:List Int,a.Perm ns->a.Pairwise (· <=·)->Q (.new (.lst (a.map D.int))) S
noncomputable def yE(a:List Key×List D)(p:Key×D):List Key×List D:=if lK a.1 p.1=true then(a.1,(a.1.zip a.2).map λx=>if x.1=p.1 then p.2 else x.2) else(a.1++[p.1],a.2++[p.2])
noncomputable def oj(ps:List (Key×D)):List Key×List D:=ps.foldl yE ([],[])
def Ru:AN:=λe S Q=>∃d,∃a:List (Key×D),e=[d]/\aP S d=.lst (a.map λp=>.tup [kD p.1,p.2])/\a.length<=1000/\Q (.new (.dct (oj a).1 (oj a).2)) S
def Co(a:List Key×List D)(p:Key×D):ja a.1 a.2 p.1 p.2=.dct (yE a p).1 (yE a p).2:=by
 unfold ja yE lK;split<;>rfl
theorem xP{w:Wd}:∀{ps:List (Key×D)}{kvs:List (Key×V)},Paired (λ(p:Key×D)(q:Key×V)=>p.1=q.1/\Rep K w p.2 q.2) ps kvs->∀{a:List Key×List D}{b:List (Key×V)},b.map (·.1)=a.1->ao K w a.2 (b.map (·.2))->
  (kvs.foldl (λe p=>putK e p.1 p.2) b).map (·.1)=(ps.foldl yE a).1/\ao K w (ps.foldl yE a).2 ((kvs.foldl (λe p=>putK e p.1 p.2) b).map (·.2))
 |[],_,h,a,b,g1,g2=>by cases h;simp_all
 |p::ps,_,h,a,b,g1,g2=>by
  cases h with
  |@cons _ q _ kvs r t=>
   have i:=pW (k:=p.1) r.2 g2;rw[g1] at i;rw[show ja a.1 a.2 p.1 p.2=_ from Co a p] at i;let⟨l,j,n,m⟩:=i;injection j with j;subst j;rw[r.1] at n m;exact xP t n m
theorem sM(ok:Ok K w d g):∀{ps:List (Key×D)}{a:List V},ao K w (ps.map λp=>D.tup [kD p.1,p.2]) a->∃ts kvs,a=ts.map V.ref/\RH K d ts kvs/\Paired (λ(p:Key×D)(q:Key×V)=>p.1=q.1/\Rep K w p.2 q.2) ps kvs
 |[],a,h=>⟨[],[],by simpa[ao] using h,.nil,.nil⟩
 |p::ps,a,h=>by
  obtain⟨x,r,rfl,h1,h2⟩:=h;obtain⟨ts,kvs,rfl,s,o⟩:=sM ok h2;obtain⟨t,v,rfl,n,e⟩:=h1;obtain⟨j,C,rfl,m,i,y,rfl,l,rfl⟩:=e;have u:j=kV p.1:=oK m (by cases p.1<;>rfl);subst u;exact⟨t::ts,(p.1,i)::kvs,rfl,.cons (eS.same ok.base n) s,.cons ⟨rfl,l⟩ o⟩
section
variable {o i:Expr}
theorem fG:GE X (.Dict [] [] pos) AB:=⟨mE L2.fG KI⟩
def cE(a:X.A.units+1<cLine)(h:GE X o ta)(j:GE X i tb)(e:yw i):GE X (.Subscript o i pos) (kB ta tb):=⟨mE (L2.dB a h.p j.p e) KL⟩
def gB(h:X.A.units+1<cLine)(l:GE X o ta)(m:GE X i tb)(e:GE X value d)(j:yat value (some (.Subscript o i pos')) pos.line X.env=pure false):GS X (.Assign [.Subscript o i pos'] value pos) (nC ta tb d):=
 ⟨mS (L2.kU h l.p m.p e.p j) KG⟩
def TR(a:aT k X.A):rS X (yan .In) (Az false):=⟨m2 (P1 (bV a)) NC⟩
def wM(a:aT k X.A):rS X (yan .NotIn) (Az true):=⟨m2 (DB (bV a)) NC⟩
def Lh(m:aT k X.A):vG X (.type "list") Rp:=⟨mC (Am m) λn H Q h=>by
 let⟨w,u,S,x,ok,rep,⟨d,ks,t,rfl,z,q⟩,bk⟩:=h;let⟨v,rfl,l⟩:=eY rep;let⟨a,e,rfl,h1,rfl,s⟩:=fh ok l z;refine⟨a,e,rfl,h1,λp j=>bk (.new (.lst _)) S _ w _ .refl (ok.alloc j) (ok.fresh j ⟨_,rfl,BV e⟩) q⟩⟩
def BO(n:aT k X.A):vG X (.builtin "sorted") Rk:=⟨mC (Al n) λy H Q h=>by
 let⟨w,F,S,G,ok,rep,⟨d,E,ns,rfl,z,s,q⟩,bk⟩:=h;let⟨v,rfl,m⟩:=eY rep;let⟨a,e,rfl,h1,h2,C⟩:=fh ok m z;refine⟨a,e,ns,rfl,h1,?_,s,λp j l u t=>bk (.new (.lst _)) S _ w _ .refl (ok.alloc l) (ok.fresh l ⟨_,rfl,jv j⟩) (q j u t)⟩;have:(e.map λx=>kV x.1)=(e.map (·.1)).map kV:=by rw[zcC];rfl
 rw[this,h2,zcC];rfl⟩
def uM(x:aT k X.A):vG X (.type "dict") Ru:=⟨mC (Ao x) λs H Q h=>by
 let⟨w,G,S,I,ok,rep,⟨d,j,rfl,z,F,q⟩,bk⟩:=h;let⟨v,rfl,u⟩:=eY rep;let⟨a,s,rfl,h1,h2⟩:=bK ok u z;let⟨t,e,rfl,y,n⟩:=sM ok h2;have m:=Paired.length n;let⟨E,C⟩:=xP n (a:=([],[])) (b:=[]) rfl .nil;refine⟨a,t,e,rfl,h1,y,by lia,λp l=>bk (.new (.dct (oj j).1 (oj j).2)) S _ w _ .refl (ok.alloc l) (ok.fresh l ⟨_,rfl,E,C⟩) q⟩⟩
end
def nF(W:yak)(ks:List D):Addr->List Addr->Heap->Prop:=λa bs=>nY W a ((ks.map py).zip bs)
noncomputable def nO(W:yak)(ks:List D):MO:=.Ic (nF W ks) ks
def cO(d:D):Prop:=b8 d=true/\bP (py d)=true/\(py d).depth<=6/\∃a,d=.tup a
noncomputable def putN(ks:List D)(k:D):List D:=if(ks.any λj=>decide (py j=py k))=true then ks else ks++[k]
def i8(ok:Ok K w H S)(h:Rep K w d v)(g:cO d):∃b,v=.ref b/\bJ K H (py d) (.ref b):=by
 obtain⟨a,j,i,l,rfl⟩:=g;have h2:=h;let⟨b,e,rfl,_⟩:=h2;have:=uo ok h (by simpa[aP] using a);refine⟨b,rfl,by simpa[aP] using this⟩
theorem iX{w:Wd}{H:Hp}{S:aA}(ok:Ok K w H S):∀{ks:List D}{bs:List Addr},ao K w ks (bs.map V.ref)->(∀k∈ks,cO k)->tN K H ((ks.map py).zip bs)
 |[],bs,_,_=>λx i=>by simp at i
 |k::ks,[],h,_=>by let⟨_,_,z,_⟩:=h;cases z
 |k::ks,b::bs,h,g=>by
  let⟨x,r,e,h1,h2⟩:=h;injection e with e1 e2;subst e1;subst e2;intro y a;obtain rfl|a:=zcp.mp a
  ·let⟨l,e,hd⟩:=i8 ok h1 (g k (by simp));cases e;refine⟨(g k (by simp)).2.1,(g k (by simp)).2.2.1,hd⟩
  ·exact iX ok h2 (λk j=>g k (zaz _ j)) y a
def Jb(W:yak):AE:=λ_ S Q=>Q (.new (nO W [])) S
def KH:∀a H Q,aO K (Jb W) a H Q->EX W a H Q:=by
 intro a H Q z p e;let⟨w,h,S,i,ok,env,q,bk⟩:=z;exact bk (.new (nO W [])) S _ w _ .refl (ok.alloc e) (ok.fresh e ⟨p,[],rfl,.nil⟩) q
def IV(W:yak)(a b c:AE):AS:=λD e S=>c e S λj o=>a e o λl m=>b e m λh i=>∃n ks,j.d=.bl true/\l.d=.loc n/\i[n]? =some (some (nO W ks))/\cO h.d/\(∀k∈ks,cO k)/\ks.length<1000/\D.nx e (i.set n (some (nO W (putN ks h.d))))
def GD(h:g.length=bs.length):∃a,zx ((g.map py).zip bs) (py k) b=((putN g k).map py).zip a/\(a=bs/\putN g k=g∨a=bs++[b]/\putN g k=g++[k]):=by
 have e:(((g.map py).zip bs).any λx=>decide (x.1=py k))=(g.any λj=>decide (py j=py k)):=by
  have:((g.map py).zip bs).map (·.1)=g.map py:=zbF (by rw[zbR];lia);have h1:(((g.map py).zip bs).any λx=>decide (x.1=py k))=((((g.map py).zip bs).map (·.1)).any λd=>decide (d=py k)):=by rw[zcA];rfl
  rw[h1,this,zcA];rfl
 unfold zx putN;rw[e];by_cases i:(g.any λj=>decide (py j=py k))=true
 ·rw[yIp i,yIp i];refine⟨bs,rfl,.inl ⟨rfl,rfl⟩⟩
 ·rw[yIn i,yIn i];refine⟨bs++[b],?_,.inr ⟨rfl,rfl⟩⟩;rw[zbZ,List.zip_append (by simp_all)];rfl
def OU:∀D v H,fU K (IV W d g k) D v H->M4 K W (aO K d) (aO K g) (aO K k) D v H:=by
 intro D v H z;let⟨w,x,S,Da,ok,env,q,bk⟩:=z;refine⟨w,x,S,_,ok,env,q,.go λr3 S1 v3 Z H1 j F s q1=>?_⟩;refine⟨Z,x,S1,_,F,env.le j,q1,.go λr1 S2 v1 Y H2 o E h q2=>?_⟩;refine⟨Y,x,S2,_,E,(env.le j).le o,q2,.go λC S3 v2 w3 H3 m i l y=>?_⟩;let⟨n,ks,X,U,L,G,g2,hl,q3⟩:=y;rw[U] at h;let⟨d,P,rfl⟩:=h.le m;let⟨a1,u,O,k2,k3,Q,bs,rfl,k5⟩:=i.live n _ L;rw[P] at O;cases O;let⟨g,rfl,hb⟩:=i8 i l G;have t:ks.length=bs.length:=by have:=k5.length;simp_all
 refine⟨d,Q,g,_,py C.d,?_,rfl,rfl,k3,iX i k5 g2,G.2.1,G.2.2.1,hb,?_,λe=>?_⟩
 ·rw[mZ s X]
 ·rw[zca];lia
 ·subst e;obtain⟨I,e1,e2⟩:=GD t;rw[e1];refine bk.nx x _ v w3 _ ((j.trans o).trans m) (i.put L P (o':=nO W (putN ks C.d)) ⟨Q,I,rfl,?_⟩) (((env.le j).le o).le m) q3;rcases e2 with⟨rfl,e⟩|⟨rfl,e⟩
  ·rw[e];exact k5
  ·rw[e,zbZ];exact k5.snoc l
theorem tP{w:Wd}:∀{ks:List D}{bs:List Addr},ao K w ks (bs.map V.ref)->∀x∈ks.zip bs,Rep K w x.1 (.ref x.2)
 |[],_,_,x,a=>by simp at a
 |_::_,[],_,x,a=>by simp at a
 |k::ks,b::bs,h,x,a=>by
  let⟨y,r,e,h1,h2⟩:=h;injection e with e1 e2;subst e1;subst e2;obtain rfl|a:=zcp.mp a
  ·exact h1
  ·exact tP h2 x a
theorem f7:∀{o:List (D×Addr)},(∀x∈o,Rep K w x.1 (.ref x.2))->ao K w (o.map (·.1)) (o.map λx=>V.ref x.2)
 |[],_=>.nil
 |x::o,h=>.cons (h x (by simp)) (f7 λy a=>h y (zaz _ a))
section
variable {o i:Expr}
theorem kY:GE X (.Dict [] [] pos) (Jb X.w):=⟨mE L2.kY KH⟩
theorem kT(j:aT k X.A)(l:GE X o ta)(m:GE X i tb)(e:GE X value d)(h:yat value (some (.Subscript o i pos')) pos.line X.env=pure false):GS X (.Assign [.Subscript o i pos'] value pos) (IV X.w ta tb d):=
 ⟨mS (L2.kT (by have:=j.units;lia) l.p m.p e.p h) OU⟩
end
def EL(h:H a=some d):upd H a d=H:=by
 funext b;by_cases e:b=a
 ·subst e;rw[bN,h]
 ·rw[aM e]
inductive AR(p:Nat)(ks:List Key):List D->aA->List D->aA->Prop
 |nil {ds:List D}{S:aA}:AR p ks ds S ds S
 |step {ds ds' es:List D}{S S':aA}{m:Nat} (h:S[m]? =some (some (.lst es))) (hm:m≠p) (t:AR p ks (ds.map (sb m (.lst es))) ((S.set m none).set p (some (.dct ks (ds.map (sb m (.lst es)))))) ds' S'):AR p ks ds S ds' S'
def LJ{p:Nat}{ks:List Key}{l:List D}{S':aA}(h:AR p ks ds S l S'):∀{w:Wd}{H:Hp},S[p]? =some (some (.dct ks ds))->Ok K w H S->∃C,w.le C/\Ok K C H S':=by
 induction h with
 |nil=>exact λ_ ok=>⟨_,.refl,ok⟩
 |@step ds l es S S' m hS hm t ih=>
  intro w H n ok;let⟨y,e,q,f⟩:=QG ok hS;have O:p<S.length:=by
   grind
  have x:(S.set m none)[p]? =some (some (.dct ks ds)):=by rw[zaB hm];exact n
  let⟨a,u,L,P,I,j,rfl,k5,G⟩:=ok.live p _ n;have F:lV K y (.dct ks (ds.map (sb m (.lst es)))) (.dK j):=⟨j,rfl,k5,yX e f G⟩
  have i:=q.put x (e.r _ _ L) F;rw[EL I] at i;let⟨E,s,o⟩:=ih (by simp_all) i;refine⟨E,e.trans s,o⟩
def IZ(a:AE):AE:=λl S Q=>a l S λr j=>∃p ks h e i,r=.dat (.loc p)/\j[p]? =some (some (.dct ks h))/\AR p ks h j e i/\Q (.dat (.loc p)) i
def O7:∀i H Q,aO K (IZ d) i H Q->aO K d i H Q:=by
 intro i H Q z;let⟨w,o,S,L,ok,env,q,bk⟩:=z;refine⟨w,o,S,_,ok,env,q,λr I v s O n m e j=>?_⟩;let⟨p,ks,F,C,G,y,x,u,t⟩:=j;subst y;let⟨E,h,l⟩:=LJ u x m;exact bk.dat (n.trans h) l (e.le h) t
def Um(h:GE X e d):GE X e (IZ d):=⟨mE h.p O7⟩
end M
namespace M7
open PySem PySem.Spec PyProof.Rows M5
def oq(a:Array Nat):Prop:=∀i j,i<j->(e:j<a.size)->(h:i<a.size)->a[i]<a[j]
theorem qQ{e:Array Nat}(l:oq e)(j:Nat):∀(f lo a:Nat),a - lo<=f->lo<=a->a<=e.size->(∀i (h:i<e.size),i<lo->e[i]<j)->(∀i (h:i<e.size),a<=i->j<=e[i])->
  SetTable.below.go e j f lo a<=e.size/\(∀i (h:i<e.size),i<SetTable.below.go e j f lo a->e[i]<j)/\∀i (h:i<e.size),SetTable.below.go e j f lo a<=i->j<=e[i]
 |0,lo,a,h1,h2,h3,h4,h5=>by
  have:a=lo:=by lia
  subst this;refine⟨h3,h4,h5⟩
 |f+1,lo,a,h1,h2,h3,h4,h5=>by
  rw[SetTable.below.go.eq_2];by_cases q:lo<a
  ·rw[yIp q];dsimp only;have m:(lo+a) / 2<e.size:=by lia
   have s:e.getD ((lo+a) / 2) j=e[(lo+a) / 2]:=by simp[m]
   rw[s];by_cases o:e[(lo+a) / 2]<j
   ·rw[yIp o];refine qQ l j f _ a (by lia) (by lia) h3 (λi h n=>?_) h5;obtain z|z:=zcJ i ((lo+a) / 2)
    ·have:=l i _ z m h;lia
    ·obtain rfl:i=(lo+a) / 2:=by lia
     exact o
   ·rw[yIn o];refine qQ l j f lo _ (by lia) (by lia) (by lia) h4 (λi h n=>?_);obtain z|z:=zcJ ((lo+a) / 2) i
    ·have:=l _ i z h m;lia
    ·obtain rfl:i=(lo+a) / 2:=by lia
     lia
  ·rw[yIn q];have:a=lo:=by lia
   subst this;refine⟨h3,h4,h5⟩
def jd(e:oq d)(j:Nat):SetTable.below d j<=d.size/\(∀i (h:i<d.size),i<SetTable.below d j->d[i]<j)/\∀i (h:i<d.size),SetTable.below d j<=i->j<=d[i]:=
 qQ e j d.size 0 d.size (by lia) (zcT _) (zcS _) (λi h z=>absurd z (zce _)) (λi h z=>by lia)
def As(e:oq d)(j:i<d.size):SetTable.below d (d[i]+1)=i+1:=by
 let⟨h1,h2,l⟩:=jd e (d[i]+1);have m:i<SetTable.below d (d[i]+1):=by
  obtain z|z:=zcJ i (SetTable.below d (d[i]+1))
  ·exact z
  ·have:=l i j z;lia
 obtain z|z:=zcJ (i+1) (SetTable.below d (d[i]+1))
 ·have h:i+1<d.size:=by lia
  have:=h2 (i+1) h z;have:=e i (i+1) (by lia) h j;lia
 ·lia
def Ar(e:oq d):SetTable.below d 0=0:=by
 let⟨h1,h2,h⟩:=jd e 0;obtain z|z:=Nat.eq_zero_or_pos (SetTable.below d 0)
 ·exact z
 ·have:=h2 0 (by lia) z;lia
def gy:oq d↔d.toList.Pairwise (· < ·):=by
 rw[zah];constructor
 ·intro h i j l e a;have:=h i j a (by simp_all) (by simp_all);simp_all
 ·intro h i j a e l;simp_all
def wg(o:oq d)(v:(d[SetTable.below d j]? ==some j)=false):oq (SetTable.insertAt d (SetTable.below d j) j):=by
 let⟨h1,h2,y⟩:=jd o j;rw[gy] at o⊢;have e:(SetTable.insertAt d (SetTable.below d j) j).toList=d.toList.take (SetTable.below d j)++[j]++d.toList.drop (SetTable.below d j):=by
  unfold SetTable.insertAt;simp[Array.toList_extract];exact zao (by simp)
 generalize SetTable.below d j=p at*;have u:∀x∈d.toList.take p,x<j:=λx l=>by
  obtain⟨i,s,rfl⟩:=zaL l;rw[zbz] at s;simp_all
 have hd:∀x∈d.toList.drop p,j<x:=λx l=>by
  obtain⟨i,s,rfl⟩:=zaL l;have q:p+i<d.size:=by simp at s;lia
  have H:=y (p+i) q (by lia);have C:(d.toList.drop p)[i]=d[p+i]:=by simp
  have m:p<d.size:=by lia
  have G:d[p]≠j:=λz=>by
   simp_all
  obtain rfl|z:=Nat.eq_zero_or_pos i
  ·lia
  ·have F:=y p m (zcS _);have E:=gy.mpr o p (p+i) (by lia) q m;lia
 grind
theorem oR{e:Type}(f:Nat->Option e):∀l:List Nat,(List.map (λx=>x.1) (List.filterMap (λj=>Option.map (λx=>(j,x)) (f j)) l)).Sublist l
 |[]=>.slnil
 |a::l=>by
  rw[zaI];cases f a with
  |none=>exact .cons a (oR f l)
  |some x=>exact .cons₂ a (oR f l)
def rT(t:SetTable):Prop:=t.dummies=#[]/\(t.plain=true->oq t.place)
def gT(t:SetTable)(n:Nat):rT (t.standIn n):=⟨rfl,λz=>by cases z⟩
def Ll(h:rT t):rT (t.orStandIn n):=by
 unfold SetTable.orStandIn;split
 ·exact h
 ·exact gT t n
def DI(h:SetTable.laid mask finger moves led d g=some (t,k)):rT t:=by
 unfold SetTable.laid at h;cases e:SetTable.layClean mask g with
 |none=>rw[e] at h;cases h
 |some ow=>
  rw[e] at h;injection h with h;injection h with h1 h2;subst h1;refine⟨rfl,λ_=>?_⟩;rw[gy];exact List.Pairwise.sublist (oR _ _) List.pairwise_lt_range
def zK:rT (relayAll t es n).2.1:=by
 unfold relayAll;split
 ·rename_i h a e;dsimp only;split
  ·exact DI e
  ·exact gT _ _
 ·exact gT _ _
theorem pZ{t:SetTable}(hd:t.dummies=#[]){hashAt:Nat->Int}{h:Int}:∀(f:Nat)(p:SetTable.Probe){j:Nat}{dm:Option Nat},p.dummy=none->SetTable.probe.go t hashAt h f p=some (.empty j dm)->dm=none/\(t.place[SetTable.below t.place j]? ==some j)=false
 |0,p,j,dm,_,e=>by cases e
 |f+1,p,j,dm,hp,e=>by
  rw[SetTable.probe.go.eq_2] at e;have i:∀q,t.slot q=if(t.place[SetTable.below t.place q]? ==some q)=true then .live (SetTable.below t.place q) else .empty:=λq=>by
   unfold SetTable.slot;rw[hd];rfl
  have EH:(t.advance p).dummy=none:=by
   unfold SetTable.advance;split
   ·exact hp
   ·exact hp
  rw[i] at e;by_cases a:(t.place[SetTable.below t.place p.j]? ==some p.j)=true
  ·rw[yIp a] at e;dsimp only at e;split at e
   ·cases e
   ·exact pZ hd f _ EH e
  simp_all
def G7{h:Int}{x:yai}(e:rT t):rT (layNew t es h x).2.1:=by
 unfold layNew;split
 ·rename_i slot wd a;refine Ll ?_;unfold SetTable.freeSlot at a;split at a
  ·rename_i j dm l;injection a with a;injection a with i e2;let⟨rfl,h2⟩:=pZ e.1 _ _ rfl l;subst i;have m:SetTable.has t.dummies j=false:=by rw[e.1];rfl
   refine⟨?_,λz=>wg (e.2 z) h2⟩
   ·show(if SetTable.has t.dummies j=true then _ else t.dummies)=#[];rw[yIn (by lia)];exact e.1
  ·cases a
 ·exact gT _ _
noncomputable def intOf:yai->Int
 |.int i _=>i
 |_=>0
def WK(prog:yaj)(w:yak)(o:Obj)(S:List Int):Prop:=
 ∃a h t,o.ExactSet/\o.data=.set a h t/\ElemsOf (PySem.intKind prog w) a.toList/\(a.toList.map λe=>intOf e.2).Perm S/\t.fits a.size=true/\t.led=(!w.params.followText "set-order")/\rT t
def iH(prog:yaj)(w:yak)(h:Heap)(a:Addr)(S:List Int):Prop:=∃o,h.get? a=some o/\WK prog w o S
noncomputable def qS(S:List Int)(x:Int):List Int:=if x∈S then S else S++[x]
section
variable {w:yak}
def LC(x:Int)(t:Tok):(PySem.intKind prog w).is x (.int x t)=true:=by
 show Value.isInt x (.int x t)=true;simp[Value.isInt]
def uY(h:(PySem.intKind prog w).is d g=true):intOf g=d:=by
 let⟨t,rfl⟩:=Value.isInt_shape h;rfl
theorem add_int(hS:iH prog w s.heap a d)(hn:d.length+1<4096)(h:∀b h',Heap.SameBut a s.heap h'->iH prog w h' a (qS d g)->D b {s with heap:=h'}):
  yar (model prog w) A (setAddHashed a (.int g tk) ((PySem.intKind prog w).hash g)) D E s:=by
 let⟨o,ho,es,ep,t,P,hd,v,hp,hf,u,hpl⟩:=hS;have ab:es.size=d.length:=by rw[<-hp.length_eq,zbR,zaN]
 refine yad (yaa (wpAny_setState_of ho hd hf ?_));dsimp only;rw[byScan_of rfl (by show es.size<4096;lia) v];refine yaa (yaa (wpAny_rule (yaa (wpAny_setScan_of (LC g tk) ho hd hf v ?_))));cases hr:List.findIdx? (λe=>(PySem.intKind prog w).is g e.2) es.toList with
 |some j=>
  let⟨hj,hpj,_⟩:=List.findIdx?_eq_some_iff_getElem.mp hr;refine yab (yab ?_);have q:=h false s.heap (Heap.SameBut.refl a s.heap) (by
   unfold qS;rw[yIp (hp.mem_iff.mp (zcD.mpr ⟨_,zbJ hj,uY hpj⟩))];refine⟨o,ho,es,ep,t,P,hd,v,hp,hf,u,hpl⟩)
  exact q
 |none=>
  have W:g ∉ d:=λW=>by
   let⟨e,he,z⟩:=zcD.mp (hp.mem_iff.mpr W);obtain⟨⟨k,hk,_⟩,_⟩:=v e he;rw[uY hk] at z;grind
  have n:=layNew_perm t es ((PySem.intKind prog w).hash g) (.int g tk);have F:=layNew_fits t es ((PySem.intKind prog w).hash g) (.int g tk);have y:=G7 (es:=es) (h:=(PySem.intKind prog w).hash g) (x:=.int g tk) hpl;have C:=xo t es ((PySem.intKind prog w).hash g) (.int g tk);generalize layNew t es ((PySem.intKind prog w).hash g) (.int g tk)=L at n F C y⊢;let⟨i,t1,wd,gv⟩:=L;rw[zbt] at n;have H:=(v.push (LC g tk) rfl).perm n;have I:(i.toList.map λe=>intOf e.2).Perm (d++[g]):=by
   refine(n.map _).trans ?_;rw[zbZ];exact hp.append_right [g]
  have G:i.size=d.length+1:=by rw[<-zaN,<-zbR,I.length_eq,zaR];rfl
  have gw:∀(b:Bool){m:yah}{Q':Unit->yah->Prop},Q' () m->yar (model prog w) A (match b with|true=>rule "set.scan.the-table-gave-way"|false=>pure ()) Q' E m:=by
   intro b m Q' q;cases b
   ·exact yab q
   ·exact wpAny_rule q
  refine yaa (gw _ ?_);have fin:∀(l:SetTable),l.fits i.size=true->l.led=t.led->rT l->yar (model prog w) A (do
    storeSet a i l
    if(!wd&&l.tooFull)=true then do
      (match(relayAll l i (SetTable.grown i.size)).2.2 with|true=>rule "set.scan.the-table-gave-way"|false=>pure ())
      storeSet a (relayAll l i (SetTable.grown i.size)).1 (relayAll l i (SetTable.grown i.size)).2.1
      pure (some true)
     else pure (some true)) (λr s'=>r=some true/\D true s') E s:=by
   intro l f2 l2 p2;refine yaa (wpAny_storeSet_of ho hd ?_ (by rw[yaf];lia));have O:=kF i l ho hd;have X:=Heap.SameBut.update s.heap a (Obj.putSet i l);split
   ·have Y:=relayAll_perm l i (SetTable.grown i.size);have rf:=relayAll_fits l i (SetTable.grown i.size);have rk:=rE l i (SetTable.grown i.size);have rn:rT (relayAll l i (SetTable.grown i.size)).2.1:=zK;generalize relayAll l i (SetTable.grown i.size)=Rl at Y rf rk rn⊢;let⟨U,t3,g2⟩:=Rl;have Z:U.size=i.size:=by rw[<-zaN,Y.length_eq,zaN]
    refine yaa (gw _ ?_);refine yaa (wpAny_storeSet_of O rfl ?_ (by rw[yaf];lia));refine yab ⟨rfl,h true _ (X.trans (Heap.SameBut.update _ a _)) ⟨_,kF U t3 O rfl,U,_,t3,P,rfl,H.perm Y,?_,rf,rk.1.trans (l2.trans u),rn⟩⟩
    ·unfold qS;rw[yIn W];exact(Y.map _).trans I
   ·refine yab ⟨rfl,h true _ X ⟨_,O,i,_,l,P,rfl,H,?_,f2,l2.trans u,p2⟩⟩;unfold qS;simp_all
  cases hpt:t1.plain with
  |true=>
   refine yaa ?_;refine yab ?_;refine yac (fin _ F ?_ y) ?_ (λ_ _ z=>z)
   ·lia
   ·rintro r s' ⟨rfl,q⟩;exact yab q
  |false=>
   refine yac (fin _ ?_ ?_ y) ?_ (λ_ _ z=>z)
   ·lia
   ·lia
   ·rintro r s' ⟨rfl,q⟩;exact yab q
end
noncomputable def allI(val:Nat->Int):Nat->List Int
 |0=>[]
 |i+1=>qS (allI val i) (val i)
def ya(S:List Int)(x:Int):(qS S x).length<=S.length+1:=by
 unfold qS;split
 ·lia
 simp
theorem lQ(val:Nat->Int):∀i,(allI val i).length<=i
 |0=>zcS _
 |i+1=>zcF (ya ..) (Nat.succ_le_succ (lQ val i))
def iH.keep(x:iH prog w h a d)(e:∀o,h.get? a=some o->h'.get? a=some o):iH prog w h' a d:=
 by let⟨o,i,r⟩:=x;refine⟨o,e o i,r⟩
section
variable {w:yak}{R:Result->yah->Prop}{wr:List Addr}{P:Nat->yai->Prop}{St:Nat->yah->Prop}
theorem Hs(W:WalksS prog w A.in1 I fp wr G n P St)(a:Addr)(U:a ∉ fp)(val:Nat->Int)(j:∀i v,P i v->∃t,v=.int (val i) t)(hn:n<4000):
  ∀(k i:Nat)(s:yah),n - i=k->i<=n->St i s->iH prog w s.heap a (allI val i)->
   (∀s',Moved (a::wr) G s s'->iH prog w s'.heap a (allI val n)->R (.ok (.ret .none)) s')->
   codeAny (model prog w) A (.builtin "set.update.loop" ⟨[.ref a,.ref I],[]⟩) R s:=by
 have y:=λz=>U (W.sub _ z);have sub:∀b∈wr,b∈a::wr:=λb z=>zaz _ z;intro k
 induction k with
 |zero=>
  intro i s X Y h Q S;obtain rfl:i=n:=by lia
  refine codeAny_builtin PyProof.Rows.F.entry_set_update_loop ?_;refine yaa (W.done s _ _ h λs' u=>?_);exact yab (S s' (u.mono sub) (Q.keep λo e=>u.heap a o y e))
 |succ k ih=>
  intro i s X Y h Q S;have x:i<n:=by lia
  refine codeAny_builtin PyProof.Rows.F.entry_set_update_loop ?_;refine yaa (W.item i s _ _ x h λv s' Z l u=>?_);let⟨t,rfl⟩:=j i v Z;refine yaa (yad ?_);refine yad (yaa ((PySem.intKind prog w).pyHash (LC _ _) ?_));have:=lQ val i;refine add_int (Q.keep λo e=>u.heap a o y e) (by lia) λb h' m L=>?_;refine yab ⟨plainId_quiet PyProof.Rows.F.plain_set_update_loop _,ih (i+1) _ (by lia) x (W.frame _ s' _ _ l (zcU _) λb H o e=>?_) L λE q C=>?_⟩
  ·rw[m.2 b λz=>U (z▸H)];exact e
  ·refine S E (Moved.trans W.gtrans ((u.mono sub).then_heap (zcU _) λb o H e=>?_) q) C;rw[m.2 b λz=>H (z▸zaP)];exact e
end
section
variable {w:yak}
def tO(e:h.get? a=some (bw (!w.params.followText "set-order"))):iH prog w h a []:=
 ⟨_,e,#[],0,_,⟨rfl,rfl,rfl⟩,rfl,λe m=>by simp at m,.nil,rfl,rfl,rfl,λ_=>λi j _ l _=>absurd l (by simp[SetTable.fresh])⟩
theorem tu{Z:Heap->Prop}(Y:s.TypeIs (.ref l) T)(h1:isSubtype (.type T) (.type "set")=pure false)(h2:isSubtype (.type T) (.type "frozenset")=pure false)(h3:(Value.type T==Value.type "dict")=false)(it:∀{A':yal}{s':yah}{Q':yai->yah->Prop}{E':yai->yah->Prop},(∀b o,s.heap.get? b=some o->s'.heap.get? b=some o)->Q' (.ref s'.heap.objs.size) {s' with heap:=s'.heap.push ob}->yar (model prog w) A' (pyIter (.ref l)) Q' E' s')(C:ob.isFreed=false)(lp:∀(I:Addr)(h0:Heap){R:Result->yah->Prop},(∀b o,s.heap.get? b=some o->h0.get? b=some o)->h0.get? s.heap.objs.size=some (bw (!w.params.followText "set-order"))->h0.get? I=some ob->l≠I->s.heap.objs.size ∉ [I,l]->(∀(h':Heap)(tk:Nat),Z h'->(∀b o,b ∉ [s.heap.objs.size,I]->h0.get? b=some o->h'.get? b=some o)->R (.ok (.ret .none)) {s with heap:=h',toks:=tk})->codeAny (model prog w) A.in1.in1 (.builtin "set.update.loop" ⟨[.ref s.heap.objs.size,.ref I],[]⟩) R {s with heap:=h0})(h:∀(h':Heap)(tk:Nat),Z h'->(∀b o,b<s.heap.objs.size->s.heap.get? b=some o->h'.get? b=some o)->Q (.ref s.heap.objs.size) {s with heap:=h',toks:=tk}):
  yar (model prog w) A (call (.type "set") [.ref l]) Q E s:=by
 have L:=PySem.F.called_set.made;have U:=PySem.F.called_set.sub;have hct:=PySem.F.typeCall_set_1 (.ref l);refine yaH (codeAny_of_tree ?_);show yar _ _ (callAny (.type "set") _) _ _ _;refine yab ⟨Code.quiet_builtin _ (by decide+kernel),codeAny_builtin PySem.F.entry_type_call ?_⟩;rw[Around.under_plain (weight_type_call_type "set" [.ref l] []) rfl]
 repeat (any_goals (first|assumption|wp_step))
 generalize m:(!w.params.followText "set-order")=led;refine yax (Kl (.ref l) (E:=E) (Q₁:=λu j=>u=.ref s.heap.objs.size/\j={s with heap:=s.heap.push (bw led)}) ⟨rfl,by rw[m]⟩) λr j y=>?_;cases r with
 |error e=>exact y
 |ok fl=>
  cases fl with
  |ret u=>
   let⟨rfl,rfl⟩:=y;have gS:(s.heap.push (bw led)).get? s.heap.objs.size=some (bw led):=zaO _ rfl;have tS:Shared.TypeIs {s with heap:=s.heap.push (bw led)} (.ref s.heap.objs.size) "set":=⟨_,gS,rfl⟩
   have hli:=PySem.F.called_set.init.lookup;have hbi:=PySem.F.called_set.init.bind (.ref s.heap.objs.size)
   repeat (any_goals (first|assumption|wp_step))
   refine yax (codeAny_call_builtin (R:=wants (λr i=>r=.none/\∃h' tk,i={s with heap:=h',toks:=tk}/\Z h'/\(∀b o,b<s.heap.objs.size->s.heap.get? b=some o->h'.get? b=some o)) E) PySem.F.called_set.init.plain PySem.F.entry_set_init (check_set_init_1 tS ?_)) λt i a=>?_
   ·have n:l<s.heap.objs.size:=by let⟨o,G,_⟩:=Y;exact zcP G
    have kp:∀b o,s.heap.get? b=some o->(s.heap.push (bw led)).get? b=some o:=λb o e=>zas _ e;have tl1:Shared.TypeIs {s with heap:=s.heap.push (bw led)} (.ref l) T:=by let⟨o,G,z⟩:=Y;refine⟨o,kp _ _ G,z⟩
    unfold Builtin.«set.__init__» noKeywords Builtin.Frozenset.updateFrom;generalize S:pyIter=PI
    wp_walk
    subst S;refine it kp ?_;have sz:(s.heap.push (bw led)).objs.size=s.heap.objs.size+1:=zco ..;have v:∀b o,s.heap.get? b=some o->((s.heap.push (bw led)).push ob).get? b=some o:=λb o e=>zas _ (kp b o e);have H:l≠(s.heap.push (bw led)).objs.size:=by rw[sz];exact zcE (zbp n)
    have P:s.heap.objs.size ∉ [(s.heap.push (bw led)).objs.size,l]:=by
     grind
    refine yaa (wpAny_runValue ?_);refine lp _ _ v (by rw[m];exact zas _ gS) (zaO _ C) H P λh' x q hm=>?_
    ·refine yab (yab ⟨rfl,h',x,rfl,q,λb o X e=>hm b o ?_ (v b o e)⟩);grind
   ·cases t with
    |error e=>exact a
    |ok fl₂=>
     cases fl₂ with
     |ret r=>
      obtain⟨rfl,h',tk,rfl,q,O⟩:=a
      repeat (any_goals (first|assumption|wp_step))
      exact h _ _ q O
     |_=>exact a.elim
  |_=>exact y.elim
def s9{St:Addr->Nat->Heap->Prop}(L:A.handled=none)(S:s.TypeIs (.ref l) T)(h1:isSubtype (.type T) (.type "set")=pure false)(h2:isSubtype (.type T) (.type "frozenset")=pure false)(X:(Value.type T==Value.type "dict")=false)(it:∀{A':yal}{s':yah}{G:yai->yah->Prop}{E':yai->yah->Prop},(∀b o,s.heap.get? b=some o->s'.heap.get? b=some o)->G (.ref s'.heap.objs.size) {s' with heap:=s'.heap.push ob}->yar (model prog w) A' (pyIter (.ref l)) G E' s')(x:ob.isFreed=false)(W:∀{A':yal}(I:Addr),A'.handled=none->l≠I->Walks prog w A' I [I,l] [I] n d (St I))(q:∀I h',(∀b o,s.heap.get? b=some o->h'.get? b=some o)->h'.get? I=some ob->St I 0 h')(a:∀i v,d i v->∃t,v=.int (val i) t)(H:n<4000)(h:∀(h':Heap)(tk:Nat),iH prog w h' s.heap.objs.size (allI val n)->(∀b o,b<s.heap.objs.size->s.heap.get? b=some o->h'.get? b=some o)->Q (.ref s.heap.objs.size) {s with heap:=h',toks:=tk}):
  yar (model prog w) A (call (.type "set") [.ref l]) Q E s:=by
 refine tu S h1 h2 X it x (λI Y R kp gS gI y C U=>?_) h;refine Hs (W (A':=A.in1.in1.in1) I L y).toS s.heap.objs.size C val a H (n - 0) 0 _ rfl (zcT _) (q I Y kp gI) (tO gS) λs' j F=>?_;let⟨h',g',d',m,u⟩:=s';obtain rfl:g'=s.gens:=j.gens;obtain rfl:d'=s.drawn:=j.drawn;obtain rfl:u=s.os:=j.os;exact U h' m F λb o O e=>j.heap b o O e
theorem yV(y:A.handled=none)(j:s.heap.IsTuple l its)(m:IntsAre its.toList d)(u:d.length<4000)(h:∀(h':Heap)(tk:Nat),iH prog w h' s.heap.objs.size (allI (λi=>d.getD i 0) d.length)->(∀b o,b<s.heap.objs.size->s.heap.get? b=some o->h'.get? b=some o)->Q (.ref s.heap.objs.size) {s with heap:=h',toks:=tk}):
  yar (model prog w) A (call (.type "set") [.ref l]) Q E s:=by
 have el:its.size=d.length:=by rw[<-zaN,m.length]
 rw[<-el] at h;refine s9 y j.typeIs M5.F.sub_tuple_set M5.F.sub_tuple_frozenset (by decide) (λkp q=>wpAny_pyIter_tuple (j.at (kp l)) q) rfl (λI h1 h2=>Walks.tuple h1 I l h2 its)
  (λI h' kp e=>⟨⟨_,e,rfl,rfl⟩,j.at (kp l)⟩) ?_ (by lia) h
 intro i v a;rw[<-zax] at a;clear h;revert i;generalize its.toList=vs at m;clear el u
 induction m with
 |nil=>intro i a;simp at a
 |cons x t r ih=>
  intro i a;cases i with
  |zero=>simp at a;exact⟨t,by rw[<-a];rfl⟩
  |succ i=>
   let⟨n,e⟩:=ih i a;exact⟨n,e⟩
theorem Dp(y:A.handled=none)(j:s.heap.IsList l its)(m:IntsAre its.toList d)(u:d.length<4000)(h:∀(h':Heap)(tk:Nat),iH prog w h' s.heap.objs.size (allI (λi=>d.getD i 0) d.length)->(∀b o,b<s.heap.objs.size->s.heap.get? b=some o->h'.get? b=some o)->Q (.ref s.heap.objs.size) {s with heap:=h',toks:=tk}):
  yar (model prog w) A (call (.type "set") [.ref l]) Q E s:=by
 have el:its.size=d.length:=by rw[<-zaN,m.length]
 rw[<-el] at h;refine s9 y j.typeIs PySem.F.sub_list_set PySem.F.sub_list_frozenset (by decide) (λkp q=>wpAny_pyIter_list (j.at (kp l)) q) rfl (λI h1 h2=>Walks.list h1 I l h2 its)
  (λI h' kp e=>⟨⟨_,e,rfl,rfl⟩,j.at (kp l)⟩) ?_ (by lia) h
 intro i v a;rw[<-zax] at a;clear h;revert i;generalize its.toList=vs at m;clear el u
 induction m with
 |nil=>intro i a;simp at a
 |cons x t r ih=>
  intro i a;cases i with
  |zero=>simp at a;exact⟨t,by rw[<-a];rfl⟩
  |succ i=>
   let⟨n,e⟩:=ih i a;exact⟨n,e⟩
end
def Hh:k∈qS d g↔k∈d∨k=g:=by
 unfold qS;grind
theorem wX(val:Nat->Int)(y:Int):∀n,y∈allI val n↔∃i,i<n/\val i=y
 |0=>by simp[allI]
 |n+1=>by
  show y∈qS _ _↔_;rw[Hh,wX val y n];grind
def sO(ss:List Int)(y:Int):y∈allI (λi=>ss.getD i 0) ss.length↔y∈ss:=by
 rw[wX];constructor
 ·grind
 ·intro h;let⟨i,h1,e⟩:=zaL h;refine⟨i,h1,by simp[h1,e]⟩
section
variable {w:yak}
def Nj(n:w.params.followText "set-order"=false)(q:yH s.heap a es ep t)(m:t.fits es.size=true)(h1:(!t.plain&&decide (es.size> 1))=false)(l:t.led=true)(h:g (match es[SetTable.below t.place d]?,t.place[SetTable.below t.place d]? with|some (_,x),some j=>some (x,j+1)|_,_=>none) s):yar (model prog w) A (setNext a d i ep) g E s:=by
 let⟨o,e,u,hd⟩:=q;refine yaa (wpAny_setState_of e hd m ?_);refine yaa (gY ?_);rw[yIn (by lia)];rw[yIn (by
  show¬((!t.plain&&decide (es.size> 1))=true);rw[h1];decide)]
 refine yaa ?_;show yar _ _ (if(!t.led&& !es.isEmpty)=true then unsupported "set:maker-not-led" else pure ()) _ _ _;rw[yIn (by lia)];refine yab (yab ?_);exact h
def AF(w:yak)(h:Heap)(a:Addr)(es:Array (Int×yai))(ep:Nat)(t:SetTable):Prop:=
 ∃o,h.get? a=some o/\o.ExactSet/\o.data=.set es ep t/\t.fits es.size=true/\t.led=(!w.params.followText "set-order")/\(t.plain=true->oq t.place)
def AF.keep(x:AF d h a es ep t)(e:∀o,h.get? a=some o->h'.get? a=some o):AF d h' a es ep t:=
 by let⟨o,i,r⟩:=x;refine⟨o,e o i,r⟩
theorem HF(hS:AF w s.heap a es ep t)(hn:es.size<4000)(h:∀(I:Addr)(H:List yai)(fp:List Addr)(St:Nat->Heap->Prop)(h':Heap) d,(∀b o,s.heap.get? b=some o->h'.get? b=some o)->s.heap.objs.size<=I->(∀b∈fp,b=a∨s.heap.objs.size<=b)->(∀{A':yal},A'.handled=none->Walks prog w A' I fp [I] H.length (λi v=>H[i]? =some v) St)->St 0 h'->H.Perm (es.toList.map (·.2))->Q (.ref I) {s with heap:=h',drawn:=d}):
  yar (model prog w) A (pyIter (.ref a)) Q E s:=by
 let⟨o,C,G,hd,n,y,hpl⟩:=hS;have sa:yH s.heap a es ep t:=⟨o,C,G.1,hd⟩
 have la:=zcP C;refine wpAny_pyIter_slot sa.typeIs M5.F.pH (wpAny_call_entry M5.F.pH sa.typeIs M5.F.xH ?_ (M5.F.Av _));refine yaa (wpAny_of_eq rfl ?_);refine yaa (yaa (wpAny_setEntries_of C hd n (yab ?_)));refine yaa ?_;refine yaa (wpAny_setState_of C hd n ?_);refine yaa (gY ?_);refine yab ?_;cases Y:w.params.followText "set-order" with
 |true=>
  refine yaa (yab ?_);refine yaa (wpAny_setEpoch_of C hd n ?_);refine yaa (yae ?_);have S:jN (s.heap.push (RV (rawInt 0) 0 a es.size ep)) s.heap.objs.size (rawInt 0) 0 a es.size ep:=⟨_,zaO _ rfl,rfl,rfl⟩
  refine yab ⟨_,rfl,"set_iterator",_,⟨_,zaO _ rfl,rfl⟩,M5.F.slot_next.lookup,?_⟩;have U:=sJ (w.params.setOrder a ep) es;refine h s.heap.objs.size ((pickOrder (w.params.setOrder a ep) es).toList.map (·.2)) [s.heap.objs.size,a] _ _ s.drawn (λb o e=>zas _ e) (zcS _) (λb z=>?_)
   (λ{A'} X=>EK (sl:=λ_=>0) X (zcE la) n (by rw[zbR,U.length_eq,zaN]) ?_ ?_) ⟨S,_,zas (RV (rawInt 0) 0 a es.size ep) C,G.1,hd⟩ (U.map _)
  ·grind
  ·intro i x u A' s' Q' E' m q;refine Nk Y m n ?_;rw[zbh,zax] at u;cases hy:(pickOrder (w.params.setOrder a ep) es)[i]? with
   |none=>rw[hy] at u;cases u
   |some e=>rw[hy] at u;injection u with u;subst u;exact q
  ·intro A' s' Q' E' m q;refine Nk Y m n ?_;rw[zar (by simp)];exact q
 |false=>
  rw[Y] at y;have O:=by
   simp only[SetTable.fits,zbN,beq_iff_eq] at n;exact n.1
  by_cases hz:(!t.plain&&decide (es.size> 1))=false
  ·have hR:=by
    cases W:t.plain with
    |true=>exact hpl W
    |false=>
     intro i j hij hj _;lia
   rw[yIn (by
    show¬((!false&&(!t.plain&&decide (es.size> 1)))=true);rw[hz];decide)]
   refine yaa (yab ?_);refine yaa (wpAny_setEpoch_of C hd n ?_);refine yaa (yae ?_);have S:jN (s.heap.push (RV (rawInt 0) 0 a es.size ep)) s.heap.objs.size (rawInt 0) 0 a es.size ep:=⟨_,zaO _ rfl,rfl,rfl⟩
   refine yab ⟨_,rfl,"set_iterator",_,⟨_,zaO _ rfl,rfl⟩,M5.F.slot_next.lookup,?_⟩;have NI:∀i,i<=es.size->SetTable.below t.place (if i=0 then 0 else t.place.getD (i - 1) 0+1)=i:=λi hi=>by
    by_cases h0:i=0
    ·subst h0;exact Ar hR
    ·rw[yIn h0];have h1:i - 1<t.place.size:=by lia
     have Z:t.place.getD (i - 1) 0=t.place[i - 1]:=by simp[h1]
     rw[Z,As hR h1];lia
   refine h s.heap.objs.size (es.toList.map (·.2)) [s.heap.objs.size,a] _ _ s.drawn (λb o e=>zas _ e) (zcS _) (λb z=>?_)
    (λ{A'} X=>EK (sl:=λi=>if i=0 then 0 else t.place.getD (i - 1) 0+1) X (zcE la) n (by simp) ?_ ?_) ⟨S,_,zas (RV (rawInt 0) 0 a es.size ep) C,G.1,hd⟩ (.refl _)
   ·grind
   ·intro i x u A' s' Q' E' m q;have hi:i<es.size:=by
     have:=(zad.mp u).1;simp_all
    refine Nj Y m n hz y ?_;rw[zbh,zax,zai hi] at u;injection u with u;subst u;rw[NI i (by lia),zai hi,zai (by lia:i<t.place.size)];have Z:(if i+1=0 then 0 else t.place.getD (i+1 - 1) 0+1)=t.place[i]'(by lia)+1:=by
     simp_all
    rw[Z] at q;exact q
   ·intro A' s' Q' E' m q;refine Nj Y m n hz y ?_;rw[zbR,zaN];have en:es[SetTable.below t.place (if es.size=0 then 0 else t.place.getD (es.size - 1) 0+1)]? =none:=by
     rw[NI es.size (zcS _)];simp
    rw[en];exact q
  ·have hz:(!t.plain&&decide (es.size> 1))=true:=by lia
   rw[yIp (by
    show(!false&&(!t.plain&&decide (es.size> 1)))=true;rw[hz];rfl)]
   refine yaa (x8 _ _ (by simp) λps d O=>?_);let⟨l,Z,e2,e3⟩:=pull es ps O;refine yaa ?_;refine yae ?_ (by
    have:ps.length=es.size:=by rw[O.length_eq,zbn]
    show(ps.map λ(i:Nat)=>rawInt i).toArray.size<=yag;rw[zbf,zbR,yaf];lia)
   refine yaa (wpAny_setEpoch_of (zas _ C) hd n ?_);refine yaa (yae ?_);generalize L:({cls:=.type "tuple",data:=.seq (ps.map λ(i:Nat)=>rawInt i).toArray}:Obj)=to;have hT1:(s.heap.push to).get? s.heap.objs.size=some to:=zaO _ (by rw[<-L];rfl);have z1:(s.heap.push to).objs.size=s.heap.objs.size+1:=zco ..;have gI:((s.heap.push to).push (RV (.ref s.heap.objs.size) 0 a es.size ep)).get? (s.heap.push to).objs.size=some (RV (.ref s.heap.objs.size) 0 a es.size ep):=zaO _ rfl;refine yab ⟨_,rfl,"set_iterator",_,⟨_,gI,rfl⟩,M5.F.slot_next.lookup,?_⟩;refine h (s.heap.push to).objs.size (l.map (·.2)) [(s.heap.push to).objs.size,a,s.heap.objs.size] _ _ d (λb o e=>zas _ (zas _ e)) (by simp) (λb z=>?_)
    (λ{A'} X=>Oe (ps:=ps) X (by rw[z1];exact zcE (zbp la)) (by simp) n (by simp_all) (λi h1 h2=>?_)) ⟨⟨_,gI,rfl,rfl⟩,⟨_,zas _ (zas _ C),G.1,hd⟩,⟨_,zas _ hT1,by rw[<-L],0,by rw[<-L]⟩⟩ (e2.map _)
   ·grind
   ·have h3:i<l.length:=by simp_all
    refine⟨l[i].1,?_⟩;rw[e3 i h1 h3,zbK]
def D0(e:s.TypeIs (.ref a) "set")(h:d false s):yar (model prog w) A (Builtin.List.listLengthHint (.ref a)) d E s:=by
 refine yaa (wpAny_specialOf e PySem.F.slot_set_len.lookup ?_);refine yaa (wpAny_isInstance e sub_set_self ?_);refine yaa (wpAny_typeOf e ?_);exact yab h
def Ad(hh:A.handled=none)(Z:AF w s.heap a es ep t)(hn:es.size<4000)(Q:s.heap.get? L=some {cls:=.type "list",data:=.seq #[]})(x:L≠a)(hR:∀s' (h:List yai) n,(∀b o,b≠L->s.heap.get? b=some o->s'.heap.get? b=some o)->s'.gens=s.gens->s'.os=s.os->s'.heap.get? L=some {cls:=.type "list",dict:=none,data:=.seq h.toArray n,slots:=#[]}->h.Perm (es.toList.map (·.2))->R (.ok (.ret (.ref L))) s'):
  yar (model prog w) A.in1 (Builtin.List.listExtendWith (.ref L) (.ref a) (.ref L))
   (λS s'=>match S with|.done f=>R (.ok f) s'|.again n=>n.quiet=true/\codeAny (model prog w) A n R s') (λe s'=>R (.error e) s') s:=by
 have X:s.TypeIs (.ref a) "set":=by let⟨o,G,P,_⟩:=Z;refine⟨o,G,P.1⟩
 refine yaa (wpAny_typeOf X ?_);have h1:Builtin.List.listSameRef (.ref L) (.ref a)=false:=by simp[Builtin.List.listSameRef,x]
 simp only[h1];refine yaa (HF Z hn λI h fp St y d kp hI O W E U=>?_);have v:=λz=>(O L z).elim x λz=>absurd (zcP Q) (Nat.not_lt.mpr z);have C:Shared.TypeIs {s with heap:=y,drawn:=d} (.ref a) "set":=by let⟨o,G,hc⟩:=X;refine⟨o,kp _ _ G,hc⟩
 refine yaa (yad (D0 C ?_));refine yaa (wpAny_rule ?_);refine yaa ?_;refine yaa (wpAny_updateSeq (kp _ _ Q) rfl ?_);have g2:=zay (Obj.mapSeq (·.push Value.none)) (kp _ _ Q) rfl;refine wpAny_updateSeq g2 rfl ?_;have q:∀b o,b≠L->y.get? b=some o->((y.update L (Obj.mapSeq (·.push Value.none))).update L (Obj.mapSeq (·.pop))).get? b=some o:=
  λb o m e=>(zat _ _ (Ne.symm m)).trans ((zat _ _ (Ne.symm m)).trans e)
 have Y:h.length=es.size:=by rw[U.length_eq,zbR,zaN]
 have WS:=(W (A':=A.in1) hh).toS;refine yab ⟨plainId_quiet PySem.F.plain_extend_loop _,codeAny_extend_loopS WS (by rw[yaf];lia) _ v _ h.length 0 _ _ _ rfl (zcT _) (WS.frame 0 {s with heap:=y,drawn:=d} _ s.toks E (zcS _) λb m o e=>q b o (λz=>v (z▸m)) e) (zay (Obj.mapSeq (·.pop)) g2 rfl) (ItemsOf.nil _) λs' j n H u l=>?_⟩;have ea:j=h.toArray:=by
  refine Array.ext (by rw[l.1,zbf]) λi h1 h2=>?_;have z:=l.2 i j[i] (zai h1);have h2:=by simpa using h2
  simp_all
 rw[ea] at u;refine hR s' h n (λb o m e=>?_) H.gens H.os u U;refine H.heap b o ?_ (q b o m (kp b o e));simp only[zcp,zbL];rintro(z|z)
 ·exact m z
 ·have:=zcP e;lia
def rN(u:A.handled=none)(j:AF w s.heap a es ep t)(q:es.size<4000)(v:∀s' (h:List yai) i,(∀b o,s.heap.get? b=some o->s'.heap.get? b=some o)->s'.gens=s.gens->s'.os=s.os->s'.heap.get? s.heap.objs.size=some {cls:=.type "list",dict:=none,data:=.seq h.toArray i,slots:=#[]}->h.Perm (es.toList.map (·.2))->R (.ok (.ret (.ref s.heap.objs.size))) s'):
  codeAny (model prog w) A (.builtin "proto.collect" ⟨[.ref a],[]⟩) R s:=by
 have m:a<s.heap.objs.size:=by let⟨o,n,_⟩:=j;exact zcP n
 refine codeAny_builtin entry_proto_collect' ?_;refine yaa (wpAny_newList (yab ⟨Code.quiet_builtin _ (by decide+kernel),codeAny_builtin entry_list_iadd' ?_⟩));refine Ad u (j.keep λo e=>zas _ e) q (zaO _ rfl) (zcH m) λs' h i kp y x g l=>v s' h i (λb o e=>kp b o (zcE (zcP e)) (zas _ e)) y x g l
def xT(l:A.handled=none)(m:AF w s.heap a es ep t)(j:es.size<4000)(h:∀s' (e:List yai),(∀b o,s.heap.get? b=some o->s'.heap.get? b=some o)->s'.gens=s.gens->s'.os=s.os->s.heap.objs.size<=s'.heap.objs.size->e.Perm (es.toList.map (·.2))->d e s'):yar (model prog w) A (collect (.ref a)) d E s:=by
 refine yaa (wpAny_runValue (rN l m j λs' e u kp q n g i=>?_));refine yaa (wpAny_load g ?_);exact yab (h s' e kp q n (zcG (zcP g)) i)
end
end M7
namespace M8
open PySem PySem.Spec PyProof.Rows
open PySem.SetTable (Probe bits runEnd leap turns)
theorem V5{h:Type}[DecidableEq h]:∀{l m:List h},l.Nodup->(∀x∈l,x∈m)->l.length<=m.length
 |[],m,_,_=>zcT _
 |a::l,m,hn,hs=>by
  rw[zbT] at hn;have h1:l.length<=(m.erase a).length:=V5 hn.2 λx i=>by
   grind
  have h2:=hs a (by simp);have n:=zal h2;have j:=zap h2;rw[zby];lia
noncomputable def EH(m:Nat)(p:Probe):Probe:=
 if p.more> 0 then{p with j:=p.j+1,more:=p.more - 1} else
 {p with j:=(leap m p.i p.perturb).1,more:=runEnd m (leap m p.i p.perturb).1 - (leap m p.i p.perturb).1,i:=(leap m p.i p.perturb).1,perturb:=(leap m p.i p.perturb).2}
def IK(t:SetTable)(p:Probe):t.advance p=EH t.mask p:=rfl
noncomputable def e7(m:Nat)(q:Nat×Nat):Probe:={j:=q.1,more:=runEnd m q.1 - q.1,i:=q.1,perturb:=q.2,dummy:=none}
noncomputable def ru(m:Nat)(h:Int):Nat->Nat×Nat
 |0=>(bits h % (m+1),bits h)
 |k+1=>leap m (ru m h k).1 (ru m h k).2
noncomputable def road(m:Nat)(h:Int):Nat->Probe
 |0=>e7 m (ru m h 0)
 |n+1=>EH m (road m h n)
noncomputable def nk(m:Nat)(h:Int):Nat->Nat
 |0=>0
 |k+1=>nk m h k+(runEnd m (ru m h k).1 - (ru m h k).1)+1
def Pn:runEnd m i - i<=9:=by unfold runEnd;split<;>lia
def zl:i<=runEnd m i:=by unfold runEnd;split<;>lia
def Gf(h:i<=m):runEnd m i<=m:=by unfold runEnd;split<;>omega
theorem Gh(m:Nat)(h:Int):∀k,(ru m h k).1<=m
 |0=>zbq (zcY _ (Nat.succ_pos m))
 |k+1=>zbq (zcY _ (Nat.succ_pos m))
theorem Ni(m:Nat)(h:Int):∀k,nk m h k<=10*k
 |0=>zcS _
 |k+1=>by have:=Ni m h k;have:=Pn (m:=m) (i:=(ru m h k).1);show nk m h k+_+1<=_;lia
def Bt(m:Nat)(h:Int):∀k,road m h (nk m h k)=e7 m (ru m h k)/\∀c,c<=runEnd m (ru m h k).1 - (ru m h k).1->road m h (nk m h k+c)={e7 m (ru m h k) with j:=(ru m h k).1+c,more:=runEnd m (ru m h k).1 - (ru m h k).1 - c}:=by
 have step:∀k,road m h (nk m h k)=e7 m (ru m h k)->∀c,c<=runEnd m (ru m h k).1 - (ru m h k).1->road m h (nk m h k+c)={e7 m (ru m h k) with j:=(ru m h k).1+c,more:=runEnd m (ru m h k).1 - (ru m h k).1 - c}:=by
  intro k a c
  induction c with
  |zero=>intro _;rw[zcK,a];rfl
  |succ c ih=>
   intro e;show EH m (road m h (nk m h k+c))=_;rw[ih (by lia)];unfold EH;rw[yIp (by lia)];rfl
 intro k
 induction k with
 |zero=>exact⟨rfl,step 0 rfl⟩
 |succ k ih=>
  have:road m h (nk m h (k+1))=e7 m (ru m h (k+1)):=by
   show EH m (road m h (nk m h k+(runEnd m (ru m h k).1 - (ru m h k).1)))=_;rw[ih.2 _ (zcS _)];unfold EH;rw[yIn (by simp)];rfl
  exact⟨this,step _ this⟩
theorem pP(m:Nat)(h:Int):∀n,(road m h n).j+(road m h n).more<=m/\(road m h n).dummy=none
 |0=>by
  have h1:=Gh m h 0;have h2:=Gf h1;refine⟨?_,rfl⟩;show(ru m h 0).1+(runEnd m (ru m h 0).1 - (ru m h 0).1)<=m;lia
 |n+1=>by
  have a:=pP m h n;show(EH m (road m h n)).j+(EH m (road m h n)).more<=m/\(EH m (road m h n)).dummy=none;unfold EH;split
  ·lia
  ·have h1:(leap m (road m h n).i (road m h n).perturb).1<=m:=zbq (zcY _ (Nat.succ_pos m));have h2:=Gf h1;lia
noncomputable def Vn(m i:Nat):Nat:=(i*5+1) % (m+1)
noncomputable def it(m:Nat):Nat->Nat->Nat
 |0,i=>i
 |k+1,i=>it m k (Vn m i)
theorem qv(m:Nat):∀a b i,it m (a+b) i=it m b (it m a i)
 |0,b,i=>by rw[Nat.zero_add];rfl
 |a+1,b,i=>by rw[Nat.add_right_comm];exact qv m a b (Vn m i)
noncomputable def Tu(m:Nat):Nat->Nat->List Nat
 |0,_=>[]
 |k+1,i=>i::Tu m k (Vn m i)
theorem BK(m:Nat):∀k i j,j∈Tu m k i->∃a,a<k/\it m a i=j
 |0,i,j,h=>by simp[Tu] at h
 |k+1,i,j,h=>by
  simp only[Tu,zcp] at h;obtain rfl|h:=h
  ·refine⟨0,by lia,rfl⟩
  ·let⟨a,h1,h2⟩:=BK m k _ j h;refine⟨a+1,by lia,h2⟩
noncomputable def full(m:Nat):Bool:=(zcX (m+1)).all (λj=>(Tu m (m+1) 0).contains j)&&it m (m+1) 0==0
def Uk:full 7=true:=by rfl
def QF:full 31=true:=by rfl
def LI:full 127=true:=by rfl
def Qw(e:full m=true)(o:i<=m)(n:j<=m):∃k,k<=m/\it m k i=j:=by
 unfold full at e;rw[zbN,zbC] at e;have g:∀x,x<=m->∃a,a<m+1/\it m a 0=x:=λx s=>BK m _ _ _ (by
  have:=e.1 x (zcj.mpr (by lia));simp_all)
 have h:=by simpa using e.2
 let⟨a,u,l⟩:=g i o;let⟨b,t,b2⟩:=g j n;by_cases q:a<=b
 ·refine⟨b - a,by lia,?_⟩;rw[<-l,<-qv,<-b2];congr 1;lia
 ·refine⟨m+1 - a+b,by lia,?_⟩;rw[<-l,<-qv,<-b2];have:a+(m+1 - a+b)=m+1+b:=by lia
  rw[this,qv,h]
def Mg(h:Int):bits h<2 ^ 64:=by
 unfold bits;lia
theorem Gg(m:Nat)(h:Int):∀k,(ru m h k).2=bits h / 32 ^ k
 |0=>by simp[ru]
 |k+1=>by
  show(ru m h k).2 / 32=_;rw[Gg m h k,Nat.div_div_eq_div_mul,Nat.pow_succ]
def KO(m:Nat)(h:Int)(a:13<=k):(ru m h k).2=0:=by
 rw[Gg];refine Nat.div_eq_of_lt (zaY (Mg h) ?_);exact zcF (show 2 ^ 64<=32 ^ 13 by decide) (Nat.pow_le_pow_right (by decide) a)
theorem Nc(m:Nat)(h:Int):∀k,(ru m h (13+k)).1=it m k (ru m h 13).1
 |0=>rfl
 |k+1=>by
  have e:(ru m h (13+(k+1))).1=Vn m (ru m h (13+k)).1:=by
   show((ru m h (13+k)).1*5+1+(ru m h (13+k)).2 / 32) % (m+1)=_;rw[KO m h (by lia)];rfl
  rw[e,Nc m h k,qv m k 1];rfl
def Gi(e:full m=true)(h:Int)(a:j<=m):∃k,k<=m+13/\(ru m h k).1=j:=by
 let⟨k,h1,h2⟩:=Qw e (Gh m h 13) a;refine⟨13+k,by lia,by rw[Nc,h2]⟩
def Gj(e:full m=true)(h:Int)(a:j<=m):∃n,n<10*turns m/\(road m h n).j=j:=by
 let⟨k,h1,h2⟩:=Gi e h a;refine⟨nk m h k,?_,?_⟩
 ·have:=Ni m h k;unfold turns;lia
 ·rw[(Bt m h k).1];exact h2
def Way(m:Nat)(occ:Nat->Prop)(h:Int)(j:Nat):Prop:=∃n,(road m h n).j=j/\∀a<n,occ (road m h a).j
def Way.mono(w:Way m occ k j)(g:∀x,occ x->d x):Way m d k j:=by
 let⟨n,h1,h2⟩:=w;refine⟨n,h1,λe i=>g _ (h2 e i)⟩
theorem least{P:Nat->Prop}:∀(n:Nat),P n->∃k,k<=n/\P k/\∀i<k,¬P i
 |0,h=>⟨0,zcS _,h,λi e=>absurd e (zce _)⟩
 |n+1,h=>by
  by_cases g:∃i,i<=n/\P i
  ·let⟨i,h1,h2⟩:=g;let⟨k,a,b,c⟩:=least i h2;refine⟨k,by lia,b,c⟩
  ·refine⟨n+1,zcS _,h,λi e j=>g ⟨i,by lia,j⟩⟩
def Ac(t:full m=true)(h:Int){occ:List Nat}(v:occ.length<=m):∃N,N<10*turns m/\(road m h N).j ∉ occ/\∀n<N,(road m h n).j∈occ:=by
 have:∃j,j<=m/\j ∉ occ:=by
  apply Classical.byContradiction;intro i;have h1:=V5 (l:=zcX (m+1)) (m:=occ) List.nodup_range λx o=>by
   grind
  rw[zbn] at h1;lia
 let⟨j,h1,h2⟩:=this;let⟨n,y,u⟩:=Gj t h h1;let⟨N,a,b,c⟩:=least (P:=λn=>(road m h n).j ∉ occ) n (by simp_all);refine⟨N,by lia,b,λq s=>Classical.byContradiction λe=>c q s e⟩
end M8
namespace M8
open PySem PySem.Spec PyProof.Rows M7
open PySem.SetTable (Probe bits runEnd leap turns)
abbrev Ent:=Nat×(Int×yai)
noncomputable def fs(l:List Ent):List Nat:=l.map (·.1)
structure Tab(t:SetTable)(es:Array (Int×yai))(l:List Ent):Prop where
 dm:t.dummies=#[]
 pl:t.place.toList=fs l
 el:es.toList=l.map (·.2)
 up:(fs l).Pairwise (· < ·)
 mm:t.mask=7∨t.mask=31∨t.mask=127
 nf:l.length*5<t.mask*3
 le:∀e∈l,e.1<=t.mask
 way:∀e∈l,Way t.mask (· ∈fs l) e.2.1 e.1
def B7(h:m=7∨m=31∨m=127):full m=true:=by
 obtain rfl|rfl|rfl:=h
 ·exact Uk
 ·exact QF
 rfl
section
variable {l:List Ent}
def Tab.rise(T:Tab t es l):oq t.place:=gy.mpr (by rw[T.pl];exact T.up)
def Tab.sz(T:Tab t es l):t.place.size=l.length:=by rw[<-zaN,T.pl];exact zbR ..
def Tab.Vq(T:Tab t es l):es.size=l.length:=by rw[<-zaN,T.el,zbR]
theorem Tab.fits(T:Tab t es l):t.fits es.size=true:=by
 have h1:=T.sz;have h2:=T.Vq;have a:=T.nf;unfold SetTable.fits SetTable.fill;rw[T.dm];simp;lia
def below_at(e:oq d)(h:i<d.size):SetTable.below d d[i]=i:=by
 let⟨h1,h2,j⟩:=jd e d[i];obtain z|z|z:=zbr i (SetTable.below d d[i])
 ·have:=h2 i h z;lia
 ·exact z.symm
 ·have:=j _ (by lia:SetTable.below d d[i]<d.size) (zcS _);have:=e _ _ z h (by lia);lia
theorem Tab.live(T:Tab t es l)(h:(j,d)∈l):∃i,t.slot j=.live i/\es[i]? =some d/\i<es.size:=by
 let⟨i,a,n⟩:=zaL h;have m:i<t.place.size:=by rw[T.sz];exact a
 have q:t.place[i]=j:=by
  have:t.place.toList[i]'(by simp_all)=(fs l)[i]'(by unfold fs;simp_all):=by simp only[T.pl]
  rw[Array.getElem_toList] at this;rw[this];unfold fs;rw[zbK,n]
 have s:es[i]? =some d:=by
  rw[<-zax,T.el,zbh,zak a,n];rfl
 have o:=below_at T.rise m;refine⟨i,?_,s,by rw[T.Vq];exact a⟩;unfold SetTable.slot;simp_all
theorem Tab.empty(T:Tab t es l)(h:j ∉ fs l):t.slot j=.empty:=by
 unfold SetTable.slot;rw[yIn (λz=>h (by
  have z:=by simpa using z
  rw[<-zax,T.pl] at z;exact zaC z)),T.dm]
 rfl
def Qk(h:j∈fs l):∃e,(j,e)∈l:=by
 obtain⟨⟨a,b⟩,h1,h2⟩:=zcD.mp h;subst h2;exact⟨b,h1⟩
theorem Tab.probe(T:Tab t es l){hashAt:Nat->Int}{h:Int}(x:∀i e,es[i]? =some e->hashAt i=e.1){N:Nat}(L:(road t.mask h N).j ∉ fs l)(I:∀n<N,(road t.mask h n).j∈fs l):∀(f n:Nat),n<=N->N - n<f->
  (SetTable.probe.go t hashAt h f (road t.mask h n)=some (.empty (road t.mask h N).j none)/\∀o,n<=o->o<N->∀e,((road t.mask h o).j,e)∈l->e.1≠h)∨
  ∃q e i,n<=q/\q<N/\((road t.mask h q).j,e)∈l/\e.1=h/\t.slot (road t.mask h q).j=.live i/\es[i]? =some e/\SetTable.probe.go t hashAt h f (road t.mask h n)=some (.candidate (road t.mask h q).j i (road t.mask h (q+1)))/\∀o,n<=o->o<q->∀e,((road t.mask h o).j,e)∈l->e.1≠h
 |0,n,h1,h2=>by lia
 |f+1,n,h1,h2=>by
  rw[SetTable.probe.go.eq_2];obtain z|z:=zcJ n N
  ·let⟨e,H⟩:=Qk (I n z);let⟨i,F,C,Z⟩:=T.live H;rw[F];dsimp only;rw[x i e C];have u:∀s,((road t.mask h n).j,s)∈l->s=e:=λs m=>by
    let⟨i',y,G,_⟩:=T.live m;lia
   by_cases v:e.1=h
   ·refine .inr ⟨n,e,i,zcS _,z,H,v,F,C,?_,λo a b=>by lia⟩;rw[yIp (by simp[v])];rfl
   ·rw[yIn (by simp[v])];rcases T.probe x L I f (n+1) (by lia) (by lia) with⟨a,b⟩|⟨q,O,E,a1,Y,X,W,U,S,Q,P⟩
    ·refine .inl ⟨a,λo c d s m=>?_⟩;obtain rfl|c:=Nat.eq_or_lt_of_le c
     ·rw[u s m];exact v
     ·exact b o c d s m
    ·refine .inr ⟨q,O,E,by lia,Y,X,W,U,S,Q,λo c d s m=>?_⟩;obtain rfl|c:=Nat.eq_or_lt_of_le c
     ·rw[u s m];exact v
     ·exact P o c d s m
  ·obtain rfl:n=N:=by lia
   rw[T.empty L];rw[(pP t.mask h n).2];exact .inl ⟨rfl,λo a b=>by lia⟩
noncomputable def more(l:List Ent)(p:Nat)(e:Ent):List Ent:=l.take p++e::l.drop p
def fy(l:List Ent)(p:Nat)(e:Ent):(more l p e).Perm (e::l):=by
 refine List.perm_middle.trans ?_;simp
def qx{e:Type}(a:Array e)(p:Nat)(x:e):(SetTable.insertAt a p x).toList=a.toList.take p++x::a.toList.drop p:=by
 unfold SetTable.insertAt;simp[Array.toList_extract];exact zao (by simp)
def GB(T:Tab t es l){h:Int}{x:yai}:(SetTable.insertAt es (t.put j).2 (h,x)).toList=(more l (t.put j).2 (j,(h,x))).map (·.2):=by
 rw[qx,T.el];unfold more;simp
theorem Tab.put(T:Tab t es l){x:yai}(v:(road t.mask d k).j ∉ fs l)(u:∀n<k,(road t.mask d n).j∈fs l)(o:(l.length+1)*5<t.mask*3):
  Tab (t.put (road t.mask d k).j).1 (SetTable.insertAt es (t.put (road t.mask d k).j).2 (d,x)) (more l (t.put (road t.mask d k).j).2 ((road t.mask d k).j,(d,x))):=by
 have E:=pP t.mask d k;generalize C:(road t.mask d k).j=j at*;have s:SetTable.has t.dummies j=false:=by rw[T.dm];rfl
 have m:(SetTable.insertAt t.place (SetTable.below t.place j) j).toList=fs (more l (SetTable.below t.place j) (j,(d,x))):=by
  rw[qx,T.pl];unfold more fs;simp
 have sub:=λy q=>by
  have:=((fy l (SetTable.below t.place j) (j,(d,x))).map (·.1)).mem_iff (a:=y);exact this.mpr (zaz _ q)
 refine⟨?_,m,GB T,?_,T.mm,?_,?_,?_⟩
 ·show(if SetTable.has t.dummies j=true then _ else t.dummies)=#[];rw[yIn (by lia)];exact T.dm
 ·have:=gy.mp (wg T.rise (by
   cases z:t.place[SetTable.below t.place j]? ==some j with
   |false=>rfl
   |true=>
    have z:=by simpa using z
    rw[<-zax,T.pl] at z;exact absurd (zaC z) v))
  rw[m] at this;exact this
 ·rw[(fy ..).length_eq];exact o
 ·intro e i;obtain rfl|i:=zcp.mp ((fy ..).mem_iff.mp i)
  ·show j<=t.mask;lia
  ·exact T.le e i
 ·intro e i;obtain rfl|i:=zcp.mp ((fy ..).mem_iff.mp i)
  ·refine⟨k,C,λn o=>sub _ (u n o)⟩
  ·exact(T.way e i).mono sub
end
def qe(ow:Array (Option Nat))(j:Nat):Prop:=∃i,ow[j]? =some (some i)
structure Own(m:Nat)(hs:List Int)(ow:Array (Option Nat)):Prop where
 sz:ow.size=m+1
 wy:∀(j i:Nat),ow[j]? =some (some i)->i<hs.length/\Way m (qe ow) (hs.getD i 0) j
 al:∀(i:Nat),i<hs.length->∃j:Nat,ow[j]? =some (some i)
 un:∀(j j' i:Nat),ow[j]? =some (some i)->ow[j']? =some (some i)->j=j'
def LB(sz:ow.size=m+1)(h:j<=m):((ow.getD j (some 0)).isNone=true->ow[j]? =some none)/\((ow.getD j (some 0)).isNone=false->qe ow j):=by
 have a:j<ow.size:=by lia
 have e:ow.getD j (some 0)=ow[j]:=by simp[a]
 unfold qe;rw[e,zai a];cases ow[j] with
 |none=>simp
 |some i=>grind
theorem Ca{m:Nat}{ow:Array (Option Nat)}{h:Int}(sz:ow.size=m+1):∀(f k:Nat),(∃a,k<=a/\a<k+f/\ow[(ru m h a).1]? =some none)->(∀n<nk m h k,qe ow (road m h n).j)->∃j,SetTable.layClean.free m ow f (ru m h k).1 (ru m h k).2=some j/\j<=m/\ow[j]? =some none/\Way m (qe ow) h j
 |0,k,hx,_=>by lia
 |f+1,k,hx,hb=>by
  let⟨a,h1,h2,v⟩:=hx;rw[SetTable.layClean.free.eq_2];have y:=Gf (Gh m h k);have E:=zl (m:=m) (i:=(ru m h k).1);have l:=Bt m h k;cases o:(zcX (runEnd m (ru m h k).1+1 - (ru m h k).1)).find? (λc=>(ow.getD ((ru m h k).1+c) (some 0)).isNone) with
  |some c=>
   rw[List.find?_range_eq_some] at o;let⟨G,x,F⟩:=o;have x:=zcj.mp x;have u:(ru m h k).1+c<=m:=by lia
   refine⟨_,rfl,u,(LB sz u).1 G,nk m h k+c,?_,λn q=>?_⟩
   ·rw[l.2 c (by lia)]
   ·obtain z|z:=zcJ n (nk m h k)
    ·exact hb n z
    ·obtain⟨d,rfl⟩:∃d,n=nk m h k+d:=⟨n - nk m h k,by lia⟩
     rw[l.2 d (by lia)];exact(LB sz (by lia)).2 (by simp_all)
  |none=>
   rw[List.find?_range_eq_none] at o;have all:∀d,d<=runEnd m (ru m h k).1 - (ru m h k).1->qe ow ((ru m h k).1+d):=λd hd=>(LB sz (by lia)).2 (by have:=o d (by lia);simp_all);have C:k≠a:=λe=>by
    let⟨i,t⟩:=all 0 (by lia);simp_all
   exact Ca sz f (k+1) ⟨a,by lia,by lia,v⟩ λn q=>by
    have q:n<nk m h k+(runEnd m (ru m h k).1 - (ru m h k).1)+1:=q;obtain z|z:=zcJ n (nk m h k)
    ·exact hb n z
    ·obtain⟨d,rfl⟩:∃d,n=nk m h k+d:=⟨n - nk m h k,by lia⟩
     rw[l.2 d (by lia)];exact all d (by lia)
def Own.step{o:List Int}{ow:Array (Option Nat)}(O:Own m o ow)(S:full m=true)(Z:o.length<=m)(h:Int):
  ∃j,SetTable.layClean.free m ow (turns m) (bits h % (m+1)) (bits h)=some j/\Own m (o++[h]) (ow.setIfInBounds j (some o.length)):=by
 have⟨j0,z1,z2⟩:∃j,j<=m/\ow[j]? =some none:=by
  apply Classical.byContradiction;intro G;have C:∀j,j<=m->qe ow j:=λj P=>by
   cases e:ow[j]? with
   |none=>rw[zac] at e;have:=O.sz;lia
   |some x=>
    cases x with
    |none=>exact absurd ⟨j,P,e⟩ G
    |some i=>exact⟨i,e⟩
  let g:=λi=>if h:i<o.length then Classical.choose (O.al i h) else 0;have Q:∀i (h:i<o.length),ow[g i]? =some (some i):=λi h=>by
   grind
  have:=V5 (l:=zcX (m+1)) List.nodup_range λx q=>by
   have q:=zcj.mp q;let⟨i,s⟩:=C x (by lia);have v:=(O.wy x i s).1;rw[O.un x (g i) i s (Q i v)];exact zcD.mpr ⟨i,zcj.mpr v,rfl⟩
  rw[zbn,zbR,zbn] at this;lia
 let⟨k,Y,H⟩:=Gi S h z1;let⟨j,X,f2,W,U⟩:=Ca (h:=h) O.sz (turns m) 0 ⟨k,zcT _,by unfold turns;lia,by simp_all⟩ (λn I=>absurd I (zce _));refine⟨j,X,?_⟩;have cS:∀x,(ow.setIfInBounds j (some o.length))[x]? =if j=x then some (some o.length) else ow[x]?:=λx=>by
  grind
 have u:∀x,qe ow x->qe (ow.setIfInBounds j (some o.length)) x:=λx ⟨i,s⟩=>by
  unfold qe;rw[cS];by_cases e:j=x
  ·exact⟨_,yIp e⟩
  ·exact⟨i,by simp_all⟩
 refine⟨by simp[O.sz],λx i s=>?_,λi s=>?_,λx y i q t=>?_⟩
 ·rw[cS] at s;by_cases e:j=x
  ·have s:o.length=i:=by simp_all
   subst s;subst e;refine⟨by simp,?_⟩;have:(o++[h]).getD o.length 0=h:=by simp
   rw[this];exact U.mono u
  ·rw[yIn e] at s;let⟨a,b⟩:=O.wy x i s;refine⟨by rw[zaR];lia,?_⟩;have:(o++[h]).getD i 0=o.getD i 0:=by simp[zae a]
   rw[this];exact b.mono u
 ·rw[zaR] at s;by_cases e:i=o.length
  ·exact⟨j,by simp_all⟩
  ·let⟨x,q⟩:=O.al i (by have:[h].length=1:=rfl;lia);refine⟨x,?_⟩;rw[cS,yIn (λe=>by simp_all)];exact q
 ·rw[cS] at q t;by_cases F:j=x<;>by_cases E:j=y
  ·rw[<-F,E]
  ·rw[yIn E] at t;have:=(O.wy y i t).1;lia
  ·rw[yIn F] at q;have:=(O.wy x i q).1;lia
  ·rw[yIn F] at q;rw[yIn E] at t;exact O.un x y i q t
theorem Hy{m:Nat}(l:full m=true){F:Option (Array (Option Nat)×Nat)->Int->Option (Array (Option Nat)×Nat)}(n:∀ow k h j,SetTable.layClean.free m ow (turns m) (bits h % (m+1)) (bits h)=some j->F (some (ow,k)) h=some (ow.setIfInBounds j (some k),k+1)):
  ∀(rest done:List Int)(ow:Array (Option Nat)),Own m done ow->done.length+rest.length<=m->∃e,rest.foldl F (some (ow,done.length))=some (e,done.length+rest.length)/\Own m (done++rest) e
 |[],done,ow,O,_=>⟨ow,rfl,by rw[zbS];exact O⟩
 |h::rest,done,ow,O,hl=>by
  rw[zby] at hl;let⟨j,q,o⟩:=O.step l (by lia) h;have i:(done++[h]).length=done.length+1:=by simp
  let⟨e,a,b⟩:=Hy l n rest (done++[h]) _ o (by lia);refine⟨e,?_,?_⟩
  ·rw[zbX,n _ _ _ _ q];rw[i] at a;rw[zby];lia
  ·rw[zbj] at b;exact b
def gV(v:full m=true)(l:Array Int)(u:l.size<=m):∃ow,SetTable.layClean m l=some ow/\Own m l.toList ow:=by
 have x:Own m [] (Array.replicate (m+1) none):=by
  have t:∀j i,¬(Array.replicate (m+1) (none:Option Nat))[j]? =some (some i):=λj i z=>by
   rw[Array.getElem?_replicate] at z;split at z<;>simp at z
  refine⟨by simp,λj i e=>absurd e (t j i),λi e=>by simp at e,λj y i e=>absurd e (t j i)⟩
 unfold SetTable.layClean;rw[<-Array.foldl_toList];generalize o:(λ(s:Option (Array (Option Nat)×Nat))(h:Int)=>(do
  let(owner,k) <-s;let j <-SetTable.layClean.free m owner (turns m) (bits h % (m+1)) (bits h)
  pure (owner.setIfInBounds j (some k),k+1)))=F
 have q:∀ow k h j,SetTable.layClean.free m ow (turns m) (bits h % (m+1)) (bits h)=some j->F (some (ow,k)) h=some (ow.setIfInBounds j (some k),k+1):=λow k h j n=>by
  rw[<-o];show(SetTable.layClean.free m ow (turns m) (bits h % (m+1)) (bits h)).bind _=_;rw[n];rfl
 let⟨ow,a,b⟩:=Hy v (λow k h j n=>by
  exact q ow k h j n) l.toList [] _ x (by simpa using u)
 refine⟨ow,?_,b⟩;exact (congrArg (Option.map (·.1)) a)
def Gu(Z:SetTable.sizeAbove n - 1=m)(W:m=7∨m=31∨m=127)(hl:es.size*5<m*3):
  ∃t' o u,t.relaid (es.map (·.1)) n=some (t',o)/\Tab t' (o.filterMap (es[·]?)) u/\(u.map (·.2)).Perm es.toList/\t'.led=t.led/\t'.plain=t.plain:=by
 let⟨ow,a,O⟩:=gV (B7 W) (es.map (·.1)) (by rw[Array.size_map];lia);generalize E:((zcX (m+1)).filterMap λj=>(ow.getD j none).map (j,·))=live;have mem:∀j i,(j,i)∈live↔ow[j]? =some (some i):=λj i=>by
  rw[<-E,zaQ];constructor
  ·rintro⟨x,h1,h2⟩;have l:x<ow.size:=by rw[O.sz];exact (zcj.mp h1)
   have Q:ow.getD x none=ow[x]:=by simp[l]
   rw[Q] at h2;cases P:ow[x] with
   |none=>simp_all
   |some y=>
    rw[P] at h2;injection h2 with h2;injection h2 with I h4;subst I;simp_all
  ·intro h;let⟨l,e⟩:=Array.getElem?_eq_some_iff.mp h;refine⟨j,zcj.mpr (by rw[<-O.sz];exact l),?_⟩;simp_all
 have F:∀e∈live,e.2<es.size/\Way m (qe ow) ((es.getD e.2 (0,.none)).1) e.1:=λe s=>by
  let⟨h1,h2⟩:=O.wy e.1 e.2 ((mem e.1 e.2).mp s);simp_all
 have up:(live.map (·.1)).Pairwise (· < ·):=by
  rw[<-E];exact List.Pairwise.sublist (oR _ _) List.pairwise_lt_range
 have nd:=by
  rw[zbo] at up;show(live.map (·.2)).Pairwise (· ≠·);rw[zbo];refine up.imp_of_mem λ{x y} l G hlt e=>?_;have h2:=(mem y.1 y.2).mp G;rw[<-e] at h2;have:=O.un _ _ _ ((mem x.1 x.2).mp l) h2;lia
 have Y:(live.map (·.2)).Perm (zcX es.size):=by
  rw[List.perm_ext_iff_of_nodup nd List.nodup_range];intro i;rw[zcj,zcD];constructor
  ·rintro⟨e,s,rfl⟩;exact(F e s).1
  ·intro H;let⟨j,hj⟩:=O.al i (by simp_all);refine⟨(j,i),(mem j i).mpr hj,rfl⟩
 generalize v:(live.map λe=>((e.1,es.getD e.2 (0,.none)):Ent))=u;have L:fs u=live.map (·.1):=by rw[<-v];unfold fs;rw[zcC];rfl
 have X:u.map (·.2)=(live.map (·.2)).map λi=>es.getD i (0,.none):=by rw[<-v,zcC,zcC];rfl
 have S:(u.map (·.2)).Perm es.toList:=by
  rw[X];refine(Y.map _).trans ?_;have:(zcX es.size).map (λi=>es.getD i (0,.none))=es.toList:=by
   refine zbI (by simp) λi h1 h2=>?_;have I:=by simpa using h2
   simp[I]
  rw[this]
 have fm:∀q:List (Nat×Nat),(∀e∈q,e.2<es.size)->(q.map (·.2)).filterMap (es[·]?)=(q.map (·.2)).map λi=>es.getD i (0,.none):=by
  intro q
  induction q with
  |nil=>intro _;rfl
  |cons e q ih=>
   intro U;simp_all
 refine⟨{mask:=m,place:=(live.map (·.1)).toArray,dummies:=#[],finger:=t.finger,led:=t.led,moves:=t.movedTo m,plain:=t.plain},(live.map (·.2)).toArray,u,?_,⟨rfl,?_,?_,?_,W,?_,?_,?_⟩,S,rfl,rfl⟩
 ·unfold SetTable.relaid SetTable.laid;rw[Z,a];show some _=some _;rw[E]
 ·simp_all
 ·rw[Array.toList_filterMap,X];exact fm live λe s=>(F e s).1
 ·simp_all
 ·have:=S.length_eq;rw[zbR] at this;simp_all
 ·intro e s;rw[<-v] at s;let⟨x,l,rfl⟩:=zcD.mp s;let⟨h1,_⟩:=Array.getElem?_eq_some_iff.mp ((mem x.1 x.2).mp l);have:=O.sz;lia
 ·intro e s;rw[<-v] at s;let⟨x,l,rfl⟩:=zcD.mp s;refine(F x l).2.mono λy G=>?_;rw[L];let⟨i,H⟩:=G;exact zcD.mpr ⟨(y,i),(mem y i).mpr H,rfl⟩
end M8
namespace M8
open PySem PySem.Spec PyProof.Rows M5 M6 M7
open PySem.SetTable (Probe bits runEnd leap turns)
section
variable {w:yak}
def qL:∀(n:Nat)(d:yam){v:yai}{as:List Addr}{A:yal}{E:yai->yah->Prop}{s:yah}{Q:Bool->yah->Prop},d.depth<=n->bP d=true->Reads s.heap v d as->Q false s->yar (model prog w) A (ofAClassStatement n v) Q E s:=by
 intro n
 induction n with
 |zero=>
  intro d v as A E s Q hd e l h;cases l with
  |int i t=>exact yab h
  |str x t=>exact yab h
  |tuple ho hc hd' hall=>rw[bD] at hd;lia
  |none=>simp[bP] at e
  |bool b=>simp[bP] at e
  |list _ _ _ _=>simp[bP] at e
  |dict _ _ _ _ _=>simp[bP] at e
 |succ n ih=>
  intro d v as A E s Q hd e l h;cases l with
  |int i t=>exact yab h
  |str x t=>exact yab h
  |none=>simp[bP] at e
  |bool b=>simp[bP] at e
  |list _ _ _ _=>simp[bP] at e
  |dict _ _ _ _ _=>simp[bP] at e
  |@tuple a o vs m xs as ho hc hdat hall=>
   rw[bD] at hd;rw[ofAClassStatement.eq_def];refine yaa (wpAny_typeOf (fq ho hc) ?_);refine yaa (yab ?_);refine yaa (wpAny_seqItems ho hdat (yaa ?_));rw[<-zbc];refine wpAny_forIn_list _ (λrest r C=>r.1=none/\C=s/\∃left u,ReadsAll s.heap rest left u/\∀x∈left,x∈xs) _ ?_ ?_ vs.toList (none,()) ⟨rfl,rfl,xs,_,hall,λ_ q=>q⟩
   ·rintro y rest ⟨F,H⟩ C ⟨l,rfl,left,u,I,j⟩;cases I with
    |@cons _ _ d' ds as1 bs q hrest=>
     have G:=j d' (by simp);refine yaa (ih d' (by have:=cJ G;lia) (fJ e d' G) q ?_);exact yab ⟨rfl,rfl,ds,bs,hrest,λx q=>j x (zaz _ q)⟩
   ·rintro⟨F,H⟩ C ⟨l,rfl,_⟩;subst l;exact yab h
def yK:∀(n:Nat)(d:yam){v:yai}{as:List Addr}{A:yal}{E:yai->yah->Prop}{s:yah}{Q:Bool->yah->Prop},d.depth<=n->bP d=true->Reads s.heap v d as->(∀b,Q b s)->yar (model prog w) A (hashByValue n v) Q E s:=by
 intro n
 induction n with
 |zero=>
  intro d v as A E s Q hd e C h;cases C with
  |int i t=>exact yab (h _)
  |str x t=>exact yab (h _)
  |tuple ho hc hd' hall=>rw[bD] at hd;lia
  |none=>simp[bP] at e
  |bool b=>simp[bP] at e
  |list _ _ _ _=>simp[bP] at e
  |dict _ _ _ _ _=>simp[bP] at e
 |succ n ih=>
  intro d v as A E s Q hd e C h;cases C with
  |int i t=>exact yab (h _)
  |str x t=>exact yab (h _)
  |none=>simp[bP] at e
  |bool b=>simp[bP] at e
  |list _ _ _ _=>simp[bP] at e
  |dict _ _ _ _ _=>simp[bP] at e
  |@tuple a o vs m xs as ho hc hdat hall=>
   rw[bD] at hd;refine yaa (wpAny_specialOf (fq ho hc) F.slot_tuple_hash.lookup ?_);refine yaa (wpAny_seqItems ho hdat (yaa ?_));rw[<-zbc];refine wpAny_forIn_list _ (λrest r u=>u=s/\∃left q,ReadsAll s.heap rest left q/\∀x∈left,x∈xs) _ ?_ ?_ vs.toList (none,()) ⟨rfl,xs,_,hall,λ_ l=>l⟩
   ·rintro y rest ⟨G,I⟩ u ⟨rfl,left,q,L,j⟩;cases L with
    |@cons _ _ d' ds as1 bs l hrest=>
     have H:=j d' (by simp);refine yaa (ih d' (by have:=cJ H;lia) (fJ e d' H) l λb=>?_);cases b
     ·refine yab ?_;exact yab (h _)
     ·exact yab ⟨rfl,ds,bs,hrest,λx l=>j x (zaz _ l)⟩
   ·rintro⟨G,I⟩ u ⟨rfl,_⟩;cases G with
    |none=>exact yab (h _)
    |some b=>exact yab (h _)
def Eb(x:isKey s.heap d b)(u:∀v∈g,∃k a,v=.ref a/\isKey s.heap k a)(h:z false s):yar (model prog w) A (searchCouldBeSeen (.ref b) g) z E s:=by
 refine yaa ?_;refine wpAny_forIn_list _ (λrest r j=>r=(none,())/\j=s/\∀v∈rest,∃k a,v=.ref a/\isKey s.heap k a) _ ?_ ?_ g (none,()) ⟨rfl,rfl,u⟩
 ·rintro y rest r j ⟨rfl,rfl,l⟩;let⟨k,a,rfl,C⟩:=l y (by simp);have i:=λv t=>l v (zaz _ t);let⟨n,b2,bs,m⟩:=x;let⟨q,F,as,o⟩:=C;dsimp only;split
  ·exact yab ⟨rfl,rfl,i⟩
  ·refine yaa (j7 8 d (by lia) n m ?_);refine yaa (j7 8 k (by lia) q o ?_);refine yaa (qL 8 d (by lia) n m ?_);refine yaa (qL 8 k (by lia) q o ?_);exact yab ⟨rfl,rfl,i⟩
 ·rintro r j ⟨rfl,rfl,_⟩;exact yab h
noncomputable def oi(w:yak)(k:yam×Addr):Int×yai:=(bu w k.1,.ref k.2)
theorem search{a b:Addr}{o:Obj}{es:Array (Int×yai)}{ep:Nat}{t:SetTable}{l:List Ent}{ks:List (yam×Addr)}{d:yam}{Q:SetFound->yah->Prop}(ho:s.heap.get? a=some o)(hd:o.data=.set es ep t)(T:Tab t es l)(C:es.toList=ks.map (oi w))(U:∀k∈ks,isKey s.heap k.1 k.2)(hb:isKey s.heap d b)(hu:A.units+10<cLine){N:Nat}(hNf:N<10*turns t.mask)(hN:(road t.mask (bu w d) N).j ∉ fs l)(X:∀n<N,(road t.mask (bu w d) n).j∈fs l)(q1:(∃k∈ks,k.1=d)->Q (.there none) s)(q2:(∀k∈ks,k.1≠d)->Q (.free (road t.mask (bu w d) N).j false) s):
  ∀(f n:Nat)(st:Option Probe),st.getD (t.probeStart (bu w d))=road t.mask (bu w d) n->n<=N->N - n<f->(∀u<n,∀k∈ks,((road t.mask (bu w d) u).j,oi w k)∈l->k.1≠d)->
   yar (model prog w) A (setSearchFrom a (.ref b) (bu w d) true f st) Q E s
 |0,n,st,_,_,h,_=>by lia
 |f+1,n,st,hst,hn,hf,hne=>by
  have ent:∀e,e∈l.map (·.2)->∃k∈ks,e=oi w k:=λe m=>by
   rw[<-T.el,C] at m;let⟨k,h1,h2⟩:=zcD.mp m;refine⟨k,h1,h2.symm⟩
  refine yaa (wpAny_setState_of ho hd T.fits ?_);dsimp only;rw[yIn (by unfold SetTable.gaveWay;obtain e|e|e:=T.mm<;>rw[e]<;>decide)];rw[hst];unfold SetTable.probe;generalize hG:SetTable.probe.go t _ (bu w d) (10*turns t.mask) (road t.mask (bu w d) n)=G;rcases T.probe (hashAt:=λi=>(es[i]?.map (·.1)).getD 0) (λi e m=>by simp_all) hN X (10*turns t.mask) n hn (by lia) with⟨p1,p2⟩|⟨n1,e,i,c1,c2,c3,c4,c5,c6,c7,c8⟩
  ·obtain rfl:some _=G:=p1.symm.trans hG;refine yab (q2 λk P e=>?_);have hm:oi w k∈l.map (·.2):=by rw[<-T.el,C];exact zcD.mpr ⟨k,P,rfl⟩
   obtain⟨⟨j,e'⟩,q,e2⟩:=zcD.mp hm;let⟨y,L,I⟩:=T.way _ q;have hh:(oi w k).1=bu w d:=by rw[<-e];rfl
   have L:(road t.mask (bu w d) y).j=j:=by simp_all
   rw[<-L] at q;have W:(road t.mask (bu w d) y).j∈fs l:=zcD.mpr ⟨_,q,rfl⟩;grind
  ·obtain rfl:some _=G:=c7.symm.trans hG;dsimp only;let⟨k,k1,rfl⟩:=ent e (zcD.mpr ⟨_,c3,rfl⟩);have iC:∀v∈List.map (λx=>x.2) (Array.filter (λx=>x.1==bu w d) es).toList,∃k a,v=.ref a/\isKey s.heap k a:=λv hv=>by
    let⟨e,m,rfl⟩:=zcD.mp hv;rw[Array.toList_filter] at m;have m:=(zbP.mp m).1;rw[C] at m;let⟨O,h1,rfl⟩:=zcD.mp m;refine⟨O.1,O.2,rfl,U O h1⟩
   by_cases hl:(!t.led)=true
   case' pos=>(rw[yIp hl];refine yaa (Eb hb iC ?_);rw[yIn (by decide)])
   case' neg=>rw[yIn hl]
   all_goals
    rw[c6];refine yaa (yad ((cz prog w).eqBool hu (U k k1) hb ?_));refine yaa (wpAny_setState_of ho hd T.fits ?_);by_cases m:k.1=d
    ·rw[yDt m];exact yab (q1 ⟨k,k1,m⟩)
    ·rw[yDf m];have hsm:t.sameMemory t.moves t.mask=some true:=by unfold SetTable.sameMemory;simp
     rw[hsm];dsimp only;rw[yIp rfl,c5];dsimp only;rw[c6];refine yaa (wpAny_isSame_ref_self ?_);refine search ho hd T C U hb hu hNf hN X q1 q2 f (n1+1) _ rfl (by lia) (by lia) λu F O S H=>?_;obtain z|z:=zcJ u n
     ·exact hne u z O S H
     ·obtain z2|z2:=Nat.eq_or_lt_of_le (zbq F)
      ·subst z2;let⟨i',Z,Y,_⟩:=T.live H;rw[c5] at Z;injection Z with Z;subst Z;rw[c6] at Y;injection (zcW.inj Y) with _ j3;injection j3 with j3;have a2:=U O S;rw[<-j3] at a2;rw[<-(cz prog w).inj (U k k1) a2];exact m
      ·intro e;refine c8 u z z2 _ H ?_;rw[<-e];rfl
end
def eN(h h':Heap):Prop:=∀c o,o.cls=.type "tuple"->h.get? c=some o->h'.get? c=some o
def eN.trans(x:eN h h1)(y:eN h1 h2):eN h h2:=λc o e z=>y c o e (x c o e z)
def eN.but(i:h.get? b=some ob)(a:ob.cls≠ .type "tuple")(k:∀c o,c≠b->h.get? c=some o->h'.get? c=some o):eN h h':=λc o e z=>
 k c o (λj=>by simp_all) z
mutual
theorem Bx{h h':Heap}(kp:eN h h'):∀(d:yam){v:yai}{as:List Addr},bP d=true->Reads h v d as->Reads h' v d as
 |.int i,v,as,hk,hr=>by cases hr;exact .int ..
 |.str i,v,as,hk,hr=>by cases hr;exact .str ..
 |.tuple xs,v,as,hk,hr=>by
  cases hr with
  |@tuple a o vs m _ _ ho hc hdat hall=>exact .tuple (kp a o hc ho) hc hdat (wA kp xs hk hall)
 |.none,_,_,h,_=>by simp[bP] at h
 |.bool _,_,_,h,_=>by simp[bP] at h
 |.list _,_,_,h,_=>by simp[bP] at h
 |.dict _,_,_,h,_=>by simp[bP] at h
theorem wA{h h':Heap}(kp:eN h h'):∀(ds:List yam){vs:List yai}{as:List Addr},eF ds=true->ReadsAll h vs ds as->ReadsAll h' vs ds as
 |[],vs,as,hk,hr=>by cases hr;exact .nil
 |d::ds,vs,as,hk,hr=>by
  simp only[eF,zbN] at hk;cases hr with
  |cons hx hr=>exact .cons (Bx kp d hk.1 hx) (wA kp ds hk.2 hr)
end
def sP(kp:eN h h')(x:isKey h d a):isKey h' d a:=by let⟨e,i,as,j⟩:=x;refine⟨e,i,as,Bx kp d e j⟩
def ED(w:yak)(B:List (yam×Addr))(h:Heap)(a:Addr)(S:List yam):Prop:=
 ∃o e i t l,∃ks:List (yam×Addr),h.get? a=some o/\o.ExactSet/\o.data=.set e i t/\Tab t e l/\t.led=(!w.params.followText "set-order")/\e.toList=ks.map (oi w)/\(∀k∈ks,k∈B/\isKey h k.1 k.2)/\(ks.map (·.1)).Perm S
def ED.keep(x:ED w B h a d)(e:∀o,h.get? a=some o->h'.get? a=some o)(kp:eN h h'):ED w B h' a d:=
 by let⟨o,C,E,t,l,ks,y,v,u,s,q,n,i,m⟩:=x;refine⟨o,C,E,t,l,ks,e o y,v,u,s,q,n,λk j=>⟨(i k j).1,sP kp (i k j).2⟩,m⟩
noncomputable def vz(S:List yam)(x:yam):List yam:=if x∈S then S else S++[x]
def OH{o:Obj}(h:o.ExactSet):o.cls≠ .type "tuple":=by
 rw[h.1];simp
def SE(j:h.get? a=some d)(i:d.ExactSet)(sb:Heap.SameBut a h h'):eN h h':=
 eN.but j (OH i) λc d l e=>by rw[sb.2 c l];exact e
def sL{es:List (Int×yai)}(h:es.Perm (ks.map (oi w))):∃a:List (yam×Addr),a.Perm ks/\es=a.map (oi w):=gC h
section
variable {w:yak}
def Mp(hS:ED w B s.heap a g)(hbB:(d,b)∈B)(hb:isKey s.heap d b)(hu:A.units+10<cLine)(hn:g.length+1<64)(h:∀r h',Heap.SameBut a s.heap h'->eN s.heap h'->ED w B h' a (vz g d)->D r {s with heap:=h'}):
  yar (model prog w) A (setAddHashed a (.ref b) (bu w d)) D E s:=by
 obtain⟨o,es,ep,t,l,ks,I,y,hd,T,u,G,H,Y⟩:=hS;have hk:=λk i=>(H k i).2;have ae:l.length=g.length:=by
  rw[<-Y.length_eq,zbR,<-T.Vq,<-zaN,G,zbR]
 have F:=T.mm;have hnf:=T.nf;obtain⟨N,n1,n2,n3⟩:=Ac (B7 F) (bu w d) (occ:=fs l) (by unfold fs;rw[zbR];lia);refine yad (yaa (wpAny_setState_of I hd T.fits ?_));dsimp only;refine yaa ?_;refine search I hd T G hk hb hu n1 n2 n3 (λhx=>?_) (λhx=>?_) 100000 0 none rfl (zcT _) (by
  have:turns t.mask<=142:=by unfold turns;obtain e|e|e:=F<;>lia
  lia) (λn' hn'=>absurd hn' (zce _))
 ·obtain⟨k,k1,k2⟩:=hx;refine yab ?_;have q:=h false s.heap (Heap.SameBut.refl a s.heap) (λc o _ z=>z) (by
   unfold vz;rw[yIp (Y.mem_iff.mp (zcD.mpr ⟨k,k1,k2⟩))];exact⟨o,es,ep,t,l,ks,I,y,hd,T,u,G,H,Y⟩)
  exact q
 ·have hm:d ∉ g:=λz=>by
   grind
  have ac:vz g d=g++[d]:=by unfold vz;rw[yIn hm]
  rw[ac] at h;refine yaa (wpAny_setState_of I hd T.fits ?_);have hes:=GB T (j:=(road t.mask (bu w d) N).j) (h:=bu w d) (x:=.ref b);have Wj:=T.put (x:=.ref b) n2 n3;have HP:(SetTable.insertAt es (t.put (road t.mask (bu w d) N).j).2 (bu w d,Value.ref b)).size=l.length+1:=by
   rw[<-zaN,hes,zbR,(fy ..).length_eq];rfl
  have hpe:(SetTable.insertAt es (t.put (road t.mask (bu w d) N).j).2 (bu w d,Value.ref b)).toList.Perm (((d,b)::ks).map (oi w)):=by
   rw[hes];refine((fy ..).map _).trans ?_;rw[zcq,<-T.el,G];rfl
  have Ub:(t.put (road t.mask (bu w d) N).j).1.place.size=l.length+1:=by
   show(SetTable.insertAt t.place _ _).size=_;rw[<-zaN,qx,zaR,zby,zbz,zbA,zaN,T.sz];lia
  have hdm:(t.put (road t.mask (bu w d) N).j).1.dummies=#[]:=by
   have hh:SetTable.has t.dummies (road t.mask (bu w d) N).j=false:=by rw[T.dm];rfl
   show(if SetTable.has t.dummies _=true then _ else t.dummies)=#[];rw[yIn (by simp_all)];exact T.dm
  have B0:(t.put (road t.mask (bu w d) N).j).1.led=t.led:=rfl;have Uc:(t.put (road t.mask (bu w d) N).j).1.mask=t.mask:=rfl;generalize (t.put (road t.mask (bu w d) N).j)=tp at*;obtain⟨t1,p⟩:=tp;generalize hE1:SetTable.insertAt es p (bu w d,Value.ref b)=es1 at*;have X:∀n,n.place=t1.place->n.dummies=t1.dummies->n.mask=t1.mask->n.led=t1.led->yar (model prog w) A (do
    storeSet a es1 n
    if(!false&&n.tooFull)=true then do
      setRelay a (SetTable.grown (es.size+1))
      pure true
     else pure true) D E s:=by
   intro n e1 e2 Z e4;have C:=kF es1 n I hd;have O:=Heap.SameBut.update s.heap a (Obj.putSet es1 n);have U:=SE I y O;refine yaa (wpAny_storeSet_of I hd ?_ (by rw[yaf];lia));have htf:n.tooFull=decide ((l.length+1)*5≥t.mask*3):=by
    unfold SetTable.tooFull SetTable.fill;simp_all
   rw[htf];by_cases v:(l.length+1)*5≥t.mask*3
   ·rw[yDt v];have ab:n.fits es1.size=true:=by
     unfold SetTable.fits SetTable.fill;rw[e2,hdm];simp;obtain e|e|e:=F<;>lia
    have hg:SetTable.grown (es.size+1)=(l.length+1)*4:=by
     unfold SetTable.grown;rw[T.Vq,yIn (by lia)]
    obtain⟨m,m1,m2,m3,m4⟩:∃m,SetTable.sizeAbove ((l.length+1)*4) - 1=m/\(m=7∨m=31∨m=127)/\es1.size*5<m*3/\SetTable.sizeAbove ((l.length+1)*4)<=128:=by
     obtain e|e|e:=F
     ·have:l.length=4:=by lia
      rw[this];exact⟨31,by rfl,.inr (.inl rfl),by rw[HP,this];decide,by decide+kernel⟩
     ·have:l.length=18:=by lia
      rw[this];exact⟨127,by rfl,.inr (.inr rfl),by rw[HP,this];decide,by decide+kernel⟩
     ·lia
    obtain⟨t3,od,l3,r1,r2,r3,r4,r5⟩:=Gu m1 m2 m3;refine yaa ?_;refine yaa (wpAny_setState_of C rfl ab ?_);dsimp only;rw[hg,yIn (by rw[yaf];lia),r1];have Ua:(od.filterMap (es1[·]?)).size=es1.size:=by
     rw[<-zaN,r2.el,r3.length_eq,zaN]
    refine yaa ?_;show yar _ _ (if((od.filterMap (es1[·]?)).size != es1.size)=true then _ else _) _ _ _;rw[yIn (by rw[Ua];simp)];refine yab ?_;refine wpAny_storeSet_of C rfl ?_ (by rw[yaf];lia);refine yab ?_;have sb2:=O.trans (Heap.SameBut.update _ a (Obj.putSet (od.filterMap (es1[·]?)) t3));have P:=SE I y sb2;obtain⟨W,p1,p2⟩:=sL (es:=(od.filterMap (es1[·]?)).toList) (by rw[r2.el];exact r3.trans hpe);refine h true _ sb2 P ⟨_,_,_,t3,l3,W,kF _ t3 C rfl,y,rfl,r2,by simp_all,p2,λk i=>?_,?_⟩
    ·obtain rfl|i:=zcp.mp (p1.mem_iff.mp i)
     ·exact⟨hbB,sP P hb⟩
     ·exact⟨(H k i).1,sP P (hk k i)⟩
    ·refine(p1.map _).trans ?_;refine(Y.cons d).trans ?_;exact List.perm_append_singleton d g |>.symm
   ·rw[yDf v];refine yab ?_;have L:=Wj (by lia);obtain⟨W,p1,p2⟩:=sL hpe;refine h true _ O U ⟨_,_,_,n,_,W,C,y,rfl,⟨by simp_all,by rw[e1];exact L.pl,L.el,L.up,by simp_all,by rw[Z];exact L.nf,by rw[Z];exact L.le,by rw[Z];exact L.way⟩,by rw[e4,B0,u],p2,λk i=>?_,?_⟩
    ·obtain rfl|i:=zcp.mp (p1.mem_iff.mp i)
     ·exact⟨hbB,sP U hb⟩
     ·exact⟨(H k i).1,sP U (hk k i)⟩
    ·refine(p1.map _).trans ?_;refine(Y.cons d).trans ?_;exact List.perm_append_singleton d g |>.symm
  obtain⟨b1,b2,bs,b3⟩:=hb;cases hpt:t1.plain with
  |true=>
   refine yaa (yK 8 d (by lia) b1 b3 λr=>?_);cases r
   ·exact X _ rfl rfl rfl rfl
   ·exact X _ rfl rfl rfl rfl
  |false=>
   exact X _ rfl rfl rfl rfl
end
end M8
namespace M8
open PySem PySem.Spec PyProof.Rows M5 M6 M7
noncomputable def qR(val:Nat->yam):Nat->List yam
 |0=>[]
 |i+1=>vz (qR val i) (val i)
theorem qk(val:Nat->yam)(y:yam):∀n,y∈qR val n↔∃i,i<n/\val i=y
 |0=>by simp[qR]
 |n+1=>by
  have a:=qk val y n;have j:y∈qR val (n+1)↔y∈qR val n∨y=val n:=by
   show y∈vz _ _↔_;unfold vz;grind
  grind
theorem j9(val:Nat->yam):∀n,(qR val n).Nodup
 |0=>List.nodup_nil
 |n+1=>by
  have h:=j9 val n;show(vz _ _).Nodup;unfold vz;split
  ·exact h
  grind
section
variable {w:yak}
def EC(e:h.get? a=some (bw (!w.params.followText "set-order"))):ED w B h a []:=
 ⟨_,#[],0,_,[],[],e,⟨rfl,rfl,rfl⟩,rfl,⟨rfl,rfl,rfl,.nil,.inl rfl,(by show 0*5<7*3;decide),λe i=>by simp at i,λe i=>by simp at i⟩,rfl,rfl,λk j=>by simp at j,.nil⟩
end
end M8
namespace L2
open PySem PySem.Spec PyProof.Rows M6 M8
section
variable {ta:TE}
theorem jQ{a:Type}(f:a->Addr):∀{l:List a}{us:List yai},Vals (l.map λx=>V.ref (f x)) us->us=l.map λx=>Value.ref (f x)
 |[],us,h=>by cases h;rfl
 |x::l,us,h=>by
  cases h with
  |cons h1 h2=>cases h1;rw[jQ f h2];rfl
end
end L2
namespace M
open PySem PySem.Spec PyProof.Rows L2 M6
theorem wI{a e:Type}{f:a->e}{l:List a}:∀{out:List e},(∀y∈out,y∈l.map f)->∃o':List a,(∀x∈o',x∈l)/\out=o'.map f
 |[],_=>⟨[],λ_ h=>by simp at h,rfl⟩
 |y::out,h=>by
  let⟨x,j,i⟩:=zcD.mp (h y (by simp));let⟨o',n,m⟩:=wI λz hz=>h z (zaz _ hz);refine⟨x::o',λz hz=>?_,by simp_all⟩;grind
theorem sA{w:Wd}:∀{ks:List D}{a:List V},ao K w ks a->(∀k∈ks,∃es,k=.tup es)->∃bs:List Addr,a=bs.map V.ref
 |[],a,h,_=>by exact⟨[],h⟩
 |k::ks,a,h,g=>by
  let⟨x,r,rfl,h1,h2⟩:=h;let⟨es,rfl⟩:=g k (by simp);let⟨b,i,rfl,_⟩:=h1;let⟨bs,rfl⟩:=sA h2 λk e=>g k (zaz _ e);exact⟨b::bs,rfl⟩
end M
namespace M9
open PySem PySem.Spec PyProof.Rows
section
variable {w:yak}
def Lj(l:s.heap.IsTupleIter I d i)(n:s.heap.IsTuple d its)(m:its[i]? =some g)(h:∀h',h'.IsTupleIter I d (i+1)->Heap.SameBut I s.heap h'->Q g {s with heap:=h'}):yar (model prog w) A (Builtin.SmallTypes.nextOf (.ref I)) Q E s:=by
 let⟨o,a,q,hd⟩:=id l;let⟨u,e,_,v,j⟩:=n;refine yaa (wpAny_callSpecial?_slot l.typeIs F.slot_tuple_iterator_next (wpAny_call_entry F.slot_tuple_iterator_next l.typeIs F.entry_tuple_iterator_next ?_ (F.args_tuple_iterator_next_1 _)));show yar _ _ (field (.ref I) 0 >>= _) _ _ s;refine yaa (wpAny_field a hd rfl ?_);refine yaa (wpAny_field a hd rfl (yaa (wpAny_seqItems e j ?_)));simp only[zbs,m];refine yaa (wpAny_setField a hd (by simp) (yab ⟨g,rfl,yab (h _ ⟨_,zay _ a (Obj.isFreed_of_fields (Obj.data_mapFields hd _)),(Obj.cls_mapFields ..).trans q,by rw[Obj.data_mapFields hd];rfl⟩ (Heap.SameBut.update ..))⟩))
structure ZAt(h:Heap)(z TI TO i1 i2 l1 l2:Addr)(f:yai)(k:Nat):Prop where
 hz:IsZip h z TI TO f
 hTI:IsPair h TI (.ref i1) (.ref i2)
 hTO:∃a b,IsPair h TO a b
 h1:h.IsTupleIter i1 l1 k
 h2:h.IsTupleIter i2 l2 k
noncomputable abbrev R7(l:Addr):Obj:={cls:=.type "tuple_iterator",data:=.fields #[.ref l,.int 0 0]}
noncomputable abbrev WT(a b:yai):Obj:={cls:=.type "tuple",data:=.seq #[a,b]}
noncomputable abbrev zO(a b:Addr):Obj:={cls:=.type "zip",data:=.fields #[.none,.bool false,.bool false,.ref a,.ref b]}
noncomputable abbrev q2(h:Heap)(e a:Addr):Heap:=(h.push (R7 e)).push (R7 a)
noncomputable abbrev q3(h:Heap)(a e:Addr):Heap:=(q2 h a e).push (WT (.ref h.objs.size) (.ref (h.push (R7 a)).objs.size))
noncomputable abbrev q4(h:Heap)(e a:Addr):Heap:=(q3 h e a).push (WT .none .none)
noncomputable abbrev q5(h:Heap)(e a:Addr):Heap:=(q4 h e a).push (zO (q2 h e a).objs.size (q3 h e a).objs.size)
end
end M9
namespace M12
open PySem PySem.Spec PyProof.Rows M9
noncomputable abbrev ad(h:Heap)(i:Nat):Addr:=(h.objs.size+i:Nat)
noncomputable abbrev Df(a b c:yai):Obj:={cls:=.type "tuple",data:=.seq #[a,b,c]}
noncomputable abbrev JP(a:Heap)(h e:yai):Obj:={cls:=.type "zip",data:=.fields #[h,e,.bool false,.ref (ad a 3),.ref (ad a 4)]}
structure Zs(hb h0 h:Heap)(m:Nat)(os:List Obj):Prop where
 b:∀c o,hb.get? c=some o->h.get? c=some o
 c:∀(i:Nat) o,os[i]? =some o->h.get? (ad hb i)=some o
 f:∀(c:Nat) o,hb.objs.size+os.length<=c->h0.get? c=some o->h.get? c=some o
 z:h.objs.size=m
section
variable {hb h0:Heap}{m' k:Nat}{o o0:Obj}
def Zs.put(Z:Zs hb h0 h m os)(s:os[i]? =some o0)(S:Heap.SameBut (ad hb i) h h')(e:h'.get? (ad hb i)=some o):Zs hb h0 h' m (os.set i o):=by
 refine⟨λc a q=>S.extBut _ _ (zcE (zaY (zcP q) (Nat.le_add_right _ _))) (Z.b c a q),λj a q=>?_,λc a l q=>?_,S.1.trans Z.z⟩
 ·rw[zbk] at q;split at q
  ·simp_all
  ·next h=>exact S.extBut _ _ (λe=>h (zaM e).symm) (Z.c j a q)
 ·rw[zcb] at l;exact S.extBut _ _ (zcH (zaY (Nat.add_lt_add_left ((zad.mp s).1) _) l)) (Z.f c a l q)
def Zs.to(Z:Zs hb h0 h m os)(k:∀c o,h.get? c=some o->h'.get? c=some o)(e:h'.objs.size=m'):Zs hb h' h' m' os:=
 ⟨λc o q=>k c o (Z.b c o q),λi o q=>k _ o (Z.c i o q),λ_ _ _ q=>q,e⟩
def Zs.upd(Z:Zs hb h h m os)(f:Obj->Obj)(a:os.length<=i):Zs hb (h.update (ad hb i) f) (h.update (ad hb i) f) m os:=
 have S:=Heap.SameBut.update h (ad hb i) f
 ⟨λb o e=>S.extBut _ _ (zcE (zaY (zcP e) (Nat.le_add_right _ _))) (Z.b b o e),λj o e=>S.extBut _ _ (λl=>Nat.not_le.mpr (zaM l▸(zad.mp e).1) a) (Z.c j o e),λ_ _ _ e=>e,S.1.trans Z.z⟩
def U9(b:Bool)(o:Obj)(l:Addr)(k:Nat):Prop:=o.cls=.type (if b then "list_iterator" else "tuple_iterator")/\o.data=.fields #[.ref l,.int k 0]
def Sq(b:Bool)(h:Heap)(l:Addr)(a:Array yai):Prop:=if b then h.IsList l a else h.IsTuple l a
def ZZ(hb h0 h:Heap)(m:Nat)(q n l:Addr)(k:Nat)(j:Obj):Prop:=
 ∃o0 i e a b c,U9 true o0 q k/\U9 false i n k/\U9 true e l k/\Zs hb h0 h m [o0,i,e,Df (.ref (ad hb 0)) (.ref (ad hb 1)) (.ref (ad hb 2)),Df a b c,j]
variable {w:yak}{l1 l2 l3:Addr}{xs ys zs:Array yai}{x y v f0 f1 a b c:yai}
def nx(Z:Zs hb h0 s.heap m os)(j:os[i]? =some o)(I:U9 d o l k)(M:Sq d hb l xs)(q:xs[k]? =some x)(h:∀h' o',U9 d o' l (k+1)->Zs hb h0 h' m (os.set i o')->Q x {s with heap:=h'}):yar (model prog w) A (Builtin.SmallTypes.nextOf (.ref (ad hb i))) Q E s:=by
 cases d
 ·refine Lj ⟨o,Z.c i o j,I⟩ (Heap.IsTuple.at M λo e=>Z.b _ o e) q λh' J S=>?_;let⟨o',e,n⟩:=J;exact h h' o' n (Z.put j S e)
 ·refine wpAny_nextOf_list_item ⟨o,Z.c i o j,I⟩ (Heap.IsList.at M λo e=>Z.b _ o e) q λh' J S=>?_;let⟨o',e,n⟩:=J;exact h h' o' n (Z.put j S e)
def tQ(Z:Zs hb h0 s.heap m os)(e:os[4]? =some (Df a b c))(h:∀h',Zs hb h0 h' m (os.set 4 {cls:=.type "tuple",data:=.seq ((#[a,b,c]:Array yai).setIfInBounds d x)})->g () {s with heap:=h'}):
  yar (model prog w) A (updateSeq (ad hb 4) (·.setIfInBounds d x)) g E s:=by
 have i:=Z.c 4 _ e;refine wpAny_updateSeq i rfl (h _ (Z.put e (Heap.SameBut.update ..) ?_));rw[zay _ i rfl];simp[Obj.mapSeq]
def oB(Z:Zs hb h0 s.heap m os)(i:os[5]? =some (JP hb f0 f1))(j:k<5)(h:∀h',Zs hb h0 h' m (os.set 5 {cls:=.type "zip",data:=.fields ((#[f0,f1,.bool false,.ref (ad hb 3),.ref (ad hb 4)]:Array yai).setIfInBounds k x)})->d () {s with heap:=h'}):
  yar (model prog w) A (setField (.ref (ad hb 5)) k x) d E s:=
 wpAny_setField_rec (Z.c 5 _ i) j λh' e S=>h h' (Z.put i S e)
def Fr(hb h:Heap)(f0 f1:yai):Prop:=∃(T:Nat)(e:Obj)(f:Bool),f0=rawInt T/\f1=.bool f/\h.get? T=some e/\hb.objs.size+6<T
def DA{T:Nat}(Z:Zs hb h0 s.heap m os)(e:os[5]? =some (JP hb (rawInt T) (.bool d)))(i:s.heap.get? T=some o)(h:∀g,Zs hb h0 g m (os.set 5 (JP hb (rawInt T) (.bool true)))->q false {s with heap:=g}):yar (model prog w) A (Builtin.SmallTypes.ownedTupleIsFree (.ref (ad hb 5))) q E s:=by
 have hz:=Z.c 5 _ e;refine yaa (wpAny_field hz rfl rfl ?_);refine yaa (PySem.W.kdx_alive i ?_);refine yaa (wpAny_field hz rfl rfl ?_);cases d with
 |true=>
  exact yab (h _ (Z.put e (Heap.SameBut.refl _ _) hz))
 |false=>
  exact yaa (oB Z e (by decide) λg Z=>yab (h g Z))
def EI(M1:Sq true hb l1 xs)(M2:Sq false hb l2 ys)(M3:Sq true hb l3 zs)(Z:ZZ hb s.heap s.heap m l1 l2 l3 k (JP hb f0 f1))(hf:(f0=.none/\f1=.bool false)∨Fr hb s.heap f0 f1)(hs:hb.objs.size+6<m)(i:(∃x y v,xs[k]? =some x/\ys[k]? =some y/\zs[k]? =some v/\∀h' W U,ZZ hb h' h' (m+1) l1 l2 l3 (k+1) (JP hb W U)->Fr hb h' W U->h'.get? m=some (Df x y v)->(∀(c:Nat) o,hb.objs.size+6<=c->s.heap.get? c=some o->h'.get? c=some o)->d (some (.ref m)) {s with heap:=h'})∨(xs[k]? =none/\f0≠ .none/\A.handled=none/\∀h',(∀c o,hb.get? c=some o->h'.get? c=some o)->(∀(c:Nat) o,hb.objs.size+6<=c->s.heap.get? c=some o->h'.get? c=some o)->d none {s with heap:=h'})):
  yar (model prog w) A (pyNext (.ref (ad hb 5))) d E s:=by
 let⟨o0,H,G,a,b,c,l,u,t,Z⟩:=Z;have hz:=Z.c 5 _ rfl;have O:s.TypeIs (.ref (ad hb 5)) "zip":=⟨_,hz,rfl⟩
 refine yaa (wpAny_attempt (wpAny_callSpecial?_slot O F.slot_zip_next (wpAny_call_entry F.slot_zip_next O F.entry_zip_next ?_ (F.args_zip_next_1 _))));show yar _ _ (field (.ref (ad hb 5)) 2 >>= _) _ _ _;refine yaa (wpAny_field hz rfl rfl ?_);refine yaa (wpAny_field hz rfl rfl (yaa (wpAny_seqItems (Z.c 3 _ rfl) rfl ?_)));rcases hf with⟨rfl,rfl⟩|⟨T,oT,f,rfl,rfl,O,L⟩
 ·refine yaa ?_;refine yaa (wpAny_field hz rfl rfl (yab ?_));rcases i with⟨x,y,v,I,X,Y,P⟩|⟨_,h,_⟩
  ·refine yaa (wpAny_rule (yaa (wpAny_field hz rfl rfl (yaa (oB Z rfl (by decide) λg1 Z=>?_)))));refine yaa ?_;refine yaa (yaa (yaB ?_));refine yaa (nx Z rfl l M1 I λj o0 l Z=>yab (yaa (wpAny_seqItems (Z.c 4 _ rfl) rfl (yaa (tQ Z rfl λn Z=>?_)))));refine yaa (wpAny_letGo (yab (yaa (yaa (yaB ?_)))));refine yaa (nx Z rfl u M2 X λj H u Z=>yab (yaa (wpAny_seqItems (Z.c 4 _ rfl) rfl (yaa (tQ Z rfl λn Z=>?_)))));refine yaa (wpAny_letGo (yab (yaa (yaa (yaB ?_)))));refine yaa (nx Z rfl t M3 Y λj G t Z=>yab (yaa (wpAny_seqItems (Z.c 4 _ rfl) rfl (yaa (tQ Z rfl λn C=>?_)))))
   replace C:Zs hb s.heap n m [o0,H,G,Df (.ref (ad hb 0)) (.ref (ad hb 1)) (.ref (ad hb 2)),Df x y v,JP hb .ellipsis (.bool false)]:=C
   refine yaa (wpAny_letGo (yab (yab (yaa (wpAny_seqItems (C.c 4 _ rfl) rfl (yaa (wpAny_newTuple ?_)))))));have hm:=C.z;subst hm;have hp:(n.push (Df x y v)).get? n.objs.size=some (Df x y v):=zaO _ rfl;refine yaa ?_;refine yaa (oB (C.to (h':=n.push (Df x y v)) (λ_ _ e=>zas _ e) (zco ..)) rfl (by decide) λg9 Z9=>oB Z9 rfl (by decide) λg Z=>?_);have e:=Z.f _ _ (zcG hs) hp;exact yab ⟨_,rfl,yab (P g _ _ ⟨o0,H,G,_,_,_,l,u,t,Z.to (λ_ _ e=>e) Z.z⟩ ⟨_,_,_,rfl,rfl,e,hs⟩ e λc o i e=>Z.f c o i (zas _ (C.f c o i e)))⟩
  ·exact absurd rfl h
 ·refine yaa (DA Z rfl O λg1 Z=>?_);refine yaa (yaa (yaa (yad ?_)));rcases i with⟨x,y,v,I,X,Y,P⟩|⟨I,_,hh,P⟩
  ·refine yaa (nx Z rfl l M1 I λj o0 l Z=>yab (yab (yaa (yaa (yad ?_)))));refine yaa (nx Z rfl u M2 X λj H u Z=>yab (yab (yaa (yaa (yad ?_)))));refine yaa (nx Z rfl t M3 Y λj G t Z=>yab (yab (yab ?_)));show yar _ _ (newTuple [x,y,v] >>= _) _ _ _;refine yaa (wpAny_newTuple (yab ⟨_,rfl,yab ?_⟩));have hm:=Z.z;subst hm;have kp:∀c o,j.get? c=some o->(j.push (Df x y v)).get? c=some o:=λ_ _ e=>zas _ e;exact P _ _ _ ⟨o0,H,G,_,_,_,l,u,t,Z.to kp (zco ..)⟩ ⟨_,_,_,rfl,rfl,kp _ _ (Z.f _ _ (zcG L) O),L⟩ (zaO _ rfl) λc o i e=>kp c o (Z.f c o i e)
  ·refine yaa (wpAny_nextOf_list_end hh ⟨_,Z.c 0 _ rfl,l⟩ (Heap.IsList.at M1 λo e=>Z.b _ o e) I λj e S he=>?_);let⟨oe,hoe,hce⟩:=he;exact yaa (wpAny_isInstance ⟨oe,hoe,hce⟩ isSubtype_stop (yab (P j (λc o q=>S _ _ (zcE (zcP q)) (Z.b c o q)) λc o i q=>S _ _ (zcH (zaY (Nat.lt_add_of_pos_right (by decide)) i)) (Z.f c o i q))))
end
namespace F
def pB(a b c:yai):checkTypeCall "zip" ⟨[a,b,c],[]⟩=pure ():=by rfl
def rG(a b c:yai):checkBuiltinCall "zip.__new__" ⟨[.type "zip",a,b,c],[]⟩=pure ():=by kernel_rfl
def kr(a b c d:yai):argsOk "object.__init__" ⟨[a,b,c,d],[]⟩:=by
 rfl
def yI:typeLookup (.type "zip") "__len__"=pure none:=by rfl
def vH:typeLookup (.type "zip") "__length_hint__"=pure none:=by rfl
end F
noncomputable abbrev Vm(l:Addr):Obj:={cls:=.type "list_iterator",data:=.fields #[.ref l,.int 0 0]}
noncomputable def pu:Heap->List Obj->Heap
 |h,[]=>h
 |h,o::os=>pu (h.push o) os
def GF(e:h.get? d=some g):(pu h os).get? d=some g:=by
 induction os generalizing h with
 |nil=>exact e
 |cons o' os ih=>exact ih (zas _ e)
def K2:(pu h os).objs.size=h.objs.size+os.length:=by
 induction os generalizing h with
 |nil=>rfl
 |cons o os ih=>exact(ih).trans (by rw[zco,zby];lia)
def PD(a:∀o∈os,o.isFreed=false)(e:os[i]? =some o'):(pu h os).get? (ad h i)=some o':=by
 induction os generalizing h i with
 |nil=>cases e
 |cons o os ih=>
  cases i with
  |zero=>cases e;exact GF (os:=os) (zaO _ (a _ (by simp)))
  |succ i=>
   have q:=ih (h:=h.push o) (λx j=>a x (zaz _ j)) e;have l:ad (h.push o) i=ad h (i+1):=by
    show(h.push o).objs.size+i=h.objs.size+(i+1);rw[zco];lia
   rw[l] at q;exact q
noncomputable abbrev p3(h e a:Addr):List Obj:=[Vm h,R7 e,Vm a]
noncomputable abbrev p6(h:Heap)(i e a:Addr):List Obj:=p3 i e a++[Df (.ref (ad h 0)) (.ref (ad h 1)) (.ref (ad h 2)),Df .none .none .none,JP h .none (.bool false)]
def R4(a i j:Addr)(x v u:Array yai):
  Meets (Builtin.«zip.__new__» ⟨[.type "zip",.ref a,.ref i,.ref j],[]⟩) (λ_ R s=>s.heap.IsList a x/\s.heap.IsTuple i v/\s.heap.IsList j u/\R (.ok (.ret (.ref (ad s.heap 5)))) {s with heap:=pu s.heap (p6 s.heap a i j)}):=
 .of_wp λprog w A R s h=>by
  let⟨m,g,d,l,os⟩:=s;let⟨t,q,n,h⟩:=h;have y:=sub_zip;have m2:Heap.IsTuple (Shared.heap ⟨m.push (Vm a),g,d,l,os⟩) i v:=q.at λo e=>zas _ e;have m3:Heap.IsList (Shared.heap ⟨(m.push (Vm a)).push (R7 i),g,d,l,os⟩) j u:=n.at λo e=>zas _ (zas _ e)
  wp_walk using wpAny_pyIter_list t,wpAny_pyIter_tuple m2,wpAny_pyIter_list m3
  simp only[zco];refine⟨_,rfl,h⟩
section
variable {w:yak}{l1 l2 l3:Addr}{xs ys zs:Array yai}{hb:Heap}
def Oc(l:s.heap.IsList l1 xs)(j:s.heap.IsTuple l2 ys)(a:s.heap.IsList l3 zs)(h:∀h',ZZ s.heap h' h' (s.heap.objs.size+6) l1 l2 l3 0 (JP s.heap .none (.bool false))->Q (.ref (ad s.heap 5)) {s with heap:=h'}):
  yar (model prog w) A (call (.type "zip") [.ref l1,.ref l2,.ref l3]) Q E s:=by
 refine callType_new PySem.F.called_zip (by decide) (F.pB _ _ _) (F.rG _ _ _) (λobj=>F.kr obj _ _ _) PySem.F.entry_zip_new (R4 l1 l2 l3 xs ys zs) ⟨l,j,a,?_⟩;have g:=λi o=>PD (os:=p6 s.heap l1 l2 l3) (h:=s.heap) (i:=i) (o':=o) λo h=>by
  simp only[zbH,zbY,zcp,zbL,or_false] at h;obtain rfl|rfl|rfl|rfl|rfl|rfl:=h<;>rfl
 exact⟨⟨_,g 5 _ rfl,rfl⟩,h _ ⟨_,_,_,_,_,_,⟨rfl,rfl⟩,⟨rfl,rfl⟩,⟨rfl,rfl⟩,λ_ _ e=>GF e,g,λ_ _ _ e=>e,K2⟩⟩
def HM(a:s.TypeIs (.ref I) "zip")(h:d true s):yar (model prog w) A (Builtin.List.listLengthHint (.ref I)) d E s:=by
 refine yaa (wpAny_specialOf a F.yI ?_);exact yaa (wpAny_specialOf a F.vH (yab h))
def Tl(hb:Heap)(xs ys zs:Array yai)(i:Nat)(h:Heap):Prop:=∃a c,h.get? (ad hb 6)=some {cls:=.type "list",dict:=none,data:=.seq a c,slots:=#[]}/\a.toList=(zcX i).map (λj=>Value.ref (ad hb (7+j)))/\
 ∀j x y v,j<i->xs[j]? =some x->ys[j]? =some y->zs[j]? =some v->h.get? (ad hb (7+j))=some (Df x y v)
theorem Ob{R:Result->yah->Prop}(hh:A.handled=none)(M1:Sq true hb l1 xs)(M2:Sq false hb l2 ys)(X:Sq true hb l3 zs)(e1:xs.size=m)(e2:ys.size=m)(e3:zs.size=m)(hm:0<m)(hn:m<=yag)(res:yai)(hR:∀h',(∀c o,hb.get? c=some o->h'.get? c=some o)->Tl hb xs ys zs m h'->R (.ok (.ret res)) {s with heap:=h'}):
  ∀(k i:Nat)(h:Heap)(C u:yai),m - i=k->i<=m->ZZ hb h h (hb.objs.size+(7+i)) l1 l2 l3 i (JP hb C u)->(i=0/\C=.none/\u=.bool false)∨Fr hb h C u->Tl hb xs ys zs i h->
   codeAny (model prog w) A (.builtin "list.extend.loop" ⟨[.ref (ad hb 6),.ref (ad hb 5),res],[]⟩) R {s with heap:=h}:=by
 intro k;have G:∀j,hb.objs.size+6<hb.objs.size+(7+j):=λj=>by lia
 induction k with
 |zero=>
  intro i h C u hk hi O E n;obtain rfl:i=m:=by lia
  refine codeAny_builtin PySem.F.entry_extend_loop ?_;refine yaa (EI M1 M2 X O (E.imp And.right id) (G _) (.inr ⟨zar (by lia),λe=>?_,hh,λh' k1 U=>?_⟩))
  ·rcases E with⟨h,_⟩|⟨_,_,_,h,_⟩
   ·lia
   ·rw[h] at e;cases e
  ·let⟨l,c,H,q2,q3⟩:=n;exact yab (hR h' k1 ⟨l,c,U _ _ (zcS _) H,q2,λj x y v t a b c=>U _ _ (zcG (G j)) (q3 j x y v t a b c)⟩)
 |succ k ih=>
  intro i h C u hk hi O E n;let⟨l,c,H,q2,q3⟩:=n;have q:l.size=i:=by rw[<-zaN,q2,zbR,zbn]
  refine codeAny_builtin PySem.F.entry_extend_loop ?_;refine yaa (EI M1 M2 X O (E.imp And.right id) (G _) (.inl ⟨_,_,_,zai (by lia),zai (by lia),zai (by lia),λh' Q P L I n kp=>?_⟩));have W:=kp (ad hb 6) _ (zcS _) H;have up:∀b o,b≠ad hb 6->h'.get? b=some o->(h'.update (ad hb 6) (Obj.mapSeq (·.push (Value.ref (ad hb (7+i)))))).get? b=some o:=λb o hb e=>(zat _ _ (Ne.symm hb)).trans e;have n7:∀j,ad hb (7+j)≠ad hb 6:=λj e=>by lia
  refine yaa (wpAny_updateSeq W rfl (yab ⟨plainId_quiet PySem.F.plain_extend_loop _,ih (i+1) _ Q P (by lia) (by lia) ?_ (.inr ?_) ⟨l.push (.ref (ad hb (7+i))),_,zay _ W rfl,?_,λj x y v t a b c=>?_⟩⟩) (by lia) (by rw[Array.size_push];lia))
  ·let⟨o0,o1,o2,a,b,c,i0,i1,i2,Z⟩:=L;refine⟨o0,o1,o2,a,b,c,i0,i1,i2,Z.upd _ (zcS 6)⟩
  ·let⟨T,oT,f,r1,r2,Y,S⟩:=I;refine⟨T,oT,f,r1,r2,up _ _ (zcH S) Y,S⟩
  ·rw[zbt,q2,zcc,zbZ];rfl
  ·refine up _ _ (n7 j) ?_;obtain t|rfl:=Nat.lt_succ_iff_lt_or_eq.mp t
   ·exact kp _ _ (zcG (G j)) (q3 j x y v t a b c)
   ·rw[zai (by lia)] at a b c;simp_all
end
end M12
namespace M12
open PySem PySem.Spec PyProof.Rows M9
section
variable {w:yak}
def Ht(hh:A.handled=none)(M1:Sq true z O g)(M2:Sq false z L k)(M3:Sq true z d r)(Z:ZZ z s.heap s.heap (z.objs.size+6) O L d 0 (JP z .none (.bool false)))(e1:g.size=m)(e2:k.size=m)(e3:r.size=m)(hm:0<m)(hsz:m<=yag)(hQ:∀h',(∀c o,z.get? c=some o->h'.get? c=some o)->Tl z g k r m h'->Q (.ref (ad z 6)) {s with heap:=h'}):
  yar (model prog w) A (call (.type "list") [.ref (ad z 5)]) Q E s:=by
 let⟨X,W,U,a,b,c,i0,i1,Y,Z⟩:=Z;have u:=Z.z;refine callType_codes (Q₁:=λobj t=>obj=.ref (ad z 6)/\t={s with heap:=s.heap.push {cls:=.type "list",data:=.seq #[]}}) PySem.F.called_list (PySem.F.typeCall_list_1 _) PySem.F.entry_list_init
  (code_list_new _ ⟨by rw[u],rfl⟩) λobj t v=>?_
 let⟨rfl,rfl⟩:=v;have x:(s.heap.push {cls:=.type "list",data:=.seq #[]}).get? (ad z 6)=some {cls:=.type "list",data:=.seq #[]}:=by rw[show ad z 6=s.heap.objs.size from u.symm];exact zaO _ rfl
 replace Z:=Z.to (h':=s.heap.push {cls:=.type "list",data:=.seq #[]}) (λ_ _ e=>zas _ e) (by rw[zco,u])
 refine⟨⟨_,x,rfl⟩,PySem.F.args_list_init_2 _ _,?_⟩;generalize s.heap.push {cls:=.type "list",data:=.seq #[]}=g1 at x Z⊢;refine yaa ?_;refine yaa (wpAny_seqItems x rfl (yab ?_));refine yaa (wpAny_updateSeq x rfl (yaa (wpAny_letGo ?_)));have n:=zay (Obj.mapSeq (λ_=>(#[]:Array yai))) x rfl
 replace Z:=Z.upd (Obj.mapSeq (λ_=>(#[]:Array yai))) (zcS 6)
 generalize g1.update (ad z 6) (Obj.mapSeq (λ_=>(#[]:Array yai)))=g2 at n Z⊢;have H:=Z.c 5 _ rfl;have P:Shared.TypeIs {s with heap:=g2} (.ref (ad z 5)) "zip":=⟨_,H,rfl⟩
 refine yaa (wpAny_typeOf P ?_);have h1:Builtin.List.listSameRef (.ref (ad z 6)) (.ref (ad z 5))=false:=by simp[Builtin.List.listSameRef]
 simp only[h1];refine yaa (wpAny_pyIter_zip H (yaa (yad (HM P ?_))));refine yaa (wpAny_rule (yaa ?_));have q:=zay (Obj.mapSeq (·.push Value.none)) n rfl;refine yaa (wpAny_updateSeq n rfl (wpAny_updateSeq q rfl ?_));exact yab ⟨plainId_quiet PySem.F.plain_extend_loop _,Ob (A:=A.in1) hh M1 M2 M3 e1 e2 e3 hm hsz .none (λh' S q2=>⟨rfl,hQ h' S q2⟩) m 0 _ _ _ rfl (zcT _) ⟨X,W,U,a,b,c,i0,i1,Y,(Z.upd _ (zcS 6)).upd _ (zcS 6)⟩ (.inl ⟨rfl,rfl,rfl⟩) ⟨#[],_,zay (Obj.mapSeq (·.pop)) q rfl,rfl,λj _ _ _ h=>absurd h (zce j)⟩⟩
end
end M12
namespace L2
open PySem PySem.Spec PyProof.Rows M12
noncomputable def JQ(h e a:List V):List (List V):=(h.zip (e.zip a)).map λt=>[t.1,t.2.1,t.2.2]
noncomputable def nZ:Hp->List (Addr×List V)->Hp
 |H,[]=>H
 |H,(a,t)::r=>nZ (upd H a (.tup t)) r
theorem uW:∀{r:List (Addr×List V)}{H:Hp},(∀t∈r,t.1≠d)->nZ H r d=H d
 |[],_,_=>rfl
 |(a,t)::r,H,h=>by
  show nZ (upd H a (.tup t)) r d=_;rw[uW λu e=>h u (zaz _ e),aM (Ne.symm (h (a,t) (by simp)))]
def ML(K:yaI)(q:TA):TE:=λo H Q=>q o H λvs h=>∃n m l j e i,vs=[.ref n,.ref m,.ref l]/\dS K h n j/\eS K h m e/\dS K h l i/\j.length=e.length/\i.length=e.length/\0<e.length/\e.length<=1000/\
 ∀(as:List Addr)(p:Addr),as.Nodup->p ∉ as->(∀a∈p::as,h a=none)->as.length=e.length->Q (.ref p) (upd (nZ h (as.zip (JQ j e i))) p (.lst (as.map V.ref)))
def J6(h:(JQ xs d g)[j]? =some k):∃x y z,xs[j]? =some x/\d[j]? =some y/\g[j]? =some z/\k=[x,y,z]:=by
 unfold JQ at h;rw[zbh] at h;cases e:(xs.zip (d.zip g))[j]? with
 |none=>rw[e] at h;cases h
 |some p=>
  rw[e] at h;let⟨h1,h2⟩:=zaf.mp e;let⟨m,l⟩:=zaf.mp h2;refine⟨_,_,_,h1,m,l,(zcW.inj h).symm⟩
section
variable {σ:St}
theorem Inv.nZ(n:Nat)(l:X.s₀.heap.objs.size<=n)(i:∀D,n<=D->D≠X.env.locals/\(∀x c,X.env.cells.lookup x=some c->c≠D)/\∀p∈X.pn++pins,p.1≠D):
  ∀(r:List (Addr×List V))(H:Hp),Inv X pins σ H s->(r.map (·.1)).Nodup->(∀t∈r,n<=t.1/\H t.1=none/\∀H',aQ X.prog X.w H' s.heap t.1 (.tup t.2))->Inv X pins σ (nZ H r) s
 |[],H,I,_,_=>I
 |(a,t)::r,H,I,hd,h=>by
  let⟨h1,h2,v⟩:=h (a,t) (by simp);rw[zcq,zbT] at hd;refine Inv.nZ n l i r _ (I.vL h2 (zcF l h1) (i a h1).1 (i a h1).2.1 (i a h1).2.2 (v _)) hd.2 λu j=>?_;let⟨q,o,m⟩:=h u (zaz _ j);refine⟨q,?_,m⟩;rw[aM (λe=>hd.1 (zcD.mpr ⟨u,j,e⟩))];exact o
end
section
variable {a b:Expr}{ta:TA}
theorem uD(hc:X.calm=true)(hg:Gl X "list")(hm:X.mg "list"=none)(hg2:Gl X "zip")(hm2:X.mg "zip"=none)(v:PA X [a,b,c] ta)(hs:autoParam (yao [a,b,c] X.env=[(false,eval a X.env),(false,eval b X.env),(false,eval c X.env)]) r0)(P:autoParam (yao [b,c] X.env=[(false,eval b X.env),(false,eval c X.env)]) r0):
  PE X (.Call (.Name "list" p) [.Call (.Name "zip" p2) [a,b,c] [] pos2] [] pos) (ML X.K ta):=by
 intro C s σ H Q I h;refine wpAny_Call_Name_kw (dH I hg hm boot_list ?_ (by decide+kernel) (by rfl));refine PyProof.Rows.callWith_type1 ?_ (aN [] X.env rfl) rfl;refine zbe ?_;refine Call_ (dH I hg2 hm2 (by rfl) (PyProof.Rows.callWith_type1 (bW (v pos2 C s σ H _ I h) λus l z1'=>?_) (by rw[hs,P]) (by rw[P];rfl)) (by decide+kernel) (by rfl));let⟨vs,H1,F,r1,G⟩:=z1';let⟨l1,l2,l3,xs,O,zs,e,g1,g2,g3,n1,n2,n3,n4,q⟩:=G;subst e;cases r1 with
 |cons r rr=>cases rr with
  |cons r' rr'=>cases rr' with
   |cons r'' rr''=>
    cases rr'';cases r;cases r';cases r'';let⟨i1,v1,t1,_⟩:=F.list g1;let⟨i2,v2,t2,_⟩:=F.tuple g2;let⟨i3,v3,t3,_⟩:=F.list g3;have c1:=v1.length;have c2:=v2.length;have c3:=v3.length;have M2:=t2;refine Oc t1.isList M2 t3.isList λh' Z=>zbx ?_;refine Ht (F.ok.hd hc) t1.isList M2 t3.isList Z (by simp;lia) (by simp;lia) (by simp;lia) n3 (by omega) λh2 kp2 T=>?_;let⟨U,cc,k2,k5,k4⟩:=T;have I2:Inv X C σ H1 {l with heap:=h2}:=F.kept kp2;generalize L:(zcX O.length).map (λj=>ad l.heap (7+j))=as;have W:∀j a,as[j]? =some a->a=ad l.heap (7+j)/\j<O.length:=λj a h=>by
     rw[<-L,zbh,Option.map_eq_some_iff] at h;let⟨b,hb,rfl⟩:=h;let⟨G,q2⟩:=zad.mp hb;rw[zaV] at q2;simp_all
    have k3:as.length=O.length:=by rw[<-L,zbR,zbn]
    have nd:as.Nodup:=zah.mpr λi j h1 h2 h e=>by
     have e1:=(W i _ (zak h1)).1;have e2:=(W j _ (zak h2)).1;lia
    have up:∀a∈as,l.heap.objs.size+6<a:=λa v=>by
     let⟨j,S⟩:=List.mem_iff_getElem?.mp v;rw[(W j a S).1];lia
    have none:∀a,l.heap.objs.size<=a->H1 a=none:=λa v=>F.hok.fresh v;have Y:∀D,l.heap.objs.size<=D->D≠X.env.locals/\(∀x c,X.env.cells.lookup x=some c->c≠D)/\∀p∈X.pn++C,p.1≠D:=λD hD=>let f:=F.vc hD (none D hD);⟨f.2.1,f.2.2.2.2.1,f.2.2.2.2.2⟩;have em:(as.zip (JQ xs O zs)).map (·.1)=as:=zbF (by simp[JQ];lia);have I3:=Inv.nZ l.heap.objs.size F.sz Y (as.zip (JQ xs O zs)) H1 I2 (by rw[em];exact nd) λt ht=>by
     let⟨j,S⟩:=List.mem_iff_getElem?.mp ht;let⟨G,q2⟩:=zaf.mp S;have v:l.heap.objs.size<=t.1:=zcG (zcI (by lia) (up _ (zaC G)));refine⟨v,none _ v,λH'=>?_⟩;let⟨x,y,z,w1,w2,w3,w4⟩:=J6 q2;let⟨e,S⟩:=W j _ G;let⟨a1,a2,a3⟩:=v1.get w1;let⟨a4,a5,a6⟩:=v2.get w2;let⟨a7,a8,a9⟩:=v3.get w3;rw[w4,e];refine⟨by rw[yaf];show 3<=_;lia,[a1,a4,a7],.cons a3 (.cons a6 (.cons a9 .nil)),⟨_,k4 j _ _ _ S (by simpa using a2) (by simpa using a5) (by simpa using a8),rfl,_,rfl⟩⟩
    have n:l.heap.objs.size<=(l.heap.objs.size+6:Nat):=by lia
    have pn:=λh=>zcu _ (up _ h);have I4:=I3.vL (o:=.lst (as.map V.ref)) (by rw[uW λt ht e=>pn (by rw[<-e];exact(zbU ht).1)];exact none _ n) (zcF F.sz n) (Y _ n).1 (Y _ n).2.1 (Y _ n).2.2
     ⟨by rw[zbR];lia,as.map Value.ref,cc,jr (λa=>a) as,by rw[k2,<-L,zcC,show U=(U.toList).toArray from rfl,k5];rfl⟩
    refine⟨.ref (l.heap.objs.size+6:Nat),_,I4,rfl,q as _ nd pn (λa v=>?_) k3⟩;obtain rfl|v:=zcp.mp v
    ·exact none _ n
    ·exact none _ (zcG (zcI (by lia) (up _ v)))
end
end L2
namespace M
open PySem PySem.Spec PyProof.Rows L2
noncomputable def vK(es fs a:List D):List (List D):=(es.zip (fs.zip a)).map λt=>[t.1,t.2.1,t.2.2]
def EO(h:(vK d g k)[j]? =some q):∃x y z,d[j]? =some x/\g[j]? =some y/\k[j]? =some z/\q=[x,y,z]:=by
 unfold vK at h;rw[zbh] at h;cases e:(d.zip (g.zip k))[j]? with
 |none=>rw[e] at h;cases h
 |some p=>
  rw[e] at h;let⟨h1,h2⟩:=zaf.mp e;let⟨n,m⟩:=zaf.mp h2;refine⟨_,_,_,h1,n,m,(zcW.inj h).symm⟩
theorem Ok.nZ{as:List Addr}{ts:List (List D)}(ok:Ok K w H S)(nd:as.Nodup)(y:∀a∈as,H a=none)(E:as.length=vs.length)(x:as.length=ts.length)(h:∀(j:Nat)(ds:List D),ts[j]? =some ds->∃t,vs[j]? =some t/\ao K w ds t):
  ∃o,w.le o/\Ok K o (L2.nZ H (as.zip vs)) S/\ao K o (ts.map D.tup) (as.map V.ref):=by
 induction as generalizing vs ts w H with
 |nil=>
  cases ts with
  |nil=>refine⟨w,.refl,ok,.nil⟩
  |cons _ _=>simp at x
 |cons a as ih=>
  cases vs with
  |nil=>simp at E
  |cons v vs=>
   cases ts with
   |nil=>simp at x
   |cons d ts=>
    rw[zbT] at nd;let⟨t,u,r⟩:=h 0 d rfl;obtain rfl:v=t:=by simp_all
    let⟨I,n,s,l⟩:=ok.qh (y a (by simp)) r;let⟨F,m,q,i⟩:=ih s nd.2 (λb C=>by rw[aM (λe:b=a=>nd.1 (e▸C))];exact y b (zaz _ C)) (by simpa using E) (by simpa using x) λj ds G=>by
     let⟨t,u,r⟩:=h (j+1) ds (by simp_all);refine⟨t,by simpa using u,r.le n⟩
    refine⟨F,n.trans m,q,.cons (l.le m) i⟩
def IS(a:AA):AE:=λn S Q=>a n S λo e=>∃m l j i fs h,o=[m,l,j]/\aP e m=.lst i/\aP e l=.tup fs/\aP e j=.lst h/\i.length=fs.length/\h.length=fs.length/\0<fs.length/\fs.length<=1000/\Q (.new (.lst ((vK i fs h).map D.tup))) e
def OS:∀o H Q,aO K (IS d) o H Q->ML K (lM K d) o H Q:=by
 rintro o H Q ⟨w,Z,S,Qa,ok,env,q,bk⟩;refine⟨w,Z,S,_,ok,env,q,λds S1 vs w1 H1 I h i u=>?_⟩;obtain⟨d1,d2,d3,Y,fs,X,hd,z1,z2,z3,n1,n2,n3,n4,q1⟩:=u;subst hd;obtain⟨x,r,rfl,g1,x',r',rfl,g2,x'',r'',rfl,g3,rfl⟩:=i;obtain⟨a1,C,rfl,k1,U⟩:=bK h g1 z1;obtain⟨a2,v,rfl,k2,P⟩:=cA h g2 z2;obtain⟨a3,s,rfl,k3,O⟩:=bK h g3 z3;have l1:=U.length;have l2:=P.length;have l3:=O.length;refine⟨a1,a2,a3,C,v,s,rfl,dS.of k1,k2,dS.of k3,by lia,by lia,by lia,by lia,λas p nd hp W hl=>?_⟩;obtain⟨w2,G,m,l⟩:=Ok.nZ (vs:=JQ C v s) (ts:=vK Y fs X) h nd (λd ha=>W d (zaz _ ha)) (by simp[JQ];lia) (by simp[vK];lia) λj ds hj=>by
  obtain⟨x,y,z,h1,h2,h3,rfl⟩:=EO hj;obtain⟨L,e1,r1⟩:=U.get h1;obtain⟨F,e2,r2⟩:=P.get h2;obtain⟨E,e3,r3⟩:=O.get h3;refine⟨[L,F,E],?_,.cons r1 (.cons r2 (.cons r3 .nil))⟩;unfold JQ;rw[zbh,zaf (z:=(L,F,E)) |>.mpr ⟨e1,zaf |>.mpr ⟨e2,e3⟩⟩];rfl
 have n:L2.nZ H1 (as.zip (JQ C v s)) p=none:=by rw[uW λt ht e=>hp (by rw[<-e];exact(zbU ht).1)];exact W p (by simp)
 exact bk (.new (.lst ((vK Y fs X).map D.tup))) S1 _ w2 _ (I.trans G) (m.alloc n) (m.fresh n ⟨_,rfl,l⟩) q1
theorem uD(o:X.calm=true)(n:Gl X "list")(m:X.mg "list"=none)(i:Gl X "zip")(h:X.mg "zip"=none)(q:GA X [d,g,c] k)(l:autoParam (yao [d,g,c] X.env=[(false,eval d X.env),(false,eval g X.env),(false,eval c X.env)]) r0)(e:autoParam (yao [g,c] X.env=[(false,eval g X.env),(false,eval c X.env)]) r0):
  GE X (.Call (.Name "list" p) [.Call (.Name "zip" p2) [d,g,c] [] pos2] [] pos) (IS k):=⟨mE (L2.uD o n m i h q.p l e) OS⟩
end M
namespace M10
open PySem PyProof.Rows
noncomputable def KR(R:Keyed->Int)(a:Array Keyed)(i:Nat):Int:=(a[i]?.map R).getD 0
def Up(R:Keyed->Int)(a:Array Keyed)(lo m:Nat):Prop:=∀i j,lo<=i->i<=j->j<lo+m->KR R a i<=KR R a j
def Dn(R:Keyed->Int)(a:Array Keyed)(lo m:Nat):Prop:=∀i j,lo<=i->i<=j->j<lo+m->KR R a j<=KR R a i
section
variable {w:yak}{R:Keyed->Int}{κ:SortKind}{T:Keyed->Prop}{a₀ b:Array Keyed}{p:Array (Nat×Nat×Nat)}{lo:Nat}
noncomputable def t3(lo n a:Nat):StateT SortSt Sem (Option Nat):=do
 let mut n:=n
 reverseSlice' lo (lo+n)
 for _ in [n:a] do
  let some sm <-ltAt' (lo+n) (lo+n - 1)|return none
  if sm then break
  n:=n+1
 return some n
end
end M10
namespace M10
open PySem PySem.Spec PyProof.Rows
section
variable {w:yak}{R:Keyed->Int}{T:Keyed->Prop}
def TS(ss:List Str)(p:Keyed):Prop:=∃x t,p.1=.str x t/\x∈ss
end
end M10
namespace L2
open PySem PySem.Spec PyProof.Rows
section
variable {ta:TE}
theorem jC{a:Type}[DecidableEq a]:∀{l m:List a},l.Nodup->(∀y∈l,y∈m)->l.length<=m.length
 |[],_,_,_=>zcT _
 |x::l,m,h,hs=>by
  rw[zbT] at h;have j:=hs x (by simp);have:=jC (m:=m.erase x) h.2 λy i=>(zaD (λe=>h.1 (by simp_all))).mpr (hs y (by simp[i]));rw[zal j] at this;have:=zap j;rw[zby];lia
end
end L2
namespace M5
open PySem PySem.Spec PyProof.Rows
section
variable {w:yak}
def zN(hd:(d==yas)=false):
  MeetsIn prog w (Builtin.«dict.__len__» ⟨[.ref d],[]⟩) (λ_ R s=>∃es ep,M6.gF s.heap d es ep/\R (.ok (.ret (.int es.size s.toks))) {s with toks:=s.toks+1}):=
 .of_wp λA R s ⟨es,ep,⟨o,e,i,a⟩,h⟩=>by
  show yar _ _ (dictSize d >>= _) _ _ s;refine yaa (yaa (wpAny_dictEntries e a (yab ?_)));refine yaa (wpAny_pendingCount_other hd ?_);refine wpAny_ret_mkInt ?_;exact h
def DS(hd:(d==yas)=false)(a:M6.gF s.heap d g ep)(i:(g.size:Int)<2 ^ 63)(h:Q (.int g.size (s.toks+1)) {s with toks:=s.toks+1+1}):yar (model prog w) A (Builtin.«len» ⟨[.ref d],[]⟩) (λe s'=>∃r,e=.done (.ret r)/\Q r s') E s:=by
 refine yaa (yab ?_);refine yaa (wpAny_callSpecial?_slot a.typeIs PySem.F.slot_dict_len (call_meetsIn PySem.F.slot_dict_len a.typeIs PySem.F.entry_dict_len (PySem.F.args_dict_len_1 _) (zN hd) ⟨g,ep,a,?_⟩));refine yaa (yad (yab ?_));refine yaa (wpAny_letGo ?_);rw[yIn (by lia)];rw[yIn (by lia)];exact yaa (wpAny_mkInt (yab ⟨_,rfl,h⟩))
def vR(x:A.handled=none)(lo:(d==yas)=false)(y:M6.gF s.heap d g ep)(i:StrsAre (g.toList.map (·.key)) ss)(C:g.size<64)(h:∀(h1 h2:Heap)(tk:Nat)(out:List yai)(a:List Str)(c:Nat),(∀b o,s.heap.get? b=some o->h1.get? b=some o)->(∀b o,h1.get? b=some o->h2.get? b=some o)->h2.get? h1.objs.size=some (seqObj "list" out.toArray c)->StrsAre out a->a.Perm ss->sortedS a=true->Q (.ref h1.objs.size) {s with heap:=h2,toks:=tk}):
  yar (model prog w) A (call (.builtin "sorted") [.ref d]) Q E s:=by
 refine zaj kind_sorted plain_sorted entry_sorted (args_sorted1 _) ?_;refine yaa (yab ?_);refine yaa (M6.qK lo ?_ y (by rw[yaf];lia) λh1 tk kp=>?_)
 ·exact x
 have l:(g.toList.map (·.key)).length=g.size:=by simp
 generalize (g.toList.map (·.key))=vs at i l;refine yaa (wpAny_newList ?_ (by first|(rw[yaf];lia)|(rw[zbf,yaf];lia)));have q:(h1.push (seqObj "list" vs.toArray 0)).get? h1.objs.size=some (seqObj "list" vs.toArray 0):=zaO _ rfl;refine yaa (yad (wpAny_call_entry slot_list_sort ⟨_,q,rfl⟩ entry_list_sort (list_sort_treeK strKind_oneLt q i.keysOf (λu t rest e=>keyKind_strs (by rw[<-e];exact i)) (by lia) λj I H=>⟨_,rfl,?_⟩) (args_list_sort _)));let⟨a,G,b2,F⟩:=sorted_out_str i I H;obtain⟨c,n⟩:=sortedHeap_at q;refine yab ⟨_,rfl,h h1 _ tk ((arrOf j).map (·.2)).toList a c kp (λb o e=>?_) (by exact n) G b2 F⟩;have v:=zcP e;rw[sortedHeap_old (zcE v) (by rw[size_push'];exact zbp v)];exact zas _ e
end
end M5
namespace L2
open PySem PySem.Spec PyProof.Rows M6
def K0(K:yaI)(W:yak):List V->Hp->VK->Prop:=λvs H Q=>∃(a e:Addr)(ks:List (yam×Addr)),vs=[.ref a]/\H a=some (.ext (nY W e ks))/\tN K H ks/\(∀k∈ks,∃p r,k.1=PyData.tuple (.str p::r))/\(∀k∈ks,∀l∈ks,cj k.1 l.1=true)/\ks.length<64/\
 ∀(p:Addr)(out:List (yam×Addr)),H p=none->out.Perm ks->out.Pairwise (λx y=>gH y.1 x.1=false)->Q (.ref p) (upd H p (.lst (out.map λk=>V.ref k.2)))
def K1:List V->Hp->VK->Prop:=λj H Q=>∃(a:Addr)(h:List (Key×V))(i:List Str),j=[.ref a]/\H a=some (.dK h)/\(h.map λx=>kV x.1)=i.map V.str/\i.length<64/\∀p (e:List Str),H p=none->e.Perm i->sortedS e=true->Q (.ref p) (upd H p (.lst (e.map V.str)))
def Te(W:yak):List V->Hp->VK->Prop:=λvs H Q=>∃(a e:Addr)(ks:List (yam×Addr)),vs=[.ref a]/\H a=some (.ext (nY W e ks))/\ks.length<=1000/\Q (.int ks.length) H
def V2(K:yaI)(W:yak)(e:Bool):R2:=λy x H Q=>∃(a h b:Addr)(ks:List (yam×Addr))(d:yam),x=.ref a/\y=.ref b/\H a=some (.ext (nY W h ks))/\tN K H ks/\bP d=true/\d.depth<=6/\bJ K H d (.ref b)/\Q (.bl (e != (ks.any λx=>decide (x.1=d)))) H
def xY(E:aT k X.A):b5 X (.builtin "sorted") (K0 X.K X.w):=by
 intro j s L H xs us Q I r h;let⟨a,a',ks,rfl,e,Z,h0,hc,Y,q⟩:=h;let⟨u,rfl,ru⟩:=vals1 r;cases ru;have x:=(show aQ X.prog X.w H s.heap a (.ext (nY X.w a' ks)) from I.hok a _ e)
 obtain rfl:=oS x;obtain⟨⟨z,o,es,ep,W,P,hd,l,hn⟩,_,_⟩:=x;have S:=by have:=congrArg zcR l;simpa using this
 refine nM (R:=λv=>∃h1 i,v={s with heap:=h1,toks:=i}) E.hd (λy C=>oY.g ?_) hc Y (by have:=E.units;lia) (λt hQ=>qK z t ⟨o,W,P,hd⟩ (by rw[yaf];lia) λh1 i kp=>?_) λv h2 out c hR n m g F U=>?_
 ·let⟨n,m,O⟩:=Z y C;exact⟨I.key n m O,h0 y C⟩
 ·rw[l,zcC];exact hQ _ ks kp ⟨h1,i,rfl⟩ (.refl _)
 ·let⟨h1,i,rfl⟩:=hR;have G:Inv X j L H {s with heap:=h1,toks:=i}:=I.kept n;refine⟨.ref h1.objs.size,_,G.laid (o:=.lst (out.map λk=>V.ref k.2)) m (zcS _) ⟨by rw[zbR,F.length_eq,yaf];lia,_,c,jr (λk=>k.2) out,g⟩,rfl,q _ out (G.hok.fresh (zcS _)) F U⟩
def xZ(G:aT k X.A):b5 X (.builtin "sorted") K1:=by
 intro j s E H Y Z Q I r h;let⟨a,n,F,rfl,e,O,S,q⟩:=h;let⟨u,rfl,ru⟩:=vals1 r;cases ru;let⟨lo,hz,x,ep,P,l⟩:=zq I e;have hl:=by have:=l.length;simpa using this.symm
 rw[O] at l;have L:x.size=F.length:=by have:=l.length;simp_all
 refine M5.vR G.hd lo P (gK l) (by lia) λh1 h2 m out i c v t g W y U=>?_;have C:Inv X j E H {s with heap:=h1,toks:=m}:=I.kept v;refine⟨.ref h1.objs.size,_,C.laid (o:=.lst (i.map V.str)) t (zcS _) ⟨by rw[zbR,y.length_eq];lia,out,c,M.rX W,g⟩,rfl,q _ i (C.hok.fresh (zcS _)) y U⟩
theorem tH(d:yam):∀ks:List (yam×Addr),(atKey (ks.map λx=>(x.1,x.2,Value.bool true)) d).isSome=(ks.any λx=>decide (x.1=d))
 |[]=>rfl
 |x::xs=>by
  have a:=tH d xs;unfold atKey at a⊢;grind
def P0(P:aT k X.A):iy X (yan .In) (V2 X.K X.w false):=by
 intro l s σ H y x v u Q I t C h;let⟨a,n,b,ks,d,rfl,rfl,e,W,h1,h2,Y,q⟩:=h;obtain rfl:u=Value.ref a:=C;obtain rfl:v=Value.ref b:=t;have m:=(show aQ X.prog X.w H s.heap a (.ext (nY X.w n ks)) from I.hok a _ e)
 obtain rfl:=oS m;obtain⟨⟨z,o,Z,ep,S,O,hd,j,U⟩,_,_⟩:=m;have dd:Heap.DictOfH (cz X.prog X.w) s.heap n (ks.map λx=>(x.1,x.2,Value.bool true)):=by
  refine⟨o,Z,ep,S,O,hd,?_,λx i=>?_,?_⟩
  ·rw[j,zcC];rfl
  ·let⟨y,L,rfl⟩:=zcD.mp i;let⟨G,F,E⟩:=W y L;exact I.key G F E
  ·rw[zcC];exact U
 have hu:=P.units;refine wpAny_in_heap (show X.A.units+1+10<cLine by lia) (I.key h1 h2 Y) z dd ?_;rw[tH d ks];refine⟨.bl (ks.any λx=>decide (x.1=d)),H,I.tok _,rfl,by simpa using q⟩
def Ej:b5 X (.builtin "len") (Te X.w):=by
 intro l s y H C E Q I r h;let⟨a,x,ks,rfl,e,G,q⟩:=h;let⟨u,rfl,ru⟩:=vals1 r;cases ru;have m:=(show aQ X.prog X.w H s.heap a (.ext (nY X.w x ks)) from I.hok a _ e)
 obtain rfl:=oS m;obtain⟨⟨z,o,v,L,t,n,hd,j,F⟩,_,_⟩:=m;have i:=by have:=congrArg zcR j;simpa using this
 refine zaj kind_len plain_len entry_len (args_len1 _) (M5.DS z ⟨o,t,n,hd⟩ (by lia) ?_);rw[i];refine⟨.int ks.length,H,I.tok _,⟨_,rfl⟩,q⟩
end L2
namespace M
open PySem PySem.Spec PyProof.Rows L2 M6
section
variable {w:yak}
def WV(F:JK K x qual st f fd)(S:aE N ps (aj st))(len:∀ds S Q,sp ds S Q->ds.length=ps.length)(i:∀(f:Addr)(e:yai)(A:yal)(outer:List Env)(s:yah)(H:Hp)(E:XK),aT k (A.deeper (PyProof.Rows.envOfC qual (aj st) s.heap.objs.size f e))->∃a,AQ (nv oZ P w K mg base N qual (aj st) f e A outer s H E).JR (bH st) a/\∀ds S Q,sp ds S Q->a {nx:=λ_ S'=>Q (.dat .bx) S',rt:=Q} (aJ N ds) S):eV P w K mg base oZ (k+1) f fd ps (av K sp):=
 F.ok S (λvs H Q E h=>by
  let⟨w,ds,S,l,ok,rep,q,bk⟩:=h;rw[rep.length];exact len ds S l q) λe A outer s H vs Q E o h=>by
  let⟨a,t,hd⟩:=i f e A outer s H E o;let⟨w,ds,S,l,ok,rep,q,bk⟩:=h;refine⟨_,t.p,w,aJ N ds,S,_,ok,jE rep,hd ds S l q,⟨λy S' v m u le j env n=>?_,bk,λ_ _ _ _ _ _ _ _ z=>z.elim,λ_ _ _ _ _ _ _ _ z=>z.elim⟩⟩;exact bk (.dat .bx) S' .bx m u le j (show Rep K m .bx .bx from .bx) n
def lH(F:qW K C d qual ps st)(S:aE N ps (aj st))(len:∀ds S Q,sp ds S Q->ds.length=ps.length)(e:∀(f:Addr)(h:yai)(A:yal)(outer:List Env)(s:yah)(H:Hp)(E:XK),aT k (A.deeper (PyProof.Rows.envOfC qual (aj st) s.heap.objs.size f h))->∃a,AQ (nv oZ P w K mg base N qual (aj st) f h A outer s H E).JR (bH st) a/\∀ds S Q,sp ds S Q->a {nx:=λ_ S'=>Q (.dat .bx) S',rt:=Q} (aJ N ds) S):fS P w K mg base (k+1) C d ps sp:=by
 let⟨f,fd,F,i,j⟩:=F.ex;refine⟨f,fd,WV F S len e,i,j⟩
def Uw(F:Src K mg x ps st)(S:aE N ps (aj st))(len:∀ds S Q,sp ds S Q->ds.length=ps.length)(i:∀(f:Addr)(e:yai)(A:yal)(outer:List Env)(s:yah)(H:Hp)(E:XK),aT k (A.deeper (PyProof.Rows.envOfC x (aj st) s.heap.objs.size f e))->∃a,AQ (nv oZ P w K mg base N x (aj st) f e A outer s H E).JR (bH st) a/\∀ds S Q,sp ds S Q->a {nx:=λ_ S'=>Q (.dat .bx) S',rt:=Q} (aJ N ds) S):Def P w K mg base (k+1) x ps (av K sp):=
 F.def S (λvs H Q E h=>by
  let⟨w,ds,S,l,ok,rep,q,bk⟩:=h;rw[rep.length];exact len ds S l q) λf e A outer s H vs Q E o h=>by
  let⟨a,t,hd⟩:=i f e A outer s H E o;let⟨w,ds,S,l,ok,rep,q,bk⟩:=h;refine⟨_,t.p,w,aJ N ds,S,_,ok,jE rep,hd ds S l q,⟨λy S' v m u le j env n=>?_,bk,λ_ _ _ _ _ _ _ _ z=>z.elim,λ_ _ _ _ _ _ _ _ z=>z.elim⟩⟩;exact bk (.dat .bx) S' .bx m u le j (show Rep K m .bx .bx from .bx) n
end
section
variable {o:Expr}{es:List Expr}{k:Nat}{m:Str}
theorem p9(Z:Mk X.K C f)(F:eV X.prog X.w X.K X.mg X.base oZ k f fd ps (av X.K sp))(U:Binds X.K fd ps [])(L:aT (k+1) X.A)(P:Gl X x)(O:X.mg x=some (.ref C))(y:(x==("__debug__":Str))=false:=by decide+kernel):GE X (.Call (.Name x p) [] [] pos) (NN C sp b4):=by
 refine⟨mE (L2.p9 Z F L P O U .nil BJ y) λσ H Q h=>?_⟩;let⟨w,δ,S,Qa,ok,env,q,bk⟩:=h;refine λa E I nd ne=>?_;have n:(upd H E (HO.own a)) a=none:=by rw[aM (Ne.symm ne)];exact I
 have j:=(ok.alloc (o:=.own a) nd)
 let⟨G,u,t,e⟩:=store (j.alloc n) (j.fresh n (m:=.ins C [] []) ⟨E,[],rfl,rfl,.nil⟩);refine⟨G,_,_,_,t,by exact .cons e .nil,q,λr S2 v w3 H3 l s i ⟨Y,q4⟩=>?_⟩;subst Y;exact⟨KW i rfl,bk.dat (u.trans l) s (e.le l) q4⟩
structure NU(ks:List D):Prop where
 good:∀k∈ks,cO k
 fst:∀k∈ks,∃p r,py k=PyData.tuple (.str p::r)
 cmp:∀k∈ks,∀l∈ks,cj (py k) (py l)=true
def Og(ks:List D):Prop:=ks.Pairwise (λx y=>gH (py y) (py x)=false)
def Mq(W:yak):AN:=λe S Q=>∃n ks,e=[.loc n]/\S[n]? =some (some (nO W ks))/\NU ks/\ks.length<64/\∀a:List D,a.Perm ks->Og a->Q (.new (.lst a)) S
def CG:AN:=λh S Q=>∃d es,∃e:List Str,h=[d]/\aP S d=.dct (e.map Sum.inr) es/\e.length<64/\∀a:List Str,a.Perm e->sortedS a=true->Q (.new (.lst (a.map D.str))) S
def US(W:yak):AN:=λa S Q=>∃n ks,a=[.loc n]/\S[n]? =some (some (nO W ks))/\ks.length<=1000/\Q (.dat (.int ks.length)) S
noncomputable def HQ(ks:List D)(k:D):Bool:=ks.any λj=>decide (py j=py k)
def Ww(W:yak)(a:Bool):A2:=λx y S Q=>∃n ks,y=.loc n/\S[n]? =some (some (nO W ks))/\cO x/\(∀k∈ks,cO k)/\Q (.dat (.bl (a != HQ ks x))) S
def mJ{ks:List D}(a:ks.length=bs.length):(∀x∈(ks.map py).zip bs,∃k∈ks,x.1=py k)/\(ks.map py).zip bs=(ks.zip bs).map (λx=>(py x.1,x.2))/\((ks.map py).zip bs).map (λk=>V.ref k.2)=bs.map V.ref/\((ks.map py).zip bs).map (·.1)=ks.map py:=by
 refine⟨λx h=>?_,by rw[List.zip_map_left];rfl,?_,zbF (by rw[zbR];lia)⟩
 ·let⟨k,i,e⟩:=zcD.mp (zbU h).1;refine⟨k,i,e.symm⟩
 ·have:((ks.map py).zip bs).map (·.2)=bs:=zbG (by rw[zbR];lia);rw[<-this,zcC,this];rfl
def Dj{w:Wd}{ks:List D}{bs:List Addr}{s:AK}{Q:VK}(ok:Ok K w H S)(k5:ao K w ks (bs.map V.ref))(bk:ff K w s Q)(q:∀e:List D,e.Perm ks->Og e->s (.new (.lst e)) S):
  ∀(p:Addr)(out:List (yam×Addr)),H p=none->out.Perm ((ks.map py).zip bs)->out.Pairwise (λx y=>gH y.1 x.1=false)->Q (.ref p) (upd H p (.lst (out.map λk=>V.ref k.2))):=by
 intro p out n a h;have i:ks.length=bs.length:=by have:=k5.length;simp_all
 let⟨_,u,_,_⟩:=mJ i;rw[u] at a;let⟨j,l,rfl⟩:=gC a;have v:(List.map (λk=>V.ref k.2) (j.map λx=>(py x.1,x.2)))=j.map λx=>V.ref x.2:=by rw[zcC];rfl
 rw[v];refine bk (.new (.lst (j.map (·.1)))) S _ w _ .refl (ok.alloc n) (ok.fresh n ⟨_,rfl,f7 λx t=>tP k5 x (l.mem_iff.mp t)⟩) (q _ ?_ ?_)
 ·have:=l.map (·.1);rw[zbF (by lia)] at this;exact this
 ·show(j.map (·.1)).Pairwise _;grind
def Qh(ok:Ok K w H S)(r:Rep K w (.loc n) v)(z:S[n]? =some (some (nO W d))):
  ∃(a e:Addr)(bs:List Addr),v=.ref a/\H a=some (.ext (nY W e ((d.map py).zip bs)))/\ao K w d (bs.map V.ref)/\d.length=bs.length:=by
 let⟨a,j,rfl⟩:=r;let⟨q,u,h,l,i,e,bs,rfl,k5⟩:=ok.live n _ z;rw[j] at h;cases h;refine⟨a,e,bs,rfl,i,k5,by have:=k5.length;simp_all⟩
def GZ(I:aT j X.A):vG X (.builtin "sorted") (Mq X.w):=⟨mC (xY I) λP H Q h=>by
 let⟨w,ds,S,Qa,ok,rep,⟨n,ks,rfl,z,g,U,q⟩,bk⟩:=h;let⟨v,rfl,C⟩:=eY rep;let⟨a,O,bs,rfl,E,k5,i⟩:=Qh ok C z;let⟨l,W,Z,Y⟩:=mJ i;refine⟨a,O,_,rfl,E,iX ok k5 g.good,λx s=>?_,λx s y G=>?_,by rw[zca];lia,Dj ok k5 bk q⟩
 ·let⟨k,u,e⟩:=l x s;rw[e];exact g.fst k u
 ·let⟨k,u,e⟩:=l x s;let⟨F,t,L⟩:=l y G;rw[e,L];exact g.cmp k u F t⟩
def fK(t:aT j X.A):vG X (.builtin "sorted") CG:=⟨mC (xZ t) λE H Q h=>by
 let⟨w,G,S,I,ok,rep,⟨d,es,n,rfl,z,u,q⟩,bk⟩:=h;let⟨v,rfl,s⟩:=eY rep;let⟨a,e,rfl,h1,h2,F⟩:=fh ok s z;refine⟨a,e,n,rfl,h1,?_,u,λp i l C y=>bk (.new (.lst _)) S _ w _ .refl (ok.alloc l) (ok.fresh l ⟨_,rfl,kO i⟩) (q i C y)⟩;have:(e.map λx=>kV x.1)=(e.map (·.1)).map kV:=by rw[zcC];rfl
 rw[this,h2,zcC];rfl⟩
def Qc:vG X (.builtin "len") (US X.w):=⟨mC Ej λt H Q h=>by
 let⟨w,x,S,y,ok,rep,⟨n,ks,rfl,z,u,q⟩,bk⟩:=h;let⟨v,rfl,j⟩:=eY rep;let⟨a,s,bs,rfl,l,k5,i⟩:=Qh ok j z;have e:((ks.map py).zip bs).length=ks.length:=by simp_all
 refine⟨a,s,_,rfl,l,by lia,?_⟩;rw[e];exact bk.dat .refl ok .int q⟩
def TQ(v:aT j X.A):rS X (yan .In) (Ww X.w false):=⟨m2 (P0 v) λx y H Q h=>by
 let⟨w,d,e,S,P,ok,t,s,⟨n,ks,rfl,z,l,E,q⟩,bk⟩:=h;let⟨a,G,bs,rfl,u,k5,i⟩:=Qh ok s z;let⟨b,rfl,C⟩:=i8 ok t l;let⟨I,L,O,F⟩:=mJ i;refine⟨a,G,b,_,py d,rfl,rfl,u,iX ok k5 E,l.2.1,l.2.2.1,C,bk.dat .refl ok .bl ?_⟩;have:(((ks.map py).zip bs).any λx=>decide (x.1=py d))=HQ ks d:=by
  have h1:(((ks.map py).zip bs).any λx=>decide (x.1=py d))=((((ks.map py).zip bs).map (·.1)).any λz=>decide (z=py d)):=by rw[zcA];rfl
  rw[h1,F,zcA];rfl
 rw[this];exact q⟩
end
end M
namespace L2
open PySem PySem.Spec PyProof.Rows M6
theorem nK:∀{a:List V}{us:List yai},a.length=us.length->(∀(k:Nat)(x:V)(u:yai),a[k]? =some x->us[k]? =some u->RelV x u)->Vals a us
 |[],[],_,_=>.nil
 |[],_::_,h,_=>by simp at h
 |_::_,[],h,_=>by simp at h
 |x::a,u::us,h,g=>.cons (g 0 x u rfl rfl) (nK (by simp_all) λk y v h1 h2=>g (k+1) y v (by simp_all) (by simp_all))
def EV(h:TA):TE:=λe H Q=>h e H λvs a=>∃i j:Int,vs=[.int i,.int j]/\-(2 ^ 60)<=i/\i<2 ^ 60/\i<=j/\j<=i+1000/\∀p,a p=none->Q (.ref p) (upd a p (.lst ((zcX (j - i).toNat).map λk:Nat=>V.int (i+k))))
section
variable {a b:Expr}{ta:TA}
theorem p8(hc:X.calm=true)(hg:Gl X "list")(hm:X.mg "list"=none)(W:Gl X "range")(U:X.mg "range"=none)(ha:PA X [a,b] ta)(hs:autoParam (yao [a,b] X.env=[(false,eval a X.env),(false,eval b X.env)]) r0)(G:autoParam (yao [b] X.env=[(false,eval b X.env)]) r0):
  PE X (.Call (.Name "list" p) [.Call (.Name "range" p2) [a,b] [] pos2] [] pos) (EV ta):=by
 intro C s Z H Q I h;refine wpAny_Call_Name_kw (dH I hg hm boot_list ?_ (by decide+kernel) (by rfl));refine PyProof.Rows.callWith_type1 ?_ (aN [] X.env rfl) rfl;refine zbe ?_;refine Call_ (dH I W U boot_range (PyProof.Rows.callWith_type1 (bW (ha pos2 C s Z H _ I h) λus l O=>?_) (by rw[hs,G]) (by rw[G];rfl)));let⟨vs,H1,Y,r1,q1⟩:=O;let⟨i,j,e,n1,n2,n3,n4,q⟩:=q1;subst e;cases r1 with
 |cons r rr=>
  cases rr with
  |cons r' rr=>
   cases rr;let⟨t,rfl⟩:=r;let⟨t',rfl⟩:=r';refine call_range_2 ?_;refine zbx ?_;refine call_list_range (n:=(j - i).toNat) (Y.ok.hd hc) (IsRange.new ..) (small_one (by lia) (by lia) (by lia) (by lia)) (by rw[rangeSize_one];split<;>lia) (by lia) λh' P L c kp g v=>?_;have ev:Vals ((zcX (j - i).toNat).map λk:Nat=>V.int (i+k)) L.toList:=by
    refine nK (by rw[zbR,zbn,zaN,v.1]) λk x u y hu=>?_;rw[zbh] at y;cases e:(zcX (j - i).toNat)[k]? with
    |none=>rw[e] at y;cases y
    |some m=>
     rw[e] at y;obtain⟨_,rfl⟩:=zad.mp e;obtain rfl:=zcW.inj y;let⟨P,rfl⟩:=v.2 k u (by simp_all);exact⟨P,by simp⟩
   refine⟨.ref (l.heap.push {cls:=.type "range",data:=.fields #[.int i t,.int j t',.int 1 l.toks]}).objs.size,_,Y.laid (o:=.lst ((zcX (j - i).toNat).map λk:Nat=>V.int (i+k))) (λb o e=>kp b o (zas _ e)) (by simp) ⟨by rw[zbR,zbn,yaf];lia,L.toList,c,ev,by exact g⟩,rfl,q _ (Y.hok.fresh (by simp))⟩
end
end L2
namespace M
open PySem PySem.Spec PyProof.Rows L2 M6
def Ay(a:AA):AE:=λe S Q=>a e S λh l=>∃i j:Int,h=[.int i,.int j]/\-(2 ^ 60)<=i/\i<2 ^ 60/\i<=j/\j<=i+1000/\Q (.new (.lst ((zcX (j - i).toNat).map λk:Nat=>D.int (i+k)))) l
def Kz:∀m H Q,aO K (Ay d) m H Q->EV (lM K d) m H Q:=by
 rintro m H Q ⟨w,t,S,P,ok,env,q,bk⟩;refine⟨w,t,S,_,ok,env,q,λO G vs u U o h e n=>?_⟩;obtain⟨i,j,hd,F,E,C,y,v⟩:=n;subst hd;obtain⟨x,r,rfl,rfl,I,L,rfl,rfl,rfl⟩:=e;refine⟨i,j,rfl,F,E,C,y,λp s=>bk (.new (.lst _)) G _ u _ o (h.alloc s) (h.fresh s ⟨_,rfl,?_⟩) v⟩;generalize zcX (j - i).toNat=l
 induction l with
 |nil=>exact .nil
 |cons k l ih=>exact .cons .int ih
section
variable {o i k v a b:Expr}
theorem p8(s:X.calm=true)(q:Gl X "list")(n:X.mg "list"=none)(j:Gl X "range")(h:X.mg "range"=none)(t:GA X [a,b] d)(m:autoParam (yao [a,b] X.env=[(false,eval a X.env),(false,eval b X.env)]) r0)(e:autoParam (yao [b] X.env=[(false,eval b X.env)]) r0):
  GE X (.Call (.Name "list" p) [.Call (.Name "range" p2) [a,b] [] pos2] [] pos) (Ay d):=⟨mE (L2.p8 s q n j h t.p m e) Kz⟩
end
end M
namespace M6
open PySem PySem.Spec PyProof.Rows PySem.SeqAt PySem.MeetsSeq
open AutoSeq1 (wpAny_loadPart')
theorem Ds(l:Addr)(items:Array yai)(n:Nat)(x:yai)(e:yai->Bool)(j:Nat)(I:j<items.size)(E:e items[j]=true)(k:Nat)(t:items.size<=yag):
  ∀i:Nat,j - i=k->i<=j->(∀m (H:m<items.size),i<=m->m<j->e items[m]=false)->Meets (Builtin.«list.remove.loop» ⟨[.ref l,x,rawInt i],[]⟩)
   (λA R s=>s.heap.get? l=some {cls:=.type "list",dict:=none,data:=.seq items n,slots:=#[]}/\(∀y,y∈items->EqAt A.in1 s y x (e y))/\R (.ok (.ret .none)) {s with heap:=s.heap.update l (Obj.mapSeq λL=>L.eraseIdxIfInBounds j)}):=by
 induction k with
 |zero=>
  intro i Q F a prog w A R s h;let⟨q,v,h⟩:=h;have u:i=j:=by lia
  subst u
  wp_walk using wpAny_loadPart' q
  have G:items[(i:Int).toNat]? =some items[i]:=by simp[I]
  rw[G];refine yaa (v _ (Array.getElem_mem I) prog w _ _ ?_);have C:(items.eraseIdxIfInBounds i).size<=yag+1:=zcF (size_erased items _) (Nat.le_succ_of_le t)
  wp_walk using(wpAny_updateSeq q rfl (_hz':=C)),wpAny_loadPart' q
  simpa using h
 |succ k ih=>
  intro i Q F a prog w A R s h;let⟨q,v,h⟩:=h;have o:i<items.size:=by lia
  wp_walk using wpAny_loadPart' q
  have G:items[(i:Int).toNat]? =some items[i]:=by simp[o]
  rw[G];refine yaa (v _ (Array.getElem_mem o) prog w _ _ ?_);rw[a i o (zcS _) (by lia)]
  wp_walk
  exact⟨plainId_quiet plain_remove_loop _,codeAny_builtin entry_remove_loop (by
   exact ih (i+1) (by lia) (by lia) (λm H h1 h2=>a m H (by lia) h2) prog w A R _ ⟨q,v,h⟩)⟩
def rK(l:Addr)(items:Array yai)(n:Nat)(x:yai)(e:yai->Bool)(j:Nat)(v:j<items.size)(o:e items[j]=true)(i:∀m (q:m<items.size),m<j->e items[m]=false)(a:items.size<=yag):
  Meets (Builtin.«list.remove» ⟨[.ref l,x],[]⟩)
   (λA R s=>s.heap.get? l=some {cls:=.type "list",dict:=none,data:=.seq items n,slots:=#[]}/\(∀y,y∈items->EqAt A.in1 s y x (e y))/\R (.ok (.ret .none)) {s with heap:=s.heap.update l (Obj.mapSeq λu=>u.eraseIdxIfInBounds j)}):=by
 intro prog w A R s h;let⟨t,C,h⟩:=h
 wp_walk using wpAny_loadPart' t
 exact⟨plainId_quiet plain_remove_loop _,codeAny_builtin entry_remove_loop (by
  exact Ds l items n x e j v o _ a 0 rfl (zcT _) (λm q _ h2=>i m q h2) prog w A R _ ⟨t,C,h⟩)⟩
end M6
namespace L2
open PySem PySem.Spec PyProof.Rows M6
section
variable {o f:Expr}{td ty tx:TE}
def By(K:yaI):V->List V->Hp->VK->Prop:=λx vs H Q=>∃(a:Addr)(v:V)(h:List V)(d:yam)(e:List yam)(j:Nat)(c:yam),x=.ref a/\vs=[v]/\H a=some (.lst h)/\fc K H e h/\bJ K H d v/\PySem.SeqAt.shaped d=true/\PyData.canLayAll0 e=true/\
 e[j]? =some c/\PyData.eqv c d=true/\(∀m i,m<j->e[m]? =some i->PyData.eqv i d=false)/\Q .bx (upd H a (.lst (h.eraseIdx j)))
theorem o8:∀{a:List V}{us:List yai}(j:Nat),Vals a us->Vals (a.eraseIdx j) (us.eraseIdx j)
 |_,_,j,.nil=>by simpa using Paired.nil
 |_,_,0,.cons r t=>t
 |_,_,j+1,.cons r t=>.cons r (o8 j t)
def DK(hr:aT k X.A):AJ X "list.remove" (By X.K):=by
 intro S s σ H x vs v us Q I rx rv h;let⟨a,v',xs,d,E,j,c,rfl,rfl,Y,h1,h2,h3,Z,W,hc,G,q⟩:=h;cases rx;let⟨u,rfl,ru⟩:=vals1 rv;let⟨i,n,r,e,hz⟩:=I.lst Y;let⟨as,ra⟩:=I.reads d v' u h2 ru;let⟨bs,P⟩:=I.readsAll E xs i h1 r;have hu:=hr.un;have U:=PySem.SeqAt.readsAll_map E i bs Z P;have t:i.length=E.length:=by rw[<-U,zbR]
 have C:j<i.length:=by rw[t];exact(zad.mp W).1
 have at_:∀m (l:m<i.length),E[m]? =some (PySem.SeqAt.readOf s.heap i[m]):=λm l=>by
  rw[<-U,zbh,zak l];rfl
 refine call_meets F.slot_list_remove ⟨_,e,rfl⟩ F.entry_list_remove (F.args_list_remove_2 _ _) (rK a i.toArray n u (λy=>PyData.eqv (PySem.SeqAt.readOf s.heap y) d) j (by simp_all) ?_ ?_ (by rw[zbf,<-r.length];exact hz)) ⟨e,PySem.SeqAt.items_eqAt P ra Z (PySem.SeqAt.canLay_of_shaped h3) (PyProof.Rows.room_in_shaped h3 (by lia)),?_⟩
 ·have:=at_ j C;simp_all
 ·intro m O L;exact G m _ L (at_ m (by simpa using O))
 ·refine⟨.bx,_,I.Hr Y e ?_ (o8 j r) (zcF (List.length_eraseIdx_le ..) hz),rfl,q⟩
  ·simp
end
end L2
namespace M
open PySem PySem.Spec PyProof.Rows L2 M6
def CI:AM:=λx i S Q=>∃(n:Nat)(a:List D)(e:D)(j:Nat)(c:D),x=.loc n/\i=[e]/\S[n]? =some (some (.lst a))/\fit e=true/\fit (.lst a)=true/\a[j]? =some c/\PyData.eqv (py c) (py e)=true/\(∀m h,m<j->a[m]? =some h->PyData.eqv (py h) (py e)=false)/\
 Q (.dat .bx) (S.set n (some (.lst (a.eraseIdx j))))
theorem pR:∀{ds:List D}{a:List V}(j:Nat),ao K w ds a->ao K w (ds.eraseIdx j) (a.eraseIdx j)
 |[],a,j,h=>by subst h;simp[ao]
 |d::ds,a,0,h=>by
  let⟨x,r,rfl,h1,h2⟩:=h;exact h2
 |d::ds,a,j+1,h=>by
  let⟨x,r,rfl,h1,h2⟩:=h;exact .cons h1 (pR j h2)
section
variable {o f:Expr}{k:Nat}
def Hj(U:aT k X.A):RJ X "list.remove" CI:=⟨mM (X:=X) (t:=By X.K) (DK U) λx xs H Q h=>by
 let⟨w,d,ds,S,Qa,ok,P,O,⟨n,C,e,j,c,rfl,rfl,G,y,u,Z,h1,h2,q⟩,bk⟩:=h;let⟨a,E,rfl,ha,hH,l⟩:=uT ok P G;let⟨v,rfl,L⟩:=eY O;have s:aP S e=e:=kJ (by unfold fit at y;simp_all);let⟨I,F⟩:=fk ok L (by simp_all);rw[s] at I F;have W:=by
  unfold fit at u;rw[zbN] at u;simpa[b8] using u.1
 refine⟨a,v,E,py e,di C,j,py c,rfl,rfl,hH,lI ok.base C E W l,I,F,xE u,?_,h1,λm c' Y i=>?_,bk.dat .refl (ok.put G ha (iN (pR j l))) .bx q⟩
 ·rw[kQ,zbh,Z];rfl
 ·rw[kQ,zbh] at i;cases z:C[m]? with
  |none=>simp_all
  |some c2=>rw[z] at i;cases i;exact h2 m c2 Y z⟩
end
end M
namespace M13
open PySem PySem.Spec PyProof.Rows M5 M7
section
variable {w:yak}
def D6:entryFor table "set.__and__"=some Builtin.«frozenset.__and__»:=
 entryFor_alias (id':="frozenset.__and__") (by kernel_rfl) rfl (by decide+kernel) (by kernel_rfl)
def HX(U:iH prog w s.heap a d)(W:d.length<4000)(h:∀r:Option Nat,r.isSome=decide (g∈d)->D r s):yar (model prog w) A (setFind a (.int g tk) ((PySem.intKind prog w).hash g)) D E s:=by
 let⟨o,v,l,X,t,O,hd,i,q,G,C,I⟩:=U;have y:l.size=d.length:=by rw[<-q.length_eq,zbR,zaN]
 refine yaa (wpAny_setState_of v hd G ?_);dsimp only;rw[byScan_of rfl (by show l.size<4096;lia) i];refine yaa (wpAny_rule ?_);refine yaa (wpAny_setScan_of (LC g tk) v hd G i ?_);cases u:List.findIdx? (λe=>(PySem.intKind prog w).is g e.2) l.toList with
 |none=>
  refine yab (h none ?_);rw[yDf λm=>?_];rfl;let⟨e,H,z⟩:=zcD.mp (q.mem_iff.mpr m);obtain⟨⟨k,F,_⟩,_⟩:=i e H;rw[uY F] at z;grind
 |some j=>
  let⟨L,n,_⟩:=List.findIdx?_eq_some_iff_getElem.mp u;have m:=q.mem_iff.mp (zcD.mpr ⟨_,zbJ L,uY n⟩);refine yab (h (some (0+j)) ?_);simp_all
def Du(L:∀a∈d,∃S,iH prog w s.heap a S)(h:g true s):yar (model prog w) A (setsQuiet d) g E s:=by
 refine yaa ?_;refine wpAny_forIn_list _ (λrest b n=>n=s/\b=⟨none,()⟩/\∀a∈rest,a∈d) _ (λa rest b n F=>?_) (λb n F=>?_) _ _ ⟨rfl,rfl,λa h=>h⟩
 ·let⟨rfl,rfl,G⟩:=F;let⟨S,o,I,W,Z,t,U,hd,u,X,P,_⟩:=L a (G a (by simp));refine yaa (wpAny_setEntries_of I hd P ?_);refine yaa ?_;refine wpAny_forIn_array' _ (λi b j=>j=n/\b=⟨none,()⟩/\∀e∈i,e∈W.toList) _ (λe i b j C=>?_) (λb j C=>?_) _ _ ⟨rfl,rfl,λa h=>h⟩
  ·let⟨rfl,rfl,m⟩:=C;obtain⟨⟨k,O,_⟩,_⟩:=u e (m e (by simp));let⟨H,y⟩:=Value.isInt_shape O;let⟨Y,v⟩:=e;subst y;exact yab ⟨rfl,rfl,λx q=>m x (zaz _ q)⟩
  ·let⟨rfl,rfl,_⟩:=C;exact yab ⟨rfl,rfl,λx q=>G x (zaz _ q)⟩
 ·let⟨rfl,rfl,_⟩:=F;exact yab h
def ty_int(h:iH prog w s.heap a d):s.TypeIs (.ref a) "set":=by let⟨o,i,_,_,_,e,_⟩:=h;refine⟨o,i,e.1⟩
theorem vI(ha:iH prog w s.heap a d)(hb:iH prog w s.heap b T)(O:iH prog w s.heap r U)(hne:a≠r)(hU:U.length<4000)(h:∀(l:Array (Int×yai))(h':Heap),Heap.SameBut r s.heap h'->iH prog w h' r U->ElemsOf (PySem.intKind prog w) l.toList->(l.toList.map λe=>intOf e.2).Perm d->g l {s with heap:=h'}):
  yar (model prog w) A (setWalkUnseen a [b,r] (some r)) g E s:=by
 let⟨o,ho,j,ep,t,hex,hd,L,hp,hf,i,hpl⟩:=ha;have hw:∀{X:Array (Int×yai)->yah->Prop},((w.params.followText "set-order")||(t.led&&t.plain)||decide (j.size<=1))=true->(∀l,l.toList.Perm j.toList->X l s)->yar (model prog w) A (setWalk a) X E s:=by
  intro X y q;refine yaa (wpAny_setState_of ho hd hf ?_);refine yaa (gY ?_);cases P:w.params.followText "set-order" with
  |true=>
   refine yaa (wpAny_askSetting (yab ?_));exact q _ (sJ _ _)
  |false=>
   rw[P] at i y;have e1:(!t.plain&&decide (j.size> 1))=false:=by
    lia
   show yar _ _ (if(!t.plain&&decide (j.size> 1))=true then _ else _) _ _ _;rw[e1];refine yaa ?_;show yar _ _ (if(!t.led&&decide (j.size> 1))=true then _ else _) _ _ _;rw[i];exact yab (yab (q _ .rfl))
 have Y:=λl F=>h l s.heap (Heap.SameBut.refl _ _) O (L.perm F) ((F.map _).trans hp);refine yaa (wpAny_setState_of ho hd hf ?_);dsimp only;refine yaa (gY ?_);cases y:((w.params.followText "set-order")||(t.led&&t.plain)||decide (j.size<=1)) with
 |true=>exact hw y Y
 |false=>
  refine yaa (Du (λx Z=>?_) ?_)
  ·simp only[zcp,zbL,or_false] at Z;obtain rfl|rfl|rfl:=Z
   ·exact⟨_,ha⟩
   ·exact⟨_,hb⟩
   ·exact⟨_,O⟩
  refine yaa (wpAny_rule ?_);let⟨o2,n,v,ep2,t2,H,u,I,C,G,B0,m⟩:=O;refine yaa (wpAny_setState_of n u G ?_);have hs2:v.size<4000:=by
   have:=C.length_eq;simp_all
  split
  ·refine yaa (wpAny_storeSet_of n u ?_ (by rw[yaf];lia));refine yab (h j _ (Heap.SameBut.update s.heap r _) ⟨_,kF v _ n u,v,_,_,H,rfl,I,C,G,?_,m.1,?_⟩ L hp)
   ·rw[B0,i,zcx]
   ·intro z;exact m.2 (Bool.and_eq_true_iff.mp z).1
  ·exact yab (Y j .rfl)
def vv(a:s.TypeIs (.ref d) "set")(h:g true s):yar (model prog w) A (Builtin.Frozenset.isAnySet (.ref d)) g E s:=by
 refine yaa (wpAny_isInstance a PySem.F.sub_set_set ?_);exact yab h
def IF(a:s.TypeIs (.ref d) "set")(h:Q (.type "set") s):yar (model prog w) A (Builtin.Frozenset.baseOf d) Q E s:=by
 refine yaa (wpAny_isInstance a PySem.F.sub_set_set ?_);exact yab h
def vX(u:iH prog w s.heap a d)(h:g d.length s):yar (model prog w) A (Builtin.Frozenset.sizeOf a) g E s:=by
 let⟨o,l,v,x,t,n,hd,q,j,m,e,i⟩:=u;refine yaa (wpAny_setEntries_of l hd m (yab ?_));have:=j.length_eq;rw[zbR,zaN] at this;rw[this];exact h
def wZ{l:Array (Int×yai)}(hel:ElemsOf (PySem.intKind prog w) l.toList)(X:(l.toList.map λe=>intOf e.2).Perm g)(hep:∃o es t,s.heap.get? a=some o/\o.data=.set es ep t/\t.fits es.size=true)(hb:iH prog w s.heap b T)(hr:iH prog w s.heap r [])(h1:a≠r)(h2:b≠r)(hS:g.length<4000)(hT:T.length<4000)(h:∀h' U,Heap.SameBut r s.heap h'->iH prog w h' r U->U.length<=g.length->(∀x,x∈U↔x∈g/\x∈T)->z ⟨⟩ {s with heap:=h'}):
  yar (model prog w) A (forIn l PUnit.unit λ(p:Int×yai)(_:PUnit)=>do
   holding [p.2] do
    if(<-setFind b p.2 p.1).isSome then
     let _ <-setAddHashed r p.2 p.1
   Builtin.Frozenset.unchanged d a ep
   pure (ForInStep.yield PUnit.unit)) z E s:=by
 refine wpAny_forIn_array' _ (λrest _ O=>∃(m:List (Int×yai))(h':Heap)(U:List Int),m++rest=l.toList/\O={s with heap:=h'}/\Heap.SameBut r s.heap h'/\iH prog w h' r U/\U.length<=m.length/\∀x,x∈U↔x∈(m.map λe=>intOf e.2)/\x∈T) _ (λe rest _ O hI=>?_) (λ_ O hI=>?_) _ _ ⟨[],s.heap,[],rfl,rfl,Heap.SameBut.refl _ _,hr,zcS _,by simp⟩
 ·let⟨m,h',U,F,rfl,sb,L,hl,C⟩:=hI;obtain⟨⟨k,hk,hh⟩,_⟩:=hel e (by rw[<-F];simp);let⟨tk,W⟩:=Value.isInt_shape hk;let⟨H,v⟩:=e;subst W;subst hh;have hdl:m.length<g.length:=by
   have h3:=congrArg zcR F;have h4:=X.length_eq;simp at h3;simp at h4;lia
  have un:∀(i:Heap){Q':ForInStep PUnit->yah->Prop},Heap.SameBut r s.heap i->Q' (.yield ⟨⟩) {s with heap:=i}->yar (model prog w) A (do
    Builtin.Frozenset.unchanged d a ep
    pure (ForInStep.yield PUnit.unit)) Q' E {s with heap:=i}:=by
   intro i Q' j q;let⟨o,es,t,ho,hd,hf⟩:=hep;refine yaa (yaa (wpAny_setEpoch_of (by rw[j.2 a h1];exact ho) hd hf ?_));rw[yIn (by simp)];exact yab (yab q)
  have nx:∀(i:Heap)(I:List Int),Heap.SameBut r s.heap i->iH prog w i r I->I.length<=m.length+1->(∀x,x∈I↔x∈(m.map λe=>intOf e.2)++[k]/\x∈T)->∃(m:List (Int×yai))(H:Heap)(U:List Int),m++rest=l.toList/\({s with heap:=i}:yah)={s with heap:=H}/\Heap.SameBut r s.heap H/\iH prog w H r U/\U.length<=m.length/\∀x,x∈U↔x∈(m.map λe=>intOf e.2)/\x∈T:=λi I j y Y P=>
   ⟨m++[((PySem.intKind prog w).hash k,.int k tk)],i,I,by simp_all,rfl,j,y,by simp_all,λx=>by rw[zbZ];exact P x⟩
  refine yaa (yad (yaa (HX (hb.keep λo e=>by rw[sb.2 b h2];exact e) hT λr' G=>?_)));cases n:decide (k∈T) with
  |true=>
   rw[G,yIp n];refine yaa (add_int L (by lia) λ_ i j y=>yab ?_);refine un i (sb.trans j) (nx i _ (sb.trans j) y (zcF (ya ..) (by lia)) λx=>?_);unfold qS;grind
  |false=>
   rw[yIn (by lia)];refine yab (un h' sb (nx h' U sb L (by lia) λx=>?_));grind
 ·let⟨m,h',U,F,rfl,sb,L,hl,C⟩:=hI;rw[zbS] at F;subst F;refine h h' U sb L (by have:=X.length_eq;simp_all) λx=>?_;rw[C,X.mem_iff]
def DY(Y:iH prog w s.heap a g)(hb:iH prog w s.heap b T)(X:a≠b)(hS:g.length<4000)(hT:T.length<4000)(h:∀h' r U,(∀c o,s.heap.get? c=some o->h'.get? c=some o)->iH prog w h' r U->U.length<4000->(∀x,x∈U↔x∈g/\x∈T)->Q (.ref r) {s with heap:=h'}):yar (model prog w) A (Builtin.Frozenset.intersection d a (.ref b)) Q E s:=by
 unfold Builtin.Frozenset.intersection;rw[yIn (by lia)];refine yaa (IF (ty_int Y) ?_);refine yaa (yaa (gY ?_));dsimp only;refine yae ?_;have gr:(s.heap.push (bw (!w.params.followText "set-order"))).get? s.heap.objs.size=some (bw (!w.params.followText "set-order")):=zaO _ rfl;have kp:∀c o,s.heap.get? c=some o->(s.heap.push (bw (!w.params.followText "set-order"))).get? c=some o:=λc o e=>zas _ e;have hr:=tO (prog:=prog) gr;have na:∀{c:Addr}{g:List Int},iH prog w s.heap c g->c≠s.heap.objs.size:=λ⟨o,n,_⟩=>zcE (zcP n);have L:=na Y;have I:=na hb;have q:=Y.keep (kp a);have m:=hb.keep (kp b);have O:∀h',Heap.SameBut s.heap.objs.size (s.heap.push (bw (!w.params.followText "set-order"))) h'->∀c o,s.heap.get? c=some o->h'.get? c=some o:=λh' sb c o e=>by
  rw[sb.2 c (zcE (zcP e))];exact kp c o e
 refine yaa (wpAny_of_eq rfl ?_);refine yaa (yad ?_);refine yaa (vv (ty_int m) ?_);refine yaa (wpAny_of_eq rfl ?_);refine yaa (vX m (yaa (vX q ?_)));split
 ·let⟨o,n,P,ep,t,G,hd,H,W,F,v⟩:=q;refine yaa (wpAny_setEpoch_of n hd F ?_);refine yaa (vI ⟨o,n,P,ep,t,G,hd,H,W,F,v⟩ m hr L (by simp) λl h1 i y j C=>?_);refine yaa (wZ j C ⟨o,P,t,by rw[i.2 a L];exact n,hd,F⟩ (m.keep λo e=>by rw[i.2 b I];exact e) y L I hS hT λh2 U u Z hl v=>?_);exact yab (yab (h h2 _ U (O h2 (i.trans u)) Z (by lia) v))
 ·let⟨o,n,P,ep,t,G,hd,H,W,F,v⟩:=m;refine yaa (wpAny_setEpoch_of n hd F ?_);refine yaa (vI ⟨o,n,P,ep,t,G,hd,H,W,F,v⟩ q hr I (by simp) λl h1 i y j C=>?_);refine yaa (wZ j C ⟨o,P,t,by rw[i.2 b I];exact n,hd,F⟩ (q.keep λo e=>by rw[i.2 a L];exact e) y I L hT hS λh2 U u Z hl v=>?_);exact yab (yab (h h2 _ U (O h2 (i.trans u)) Z (by lia) λx=>(v x).trans and_comm))
def and_int(e:iH prog w s.heap a d)(i:iH prog w s.heap b T)(j:a≠b)(u:d.length<4000)(t:T.length<4000)(h:∀h' r U,(∀c o,s.heap.get? c=some o->h'.get? c=some o)->iH prog w h' r U->U.length<4000->(∀x,x∈U↔x∈d/\x∈T)->Q (.ref r) {s with heap:=h'}):yar (model prog w) A (binaryOp .BitAnd (.ref a) (.ref b)) Q E s:=by
 refine wpAny_binaryOp_same (ty_int e) (ty_int i) PySem.F.fills_set_and PySem.F.slot_set_and (wpAny_call_entry PySem.F.slot_set_and (ty_int e) D6 ?_ (PySem.F.args_set_and_2 _ _));refine yaa (wpAny_of_eq rfl ?_);refine yaa ?_;refine yaa (vv (ty_int e) ?_);refine vv (ty_int i) ?_;refine yaa (wpAny_of_eq rfl ?_);refine yaa (DY e i j u t λh' r U k q n m=>?_);exact yab ⟨_,rfl,by simp,h h' r U k q n m⟩
end
end M13
namespace L2
open PySem PySem.Spec PyProof.Rows
def Vy(K:yaI)(H:Hp)(x:V)(ss:List Int):Prop:=∃p,x=.ref p/\(eS K H p (ss.map V.int)∨dS K H p (ss.map V.int))/\ss.length<4000
def A4(K:yaI)(m l:TE):TE:=λa H Q=>m a H λx j=>∃h:List Int,Vy K j x h/\l a j λy i=>∃e:List Int,Vy K i y e/\∀u:List Int,(∀x,x∈u↔x∈h/\x∈e)->Q (.int u.length) i
section
variable {f:Expr}{ta tb:TE}{p3 pos3 pos4:Pos}
def Bk(C:X.calm=true)(I:Inv X pins d H s)(u:Vy X.K H g r)(y:RelV g k)(h:∀(h':Heap)(tk:Nat),M7.iH X.prog X.w h' s.heap.objs.size (M7.allI (λi=>r.getD i 0) r.length)->(∀b o,s.heap.get? b=some o->h'.get? b=some o)->Q (.ref s.heap.objs.size) {s with heap:=h',toks:=tk}):
  yar (model X.prog X.w) X.A (call (.type "set") [k]) Q X.xe s:=by
 have q:=I.ok.hd C;let⟨a,rfl,j,n⟩:=u;obtain rfl:k=Value.ref a:=y;obtain j|j:=j
 ·let⟨its,m,pl,hz⟩:=I.tuple j;exact M7.yV q pl (by simpa using intsAre_of m) n λh' tk l kp=>h h' tk l λb o e=>kp b o (zcP e) e
 ·let⟨its,m,pl,hz⟩:=I.list j;exact M7.Dp q pl.isList (by simpa using intsAre_of m) n λh' tk l kp=>h h' tk l λb o e=>kp b o (zcP e) e
def m7(hc:X.calm=true)(hg:Gl X "len")(hm:X.mg "len"=none)(P:Gl X "set")(L:X.mg "set"=none)(he:PE X e ta)(hf:PE X f tb)(hs:autoParam (notStar e=true) r0)(F:autoParam (notStar f=true) r0):
  PE X (.Call (.Name "len" p) [.BinOp (.Call (.Name "set" p2) [e] [] pos2) .BitAnd (.Call (.Name "set" p3) [f] [] pos3) pos4] [] pos) (A4 X.K ta tb):=by
 intro a s Z H Q I h;refine wpAny_Call_Name_kw (dH I hg hm (by rfl) ?_ (by decide+kernel) (by rfl));refine PyProof.Rows.callWith_builtin1 ?_ (aN [] X.env rfl) rfl;refine zbe (wpAny_BinOp ?_);refine wpAny_Call_Name_kw (dH I P L (by rfl) ?_ (by decide+kernel) (by rfl));refine PyProof.Rows.callWith_type1 ?_ (aN [] X.env hs) rfl;rw[aN [] X.env hs];refine zbe (bW (he a s Z H _ I h) λu n l=>?_);let⟨x,H1,Y,rx,ss,W,q⟩:=l;refine zbx (Bk hc Y W rx λh' tk tS kp=>?_);let⟨S,G,O⟩:=tS;have I1':Inv X a Z H1 {n with heap:=h',toks:=tk}:=Y.kept kp;have I2:=I1'.pinned (λb hb=>zaU.mp hb▸(Y.vc (zcS _) (Y.hok.fresh (zcS _)))) (λb hb=>zaU.mp hb▸⟨S,G,λv z=>by
  let⟨es,ep,t,_,hd,_⟩:=O;simp_all⟩)
 refine wpAny_Call_Name_kw (dH I2 P L (by rfl) ?_ (by decide+kernel) (by rfl));refine PyProof.Rows.callWith_type1 ?_ (aN [] X.env F) rfl;rw[aN [] X.env F];refine zbe (bW (hf _ _ Z H1 _ I2 q) λu2 s2 l=>?_);let⟨y,H2,I3,ry,tt,hy,q2⟩:=l;refine zbx (Bk hc I3 hy ry λh2 m tS2 C=>?_);have g1:=(I3.pin (n.heap.objs.size,S) (zau _ (zau _ (by
  unfold j8;simp_all)))).1
 have n1:=M7.lQ (λi=>ss.getD i 0) ss.length;have n2:=M7.lQ (λi=>tt.getD i 0) tt.length;let⟨_,_,_,l1⟩:=W;let⟨_,_,_,l2⟩:=hy;refine M13.and_int ⟨S,C _ _ g1,O⟩ tS2 (zcE (zcP g1)) (by lia) (by lia) λh3 r U kp3 hU hl W=>?_;refine zbx ?_;let⟨o,ho,es,ep,t,hex,hd,hel,hpm,hf,_⟩:=hU;have j:=hpm.length_eq;rw[zbR,zaN] at j;refine PySem.call_len_set ho hex hd hf (by lia) ⟨.int _,H2,?_,⟨_,by rw[j]⟩,q2 U λy=>by rw[W,M7.sO,M7.sO]⟩;exact I3.gp.kept λb o z=>kp3 b o (C b o z)
end
end L2
namespace M
open PySem PySem.Spec PyProof.Rows L2
def LB(S:aA)(d:D)(ss:List Int):Prop:=(aP S d=.tup (ss.map D.int)∨aP S d=.lst (ss.map D.int))/\ss.length<4000
def vC(a b:AE):AE:=λe S Q=>a e S λr l=>∃i:List Int,LB l r.d i/\b e l λm j=>∃h:List Int,LB j m.d h/\∀u:List Int,(∀x,x∈u↔x∈i/\x∈h)->Q (.dat (.int u.length)) j
def LB.sq(ok:Ok K w H S)(r:Rep K w d v)(h:LB S d g):Vy K H v g:=by
 rcases h with⟨z|z,e⟩
 ·let⟨a,i,rfl,h1,h2⟩:=cA ok r z;rw[j5 h2] at h1;refine⟨a,rfl,.inl h1,e⟩
 ·let⟨a,i,rfl,h1,h2⟩:=bK ok r z;rw[j5 h2] at h1;refine⟨a,rfl,.inr (dS.of h1),e⟩
def FU:∀n H Q,aO K (vC d g) n H Q->A4 K (aO K d) (aO K g) n H Q:=by
 intro n H Q k;let⟨w,s,S,W,ok,env,q,bk⟩:=k;refine⟨w,s,S,_,ok,env,q,.go λP F L v Y m l i e=>?_⟩;let⟨y,z,C⟩:=e;refine⟨y,z.sq l i,v,s,F,_,l,env.le m,C,.go λO U I G X o j h e=>?_⟩;let⟨x,t,q2⟩:=e;refine⟨x,t.sq j h,λu E=>bk.dat (m.trans o) j .int (q2 u E)⟩
section
variable {f:Expr}{p3 pos3 pos4:Pos}
theorem m7(q:X.calm=true)(m:Gl X "len")(l:X.mg "len"=none)(i:Gl X "set")(h:X.mg "set"=none)(o:GE X e ta)(n:GE X f tb)(j:autoParam (notStar e=true) r0)(a:autoParam (notStar f=true) r0):
  GE X (.Call (.Name "len" p) [.BinOp (.Call (.Name "set" p2) [e] [] pos2) .BitAnd (.Call (.Name "set" p3) [f] [] pos3) pos4] [] pos) (vC ta tb):=⟨mE (L2.m7 q m l i h o.p n.p j a) FU⟩
end
end M
namespace L2
open PySem PySem.Spec PyProof.Rows M6
def Rw(a:Addr)(e:Heap->Prop)(es:Array yav)(ep:Nat):Prop:=∀P w H h,aQ P w H h a (.ext e)->gF h a es ep
noncomputable def WJ(a:Addr)(es:Array yav)(ep:Nat)(h:List V):It:=
 ⟨λi H=>i<es.size/\∃e,H a=some (.ext e)/\Rw a e es ep,λi H x j=>j=H/\h[i]? =some x,λi H=>i=es.size/\∃e,H a=some (.ext e)/\Rw a e es ep⟩
def Dd(a it:Addr)(hV:Vals xs (g.toList.map (·.key))):Turn P w K tg (WJ a g ep xs) [it] it (λi h=>h.IsKeyIter it a i g.size ep) where
 mem:=by simp
 obj:=λi h j b n=>by
  have e:b=it:=by simp_all
  subst e;let⟨o,e,c,d⟩:=j;refine⟨o,e,λv z=>by simp_all⟩
 keep:=λi h C j k=>j.at λo e=>k it (by simp) o e
 item:=by
  intro X O hw Q hc i l s σ H E I y j L;let⟨hi,F,S,m⟩:=L;let⟨f0,f1,f2,Z,Y,W⟩:=y it (by simp);obtain⟨x,G,rx⟩:∃x,xs[i]? =some x/\RelV x g[i].key:=by
   have hl:=hV.length;have t:i<xs.length:=by simp_all
   let⟨u,hu,ru⟩:=hV.get (zak t);have:u=g[i].key:=by
    simp_all
   subst this;refine⟨_,zak t,ru⟩
  refine nextK j (m _ _ _ _ (show aQ X.prog X.w H s.heap a (.ext F) from I.hok a _ S)) (zai hi) λC q sb=>?_;have I1:Inv X l σ H {s with heap:=C}:=I.turned (λb o n e=>(sb.2 b n).trans e) f0 f1 Z Y W;let⟨o,e,c,d⟩:=id q;refine⟨_,rfl,xD e c d (by decide) ⟨x,H,I1,rx,⟨rfl,G⟩,q,λb n=>(y b n).1⟩⟩
 done:=by
  intro X O hw Q hc i l s σ H E I y j L;obtain⟨rfl,F,S,m⟩:=L;let⟨f0,f1,f2,Z,Y,W⟩:=y it (by simp);exact Ut (I.ok.hd hc) j (m _ _ _ _ (show aQ X.prog X.w H s.heap a (.ext F) from I.hok a _ S)) λC eb=>⟨rfl,I.turned (λb o n e=>eb b o n e) f0 f1 Z Y W⟩
 self:=λ_ _ _ _ _ j h=>wpAny_pyIter_keyiter j h
def LQ(I:Inv X pins d H s)(n:H a=some (.ext k))(i:Rw a k g ep)(lo:(a==yas)=false)(m:Vals xs (g.toList.map (·.key)))(q:R (WJ a g ep xs) H):
  yar (model X.prog X.w) X.A (pyIter (.ref a)) (WG X pins d tg R) X.xe s:=by
 refine Nn lo (i _ _ _ _ (show aQ X.prog X.w H s.heap a (.ext k) from I.hok a _ n)) ?_;refine⟨_,_,_,_,H,rfl,I.kept λb o e=>zas _ e,Dd a s.heap.objs.size m,⟨_,zaO _ rfl,rfl,rfl⟩,λb l=>?_,q⟩;rw[zaU.mp l];exact I.vc (zcS _) (I.hok.fresh (zcS _))
def Inv.as(I:Inv X pins d H s)(i:R1 (H a))(j:∃q,s.heap.get? a=some q)(new:aQ X.prog X.w (upd H a g) s.heap a g):Inv X pins d (upd H a g) s:=
 I.write (x:=a) (e:=a) (h':=s.heap) (t':=s.toks) i (.inl rfl) (λ_ _ _ z=>z) j new
def gc(P:yaj)(W:yak)(o:Obj)(kvs:List (Key×V))(a:Addr):Heap->Prop:=λh=>h.get? a=some o/\(a==yas)=false/\∃vs,KV kvs vs/\h.DictOf (bA P W) a vs
def gc.ok(x:gc P w d kvs a h):aQ P w H h a (.ext (gc P w d kvs a)):=by
 refine⟨x,⟨d,x.1⟩,λh1 h2 y e=>⟨e _ y.1,y.2.1,?_⟩⟩;let⟨vs,i,j⟩:=y.2.2;refine⟨vs,i,M6.lE j e⟩
def uC(x:aQ P w H h a (.ext (gc d W g kvs b))):b=a:=by
 obtain⟨y,⟨n,e⟩,m⟩:=x;apply Classical.byContradiction;intro i;have t:(h.update b λ_=>{cls:=.none}).get? a=some n:=(zat _ _ i).trans e;have s:=zay (λ_=>{cls:=.none}) y.1 rfl;let⟨_,_,vs,_,E,u,v,j,G,q,_⟩:=m h (h.update b λ_=>{cls:=.none}) y λF l=>by simp_all
 simp_all
def gc.raw(x:gc P W d kvs a h0):∃es ep,(∀e b,Rw a (gc P W d e b) es ep)/\Vals (kvs.map λp=>kV p.1) (es.toList.map (·.key)):=by
 let⟨h1,_,vs,j,s,es,ep,i,n,m,l⟩:=x;rw[h1] at i;cases i;refine⟨es,ep,λe b t q u h y=>by
  obtain rfl:=uC y;refine⟨d,y.1.1,n,m⟩,qq j l.2.1⟩
def Nr(P:yaj)(W:yak)(n:TE):TI:=λm H R=>n m H λx l=>∃a e,x=.ref a/\l a=some (.dK e)/\∀o i j,(∀h b,Rw a (gc P W o h b) i j)->i.size=e.length->R (WJ a i j (e.map λp=>kV p.1)) (upd l a (.ext (gc P W o e a)))
def K3(O:PE X e te):PI X tg e (Nr X.prog X.w te):=by
 intro i s E H R I h;refine bW (O i s E H _ I h) λu F ⟨x,H1,C,G,a,j,ex,v,q⟩=>?_;subst ex;obtain rfl:u=Value.ref a:=G;let⟨z,lo,vs,L,y⟩:=Cf C.hok v;let⟨o,P,S,t,Z,Y,W⟩:=id y;have l:gc X.prog X.w o j a F.heap:=⟨t,lo,vs,L,y⟩
 let⟨Q,U,m,n⟩:=l.raw;refine LQ (C.as (by rw[v];exact True.intro) ⟨o,t⟩ l.ok) bN (m _ _) lo n (q o Q U m ?_);have:=n.length;simp_all
def EZ(P:yaj)(W:yak)(j ty:TE):TE:=λh H Q=>j h H λx m=>ty h m λy i=>∃a l o e k v,x=.ref a/\i a=some (.ext (gc P W o e l))/\y=kV k/\iz e k=some v/\Q v i
def qb(ho:PE X d L)(hi:PE X g ty)(hs:yw g):PE X (.Subscript d g pos) (EZ X.prog X.w L ty):=by
 intro j s G H Q I h;refine tZ PySem.F.slot_dict_getitem.lookup hs (bW (ho j s G H _ I h) λu U ⟨x,H1,I1,Y,Z⟩=>bW (hi j U G H1 _ I1 Z) λiv O ⟨y,E,C,W,a,n,P,m,k,v,ex,e,ey,l,q2⟩=>?_);subst ex ey;obtain rfl:u=Value.ref a:=Y;obtain rfl:=uC (show aQ X.prog X.w E O.heap a (.ext (gc X.prog X.w P m n)) from C.hok a _ e);let⟨_,lo,vs,t,S⟩:=(show aQ X.prog X.w E O.heap n (.ext (gc X.prog X.w P m n)) from C.hok n _ e).1;let⟨w',hw,q⟩:=jf.some_of (by rw[<-l];exact t.val k);exact⟨S.typeIs,wpAny_getItem_of (nS W) S.mapOf hw ⟨v,E,C.tok _,q,q2⟩⟩
end L2
namespace M
open PySem PySem.Spec PyProof.Rows L2 M6
noncomputable def Pq:D->Bool
 |.tup _|.lst _=>true
 |_=>false
noncomputable def pO(P:yaj)(W:yak)(o:Obj)(ks:List Key)(ds:List D):MO:=.Ic (λa bs=>gc P W o (ks.zip (bs.map V.ref)) a) ds
theorem Bw{w:Wd}:∀{ds:List D}{vs:List V},ao K w ds vs->(∀d∈ds,Pq d=true)->∃bs:List Addr,vs=bs.map V.ref
 |[],vs,h,_=>⟨[],by simpa[ao] using h⟩
 |d::ds,vs,h,g=>by
  let⟨x,r,rfl,h1,h2⟩:=h;let⟨bs,rfl⟩:=Bw h2 λd hd=>g d (zaz _ hd);have e:=g d zaP;cases d<;>simp[Pq] at e
  ·let⟨a,_,rfl,_⟩:=h1;exact⟨a::bs,rfl⟩
  ·let⟨a,_,rfl,_⟩:=h1;exact⟨a::bs,rfl⟩
def V8(ok:Ok K w H S)(r:Rep K w (.loc n) v)(z:S[n]? =some (some (pO P W d g ds))):
  ∃(a e:Addr)(bs:List Addr),v=.ref a/\w.r n=some a/\H a=some (.ext (gc P W d (g.zip (bs.map V.ref)) e))/\ao K w ds (bs.map V.ref):=by
 let⟨a,i,rfl⟩:=r;let⟨m,u,h,l,j,e,bs,rfl,k5⟩:=ok.live n _ z;rw[i] at h;cases h;refine⟨a,e,bs,rfl,i,j,k5⟩
def QA(P:yaj)(W:yak)(a:AE):AI:=λi S Q=>a i S λr h=>∃n ks e,r.d=.loc n/\h[n]? =some (some (.dct ks e))/\(∀d∈e,Pq d=true)/\∀o,Q (ks.map kD) (λS=>S[n]? =some (some (pO P W o ks e))) (h.set n (some (pO P W o ks e)))
def OY:∀F H R,Ai K (QA P W k) F H R->Nr P W (aO K k) F H R:=by
 intro F H R zz;let⟨w,δ,S,Qa,ok,env,q,bk⟩:=zz;refine⟨w,δ,S,_,ok,env,q,.go λr1 S1 v1 X H1 I s l ⟨n,ks,ds,hd,z,g,Y⟩=>?_⟩;rw[hd] at l;let⟨k,h,rfl,h0,h1,rfl,O⟩:=vh s l z;let⟨bs,L⟩:=Bw O g;have ek:h=(h.map (·.1)).zip (bs.map V.ref):=by
  rw[<-L];clear h1 O z g Y L
  induction h with
  |nil=>rfl
  |cons p r ih=>simp only[zcq,zaT,<-ih]
 refine⟨k,h,rfl,h1,λo es ep hr t=>?_⟩;have at_:∀{C:Hp}{x:aA}{m:Wd},X.le m->Ok K m C x->x[n]? =some (some (pO P W o (h.map (·.1)) ds))->∃Q,C k=some (.ext Q)/\Rw k Q es ep:=λle j e=>by
  let⟨a1,u,Z,k2,k3,a',bs',rfl,k5⟩:=j.live n _ e;rw[le.r _ _ h0] at Z;cases Z;refine⟨_,k3,hr _ _⟩
 refine bk _ _ _ _ X _ I (s.put (o':=pO P W o (h.map (·.1)) ds) (u':=.ext (gc P W o h k)) z h0 ⟨k,bs,(by lia),by rw[<-L];exact O⟩) ⟨λi C x m d le j E e=>⟨?_,at_ le j E⟩,λi C x m d v H2 le j E e y=>?_,λi C x m le j E e=>⟨?_,at_ le j E⟩⟩ (Y o)
 ·have:=(zad.mp e).1;rw[t];simpa using this
 ·let⟨rfl,y⟩:=y;refine⟨m,.refl,j,?_⟩;rw[zbh,zbh] at e;rw[zbh] at y;cases U:h[i]? with
  |none=>rw[U] at y;cases y
  |some p=>
   rw[U] at y e;cases y;cases e;exact HC p.1
 grind
def AD(P:yaj)(W:yak)(a b:AE):AE:=λh S Q=>a h S λl m=>b h m λj i=>∃n o ks e k d,l.d=.loc n/\i[n]? =some (some (pO P W o ks e))/\ks.length=e.length/\keyOf j.d=some k/\gh ks e k=some d/\Q (.dat d) i
def KJ:∀m H Q,aO K (AD P W g r) m H Q->EZ P W (aO K g) (aO K r) m H Q:=by
 intro m H Q z;let⟨w,t,S,Qa,ok,env,q,bk⟩:=z;refine⟨w,t,S,_,ok,env,q,.go λr1 Z v1 E H1 l s e F=>?_⟩;refine⟨E,t,Z,_,s,env.le l,F,.go λr2 S2 v2 w2 H2 j i h ⟨n,o,ks,ds,k,d,O,C,hl,y,x,q2⟩=>?_⟩;rw[O] at e;let⟨g,Y,bs,rfl,h0,h1,u⟩:=V8 i (e.le j) C;have G:bs.length=ds.length:=by have:=u.length;simp_all
 have X:(ks.zip (bs.map V.ref)).map (·.1)=ks:=zbF (by rw[zbR];lia);have U:(ks.zip (bs.map V.ref)).map (·.2)=bs.map V.ref:=zbG (by rw[zbR];lia);let⟨v,L,I⟩:=oQ (by rw[U];exact u) (by rw[X];exact x);rw[oK h y];refine⟨g,Y,o,_,k,v,rfl,h1,rfl,L,bk.dat (l.trans j) i I q2⟩
section
variable {o i:Expr}
def PK(a:GE X e ta):GI X tg e (QA X.prog X.w ta):=⟨mI (L2.K3 a.p) OY⟩
theorem qb(e:GE X o ta)(h:GE X i tb)(a:yw i):GE X (.Subscript o i pos) (AD X.prog X.w ta tb):=⟨mE (L2.qb e.p h.p a) KJ⟩
end
end M
namespace L2
open PySem PySem.Spec PyProof.Rows
noncomputable def XN(C:Addr)(e:Option Addr)(x:Addr):HO:=.ext λh=>∃a:Addr,h.get? x=some (PySem.W.Ur C e #[.ref a,.none,.none,.none,.bool false,.none])
noncomputable abbrev Cx.at(X:Cx)(e:yai):Cx:={X with A:=X.A.mark (some e),calm:=false,xe:=λ_ _=>False}
end L2
namespace M14
open PySem PySem.Spec PyProof.Rows M6 M8
abbrev E3:=yam×Addr×yai
end M14
variable {ys:List M14.E3}
namespace L2
open PySem PySem.Spec PyProof.Rows M6 M14
abbrev X3:=yam×Addr×V
def qX(x:X3)(y:E3):Prop:=x.1=y.1/\x.2.1=y.2.1/\RelV x.2.2 y.2.2
def sR(W:yak)(po:Option Obj)(a:Addr)(j:List X3):Heap->Prop:=λh=>(a==yas)=false/\(∀o,po=some o->h.get? a=some o)/\∃o i l,∃e:List E3,h.get? a=some o/\o.ExactDict/\o.data=Data.dict i l/\Paired qX j e/\
 i.toList=e.map (λy=>({hash:=bu W y.1,key:=.ref y.2.1,val:=y.2.2}:yav))/\(e.map (·.1)).Nodup
def sR.at(x:sR W po a d h)(e:∀o,h.get? a=some o->h'.get? a=some o):sR W po a d h':=by
 let⟨z,p,o,l,m,j,h1,r⟩:=x;refine⟨z,λo q=>e o (p o q),o,l,m,j,e o h1,r⟩
def sR.ok(x:sR W po a d h):aQ P w H h a (.ext (sR W po a d)):=by
 let⟨z,p,o,l,m,j,h1,r⟩:=id x;refine⟨x,⟨o,h1⟩,λh1 h2 y e=>y.at e⟩
def Uh(x:aQ P w H h a (.ext (sR W po b d))):b=a:=by
 obtain⟨y,⟨o,e⟩,q⟩:=x;apply Classical.byContradiction;intro i;let⟨z,p,F,Q,S,E,h1,h2,O,r⟩:=id y;have u:(h.update b λ_=>{cls:=.none}).get? a=some o:=(zat _ _ i).trans e;have t:=zay (λ_=>{cls:=.none}) h1 rfl;let⟨_,_,G,v,C,m,j,L,s,_⟩:=q h (h.update b λ_=>{cls:=.none}) y λI l=>by simp_all
 simp_all
noncomputable def xC(a:List X3)(d:yam):Bool:=a.any λx=>decide (x.1=d)
noncomputable def GC(a:List X3)(d:yam)(b:Addr)(v:V):List X3:=if xC a d=true then a.map (λx=>if x.1=d then(x.1,x.2.1,v) else x) else a++[(d,b,v)]
noncomputable def qG(a:List X3)(d:yam):Option V:=(a.find? λx=>decide (x.1=d)).map (·.2.2)
def wz(h:Paired qX g ys)(d:yam):(atKey ys d).isSome=xC g d:=by
 unfold atKey xC
 induction h with
 |nil=>rfl
 |@cons x y g ys r t ih=>
  rw[zcr,r.1];by_cases e:y.1=d
  ·simp[e]
  simp_all
def Dt(h:Paired qX g ys)(d:yam):(∀v,qG g d=some v->∃p,atKey ys d=some p/\RelV v p.2)/\(qG g d=none->atKey ys d=none):=by
 unfold atKey qG
 induction h with
 |nil=>simp
 |@cons x y g ys r t ih=>
  rw[zbV,zbV,r.1];by_cases e:y.1=d
  ·simp only[e];exact⟨λv q=>⟨y.2,rfl,by cases q;exact r.2.2⟩,λq=>by cases q⟩
  ·simp only[e];exact ih
theorem zE{i e:Type}{F:i->e->Prop}{a:i}{b:e}(j:F a b):∀{l:List i}{m:List e},Paired F l m->Paired F (l++[a]) (m++[b]):=λh=>by
 induction h with
 |nil=>exact .cons j .nil
 |cons r t ih=>exact .cons r ih
def Gs(h:Paired qX g ys)(r:RelV v u):Paired qX (GC g d b v) (storedH ys d b u):=by
 unfold GC storedH;rw[wz h d];by_cases c:xC g d=true
 ·rw[yIp c,yIp c];clear c
  induction h with
  |nil=>exact .nil
  |@cons x y g ys q t ih=>
   refine .cons ?_ ih;show qX (if x.1=d then(x.1,x.2.1,v) else x) (if y.1=d then(y.1,y.2.1,u) else y);by_cases c:y.1=d
   ·rw[yIp c,yIp (q.1.trans c)];refine⟨q.1,q.2.1,r⟩
   ·rw[yIn c,yIn λz=>c (q.1.symm.trans z)];exact q
 ·rw[yIn c,yIn c];exact zE ⟨rfl,rfl,r⟩ h
def yx(K:yaI)(H:Hp)(a:List X3):Prop:=∀x∈a,bP x.1=true/\x.1.depth<=6/\bJ K H x.1 (.ref x.2.1)
def ME(K:yaI)(H:Hp)(d:yam)(b:Addr):Prop:=bP d=true/\d.depth<=6/\bJ K H d (.ref b)
section
variable {σ:St}
def Aa(I:Inv X pins σ H s)(e:H a=some (.ext (sR X.w po q d)))(S:yx X.K H d):q=a/\(a==yas)=false/\∃i,Paired qX d i/\Heap.DictOfH (cz X.prog X.w) s.heap a i:=by
 have u:=(show aQ X.prog X.w H s.heap a (.ext (sR X.w po q d)) from I.hok a _ e)
 obtain rfl:=Uh u;obtain⟨⟨z,_,o,U,W,i,P,m,hd,v,n,Q⟩,_,_⟩:=u;refine⟨rfl,z,i,v,o,U,W,P,m,hd,n,λy l=>?_,Q⟩;have:∀{d:List X3}{i:List E3},Paired qX d i->∀y∈i,∃x∈d,qX x y:=λh=>by
  induction h with
  |nil=>intro y l;simp at l
  |cons r t ih=>
   intro y l;obtain rfl|l:=zcp.mp l
   ·refine⟨_,by simp,r⟩
   ·let⟨x,m,O⟩:=ih y l;refine⟨x,by simp[m],O⟩
 let⟨x,m,E,C,_⟩:=this v y l;let⟨L,G,F⟩:=S x m;have:=I.key L G F;rw[E,C] at this;exact this
def Wl(z:(a==yas)=false)(s:Paired qX g ys)(d:Heap.DictOfH (cz P w) h a ys):sR w none a g h:=by
 let⟨q,t,u,n,m,l,j,_,i⟩:=d;refine⟨z,(λo q=>by cases q),q,t,u,ys,n,m,l,s,j,i⟩
def zD{e a:Type}{F:e->a->Prop}{l:List e}{m:List a}(h:Paired F l m):l.length=m.length:=by
 induction h with
 |nil=>rfl
 |cons _ _ ih=>simp[ih]
end
def MQ(W:yak):TE:=λ_ H Q=>∀p,H p=none->Q (.ref p) (upd H p (.ext (sR W none p [])))
def Na(K:yaI)(W:yak)(m ty l:TE):TS:=λD e H=>l e H λv o=>m e o λx n=>ty e n λy i=>∃(a j b:Addr)(h:List X3)(d:yam),x=.ref a/\y=.ref b/\i a=some (.ext (sR W none j h))/\
 yx K i h/\ME K i d b/\h.length<100000/\(j=a->D.nx e (upd i a (.ext (sR W none a (GC h d b v)))))
def MR(K:yaI)(W:yak)(j ty:TE):TE:=λi H Q=>j i H λx m=>ty i m λy e=>∃(a l b:Addr)(po:Option Obj)(h:List X3)(d:yam)(v:V),x=.ref a/\y=.ref b/\e a=some (.ext (sR W po l h))/\yx K e h/\ME K e d b/\qG h d=some v/\Q v e
def Tj(K:yaI)(W:yak)(h:Bool):R2:=λy x H Q=>∃(a i b:Addr)(po:Option Obj)(e:List X3)(d:yam),x=.ref a/\y=.ref b/\H a=some (.ext (sR W po i e))/\yx K H e/\ME K H d b/\Q (.bl (h != xC e d)) H
section
variable {o i f:Expr}{td ty tv tx:TE}
def uE:PE X (.Dict [] [] pos) (MQ X.w):=λe s j H Q I h=>
 wpAny_Dict_empty ⟨.ref s.heap.objs.size,_,I.laid (a:=s.heap.objs.size) (o:=.ext (sR X.w none s.heap.objs.size [])) (t':=s.toks) (λ_ _ q=>zas _ q) (zcS _) (sR.ok ⟨beq_eq_false_iff_ne.mpr (Ne.symm (zcE I.big)),(λo q=>by cases q),_,#[],0,[],zaO _ rfl,⟨rfl,rfl,rfl⟩,rfl,.nil,rfl,List.nodup_nil⟩),rfl,h _ (I.hok.fresh (zcS _))⟩
def uA(hu:X.A.units+20<cLine)(ho:PE X o td)(hi:PE X i ty)(hv:PE X value tv)(n:yat value (some (.Subscript o i pos')) pos.line X.env=pure false):
  PS X (.Assign [.Subscript o i pos'] value pos) (Na X.K X.w td ty tv):=by
 intro j s m H D I h;refine wpAny_Assign_Subscript (bW (hv j s m H _ I h) λr O G=>?_) n;let⟨v,H1,I1,S,U⟩:=G;refine bW (ho j O m H1 _ I1 U) λu L F=>?_;let⟨x,H2,I2,Q,q2⟩:=F;refine bW (hi j L m H2 _ I2 q2) λiv s3 E=>?_;let⟨y,H3,t,P,a,a',b,xs,d,ex,ey,e,k1,⟨k2,Z,Y⟩,k5,q3⟩:=E;subst ex ey;obtain rfl:u=Value.ref a:=Q;obtain rfl:iv=Value.ref b:=P;let⟨rfl,z,ys,C,dd⟩:=Aa t e k1;refine wpAny_setItem_heap (hsz:=by rw[<-zD C,yaf];lia) (show X.A.units+1+10<cLine by lia) (t.key k2 Z Y) dd λh' l n=>⟨m,_,?_,q3 rfl⟩
 have W:=Wl z (Gs C S) l;let⟨q,_,_,hq,_⟩:=l;exact lJ t (by rw[e];exact True.intro) n ⟨q,hq⟩ W.ok
def uF(hu:X.A.units+20<cLine)(ho:PE X o td)(hi:PE X i ty)(hs:yw i):PE X (.Subscript o i pos) (MR X.K X.w td ty):=by
 intro j s t H Q I h;refine tZ PySem.F.slot_dict_getitem.lookup hs (bW (ho j s t H _ I h) λu L G=>?_);let⟨x,H1,I1,P,S⟩:=G;refine bW (hi j L t H1 _ I1 S) λiv s2 E=>?_;let⟨y,H2,q,O,a,a',b,po,xs,d,v,ex,ey,e,Z,⟨Y,W,U⟩,l,q2⟩:=E;subst ex ey;obtain rfl:u=Value.ref a:=P;obtain rfl:iv=Value.ref b:=O;let⟨rfl,z,ys,hp,C⟩:=Aa q e Z;let⟨p,n,m⟩:=(Dt hp d).1 v l;exact⟨C.typeIs,wpAny_getItem_heap (show X.A.units+1+10<cLine by lia) (q.key Y W U) C n ⟨v,H2,q.tok _,m,q2⟩⟩
def DF(G:aT k X.A):iy X (yan .NotIn) (Tj X.K X.w true):=by
 intro j s P H y x v u Q I m n h;let⟨a,W,b,po,l,d,rfl,rfl,e,F,⟨E,C,t⟩,q⟩:=h;obtain rfl:u=Value.ref a:=n;obtain rfl:v=Value.ref b:=m;let⟨rfl,z,S,L,O⟩:=Aa I e F;have U:=G.units;refine wpAny_notIn_heap (show X.A.units+1+10<cLine by lia) (I.key E C t) z O ?_;rw[wz L d];refine⟨.bl (!xC l d),H,I.tok _,rfl,by simpa using q⟩
end
end L2
namespace M
open PySem PySem.Spec PyProof.Rows L2 M6
noncomputable def inter:List (D×D)->List D
 |[]=>[]
 |e::es=>e.1::e.2::inter es
noncomputable def adr:V->Addr
 |.ref a=>a
 |_=>0
noncomputable def eu:List (D×D)->List V->List X3
 |e::es,x::v::vs=>(py e.1,adr x,v)::eu es vs
 |_,_=>[]
noncomputable def gO(W:yak)(po:Option Obj)(es:List (D×D)):MO:=.JV (λa vs=>sR W po a (eu es vs)) (inter es)
def yy(es:List (D×D)):Prop:=∀e∈es,cO e.1
noncomputable def n9(es:List (D×D))(k:D):Bool:=es.any λe=>decide (py e.1=py k)
noncomputable def rL(es:List (D×D))(k:D):Option D:=(es.find? λe=>decide (py e.1=py k)).map (·.2)
noncomputable def wG(es:List (D×D))(k d:D):List (D×D):=if n9 es k=true then es.map (λe=>if py e.1=py k then(e.1,d) else e) else es++[(k,d)]
section
variable {w:Wd}
def gz(h:ao K w (d::g::ds) vs):∃x v r,vs=x::v::r/\Rep K w d x/\Rep K w g v/\ao K w ds r:=by
 obtain⟨x,_,rfl,h1,v,r,rfl,h2,a⟩:=h;exact⟨x,v,r,rfl,h1,h2,a⟩
theorem MJ:∀{es:List (D×D)}{vs:List V},ao K w (inter es) vs->(eu es vs).length=es.length
 |[],vs,_=>rfl
 |e::es,vs,h=>by
  let⟨x,v,r,rfl,_,_,a⟩:=gz h;show(eu es r).length+1=es.length+1;rw[MJ a]
theorem tW(ok:Ok K w H S):∀{es:List (D×D)}{vs:List V},ao K w (inter es) vs->yy es->yx K H (eu es vs)
 |[],vs,_,_=>λx j=>by cases j
 |e::es,vs,h,g=>by
  let⟨x,v,r,rfl,h1,_,n⟩:=gz h;have i:=g e (by simp);let⟨b,rfl,m⟩:=i8 ok h1 i;intro y a;obtain rfl|a:=zcp.mp (show y∈(py e.1,b,v)::eu es r from a)
  ·refine⟨i.2.1,i.2.2.1,m⟩
  ·exact tW ok n (λe l=>g e (by simp[l])) y a
theorem ES(k:D):∀{es:List (D×D)}{vs:List V},ao K w (inter es) vs->xC (eu es vs) (py k)=n9 es k
 |[],vs,_=>rfl
 |e::es,vs,h=>by
  let⟨x,v,r,rfl,_,_,a⟩:=gz h;show(decide (py e.1=py k)||xC (eu es r) (py k))=(decide (py e.1=py k)||n9 es k);rw[ES k a]
theorem ET(k:D):∀{es:List (D×D)}{vs:List V},ao K w (inter es) vs->(∀d,rL es k=some d->∃v,qG (eu es vs) (py k)=some v/\Rep K w d v)/\(rL es k=none->qG (eu es vs) (py k)=none)
 |[],vs,_=>⟨λd e=>by simp[rL] at e,λ_=>rfl⟩
 |e::es,vs,h=>by
  let⟨x,v,r,rfl,_,h2,l⟩:=gz h;show(∀d,((e::es).find? λe=>decide (py e.1=py k)).map (·.2)=some d->∃a,(((py e.1,adr x,v)::eu es r).find? λx=>decide (x.1=py k)).map (·.2.2)=some a/\Rep K w d a)/\(((e::es).find? λe=>decide (py e.1=py k)).map (·.2)=none->(((py e.1,adr x,v)::eu es r).find? λx=>decide (x.1=py k)).map (·.2.2)=none);rw[zbV,zbV];by_cases j:py e.1=py k
  ·simp_all
  ·simp only[j];exact (ET k l)
def DZ(es fs:List (D×D)):inter (es++fs)=inter es++inter fs:=by
 induction es with
 |nil=>rfl
 |cons e es ih=>show e.1::e.2::inter (es++fs)=_;rw[ih];rfl
theorem vJ:∀{es:List (D×D)}{vs:List V},ao K w (inter es) vs->eu (es++fs) (vs++d)=eu es vs++eu fs d
 |[],vs,h=>by subst h;rfl
 |e::es,vs,h=>by
  let⟨x,v,r,rfl,_,_,a⟩:=gz h;show(py e.1,adr x,v)::eu (es++fs) (r++d)=_;rw[vJ a];rfl
def R9(m:Rep K w k (.ref b))(hd:Rep K w d v)(h:ao K w (inter g) vs):∃a,GC (eu g vs) (py k) b v=eu (wG g k d) a/\ao K w (inter (wG g k d)) a:=by
 unfold GC wG;rw[ES k h];by_cases c:n9 g k=true
 ·rw[yIp c,yIp c];have go:∀{g:List (D×D)}{vs:List V},ao K w (inter g) vs->∃a,(eu g vs).map (λx=>if x.1=py k then(x.1,x.2.1,v) else x)=eu (g.map λe=>if py e.1=py k then(e.1,d) else e) a/\ao K w (inter (g.map λe=>if py e.1=py k then(e.1,d) else e)) a:=by
   intro g
   induction g with
   |nil=>intro vs h;refine⟨[],rfl,.nil⟩
   |cons e g ih=>
    intro vs h;let⟨x,u,r,rfl,h1,h2,n⟩:=gz h;let⟨a,l,j⟩:=ih n;by_cases i:py e.1=py k
    ·refine⟨x::v::a,?_,?_⟩
     ·show(if py e.1=py k then(py e.1,adr x,v) else(py e.1,adr x,u))::(eu g r).map _=eu ((if py e.1=py k then(e.1,d) else e)::g.map _) _;rw[yIp i,yIp i,l];rfl
     ·rw[zcq,yIp i];exact .cons h1 (.cons hd j)
    ·refine⟨x::u::a,?_,?_⟩
     ·show(if py e.1=py k then(py e.1,adr x,v) else(py e.1,adr x,u))::(eu g r).map _=eu ((if py e.1=py k then(e.1,d) else e)::g.map _) _;rw[yIn i,yIn i,l];rfl
     ·rw[zcq,yIn i];exact .cons h1 (.cons h2 j)
  exact go h
 ·rw[yIn c,yIn c];refine⟨vs++[.ref b,v],?_,?_⟩
  ·rw[vJ h];rfl
  ·rw[DZ];exact h.append (.cons m (.cons hd .nil))
def QE(ok:Ok K w H S)(r:Rep K w (.loc n) v)(z:S[n]? =some (some (gO W po d))):
  ∃(a e:Addr)(vs:List V),v=.ref a/\w.r n=some a/\H a=some (.ext (sR W po e (eu d vs)))/\ao K w (inter d) vs:=by
 let⟨a,i,rfl⟩:=r;let⟨m,u,h,l,j,e,vs,rfl,k5⟩:=ok.live n _ z;rw[i] at h;cases h;refine⟨a,e,vs,rfl,i,j,k5⟩
def Nv(a:Addr)(h:ao K w (inter d) vs):lV K w (gO W po d) (.ext (sR W po a (eu d vs))):=⟨a,vs,rfl,h⟩
def HB(ok:Ok K w H S)(r:Rep K w d v)(g:cO d):∃b,v=.ref b/\ME K H (py d) b:=by
 let⟨b,rfl,a⟩:=i8 ok r g;refine⟨b,rfl,g.2.1,g.2.2.1,a⟩
def IY(W:yak):AE:=λ_ S Q=>Q (.new (gO W none [])) S
def O2:∀a H Q,aO K (IY W) a H Q->MQ W a H Q:=by
 intro a H Q z p e;let⟨w,h,S,i,ok,env,q,bk⟩:=z;exact bk (.new (gO W none [])) S _ w _ .refl (ok.alloc e) (ok.fresh e (Nv p .nil)) q
def NO(W:yak)(a b c:AE):AS:=λD e S=>c e S λl q=>a e q λm o=>b e o λi j=>∃n h,m.d=.loc n/\j[n]? =some (some (gO W none h))/\cO i.d/\yy h/\h.length<100000/\D.nx e (j.set n (some (gO W none (wG h i.d l.d))))
def O1:∀D t H,fU K (NO W d g k) D t H->Na K W (aO K d) (aO K g) (aO K k) D t H:=by
 intro D t H V;let⟨w,u,S,Da,ok,env,q,bk⟩:=V;refine⟨w,u,S,_,ok,env,q,.go λr3 S1 v3 G H1 l x s O=>?_⟩;refine⟨G,u,S1,_,x,env.le l,O,.go λr1 S2 v1 F H2 j v o q2=>?_⟩;refine⟨F,u,S2,_,v,(env.le l).le j,q2,.go λL S3 v2 w3 H3 i h m z=>?_⟩;let⟨n,es,E,y,Y,X,hz,q3⟩:=z;rw[E] at o;let⟨d,C,vs,rfl,U,P,h1⟩:=QE h (o.le i) y;let⟨g,rfl,Q⟩:=HB h m Y;refine⟨d,C,g,_,py L.d,rfl,rfl,P,tW h h1 X,Q,by rw[MJ h1];exact hz,λe=>?_⟩;subst e;let⟨I,e1,Z⟩:=R9 m (s.le (j.trans i)) h1;rw[e1];exact bk.nx u _ t w3 _ ((l.trans j).trans i) (h.put y U (Nv C Z)) (((env.le l).le j).le i) q3
def NP(W:yak)(a b:AE):AE:=λh S Q=>a h S λl m=>b h m λi j=>∃n po e d,l.d=.loc n/\j[n]? =some (some (gO W po e))/\cO i.d/\yy e/\rL e i.d=some d/\Q (.dat d) j
def O3:∀o H Q,aO K (NP W g k) o H Q->MR K W (aO K g) (aO K k) o H Q:=by
 intro o H Q V;let⟨w,t,S,Qa,ok,env,q,bk⟩:=V;refine⟨w,t,S,_,ok,env,q,.go λr1 X v1 C H1 m s h E=>?_⟩;refine⟨C,t,X,_,s,env.le m,E,.go λu S2 Z Y H2 j e i z=>?_⟩;let⟨n,po,es,d,y,x,L,I,l,q2⟩:=z;rw[y] at h;let⟨g,U,vs,rfl,h0,F,h1⟩:=QE e (h.le j) x;let⟨k,rfl,G⟩:=HB e i L;let⟨v,P,O⟩:=(ET u.d h1).1 d l;refine⟨g,U,k,po,_,py u.d,v,rfl,rfl,F,tW e h1 I,G,P,bk.dat (m.trans j) e O q2⟩
def UY(W:yak)(a:Bool):A2:=λx y S Q=>∃n po e,y=.loc n/\S[n]? =some (some (gO W po e))/\cO x/\yy e/\Q (.dat (.bl (a != n9 e x))) S
def UK:∀x y H Q,Ak K (UY W neg) x y H Q->Tj K W neg x y H Q:=by
 intro x y H Q h;let⟨w,d,e,S,E,ok,l,j,⟨n,po,C,rfl,i,t,s,q⟩,bk⟩:=h;let⟨a,u,vs,rfl,v,m,h1⟩:=QE ok j i;let⟨b,rfl,o⟩:=HB ok l t;refine⟨a,u,b,po,_,py d,rfl,rfl,m,tW ok h1 s,o,?_⟩;rw[ES d h1];exact bk.dat .refl ok .bl q
end
section
variable {o i f:Expr}
theorem uE:GE X (.Dict [] [] pos) (IY X.w):=⟨mE L2.uE O2⟩
theorem uA(l:aT j X.A)(m:GE X o ta)(n:GE X i tb)(e:GE X value d)(h:yat value (some (.Subscript o i pos')) pos.line X.env=pure false)(q:autoParam (X.w=W) r0):GS X (.Assign [.Subscript o i pos'] value pos) (NO W ta tb d):=by
 subst q;exact⟨mS (L2.uA (by have:=l.units;lia) m.p n.p e.p h) O1⟩
theorem uF(e:aT j X.A)(h:GE X o ta)(l:GE X i tb)(a:yw i)(m:autoParam (X.w=W) r0):GE X (.Subscript o i pos) (NP W ta tb):=by
 subst m;exact⟨mE (L2.uF (by have:=e.units;lia) h.p l.p a) O3⟩
def G4(a:aT j X.A)(e:autoParam (X.w=W) r0):rS X (yan .NotIn) (UY W true):=by subst e;exact⟨m2 (DF a) UK⟩
end
end M
namespace M
open PySem PySem.Spec PyProof.Rows L2
def qz(a:AA):AI:=λe S Q=>a e S λh l=>∃i j:Int,h=[.int i,.int j]/\(-(2 ^ 62)<=i/\i<2 ^ 62/\-(2 ^ 62)<=j/\j<2 ^ 62)/\Q (fM i (j - i).toNat) (λ_=>True) l
def KC:∀l H R,Ai K (qz g) l H R->L2.qz (lM K g) l H R:=by
 intro l H R z;let⟨w,u,S,W,ok,env,q,bk⟩:=z;refine⟨w,u,S,_,ok,env,q,λU L vs E O s o h m=>?_⟩;let⟨G,j,hd,I,F⟩:=m;refine⟨G,j,?_,I,?_⟩
 ·subst hd;simp only[ao,Rep] at h;simp_all
 ·refine bk _ _ L _ E O s o ⟨λi H S n d le ok t e=>(ux e).1,λi H S n d x X le ok t e y=>?_,λi H S n le ok t e=>?_⟩ F
  ·let⟨C,v⟩:=y;let⟨Q,rfl⟩:=ux e;subst v C;refine⟨n,.refl,ok,.int⟩
  ·show _<=_;rw[e];simp[fM]
theorem jz(j:Gl X "range")(i:X.mg "range"=none)(l:GA X [d,g] k)(h:autoParam (yao [d,g] X.env=[(false,eval d X.env),(false,eval g X.env)]) r0)(e:autoParam (yao [g] X.env=[(false,eval g X.env)]) r0):GI X tg (.Call (.Name "range" p) [d,g] [] pos) (qz k):=⟨mI (L2.jz j i l.p h e) KC⟩
def NQ(b:AS):AS:=λD e S=>∃m a,S[m]? =some (some (.lst a))/\b D (e.map (Option.map (sb m (.lst a)))) (S.set m none)
def Kx(le:w.le g)(f:∀v,Rep K w (.loc m) v->Rep K g (.lst ds) v)(h1:Rep K w d k):Rep K g (sb m (.lst ds) d) k:=by
 cases d with
 |loc n=>
  show Rep K g (if n=m then _ else _) k;by_cases e:n=m
  ·rw[yIp e];subst e;exact f k h1
  ·rw[yIn e];exact h1.le le
 |_=>exact h1.le le
def O6:∀D h H,fU K (NQ g) D h H->fU K g D h H:=by
 intro D h H y;let⟨w,l,S,u,ok,env,⟨m,t,s,q⟩,bk⟩:=y;let⟨n,a,j,f⟩:=QG ok s;refine⟨n,_,_,u,j,⟨?_,λi d e=>?_⟩,q,bk.le a⟩
 ·rw[zbR];exact env.1
 ·rw[zbh] at e;cases z:l[i]? with
  |none=>rw[z] at e;cases e
  |some o=>
   rw[z] at e;cases o with
   |none=>cases e
   |some d0=>
    have e:sb m (.lst t) d0=d:=by simp_all
    subst e;let⟨v,h1,h2⟩:=env.2 i d0 z;refine⟨v,h1,Kx a f h2⟩
def frs(h:AQ X d g):AQ X d (NQ g):=⟨Wc h.p O6⟩
end M
namespace M8
open PySem PySem.Spec PyProof.Rows M5 M6 M7
theorem Cd{i:Type}[DecidableEq i]:∀{l m:List i},l.Nodup->(∀x∈l,x∈m)->l.length<=m.length
 |[],_,_,_=>zcT _
 |a::l,m,hn,h=>by
  rw[zbT] at hn;have n:=h a (by simp);have:=Cd hn.2 λx j=>(zaD (show x≠a from λe=>hn.1 (e▸j))).mpr (h x (by simp[j]));rw[zal n] at this;have:=zap n;simp only[zby];lia
section
variable {w:yak}{R:Result->yah->Prop}{wr:List Addr}{P:Nat->yai->Prop}{St:Nat->yah->Prop}
theorem DP{h0:Heap}(W:WalksS prog w A.in1 I fp wr G n P St)(a:Addr)(ha:a ∉ fp)(val:Nat->yam×Addr)(t:∀i v,P i v->v=.ref (val i).2)(hB:∀i,i<n->val i∈B)(S:∀i,i<n->isKey h0 (val i).1 (val i).2)(hI:∀i s,St i s->∃o,s.heap.get? I=some o/\o.cls≠ .type "tuple")(hw:∀b∈wr,b=I)(hu:A.units+11<cLine)(hn:∀i,i<n->(qR (λi=>(val i).1) i).length<63):
  ∀(k i:Nat)(s:yah),n - i=k->i<=n->St i s->ED w B s.heap a (qR (λi=>(val i).1) i)->eN h0 s.heap->
   (∀s',Moved (a::wr) G s s'->eN h0 s'.heap->ED w B s'.heap a (qR (λi=>(val i).1) n)->R (.ok (.ret .none)) s')->
   codeAny (model prog w) A (.builtin "set.update.loop" ⟨[.ref a,.ref I],[]⟩) R s:=by
 have C:=λz=>ha (W.sub _ z);have sub:∀b∈wr,b∈a::wr:=λb z=>zaz _ z;have kt:∀{i:Nat}{s s':yah},St i s->Moved wr G s s'->eN s.heap s'.heap:=λ{i s s'} h l=>by
  let⟨o,ho,hc⟩:=hI _ _ h;exact eN.but ho hc λc o U e=>l.heap c o (λz=>U (hw c z)) e
 intro k
 induction k with
 |zero=>
  intro i s hk hi h hS Y hR;obtain rfl:i=n:=by lia
  refine codeAny_builtin PyProof.Rows.F.entry_set_update_loop ?_;refine yaa (W.done s _ _ h λs' l=>?_);have q:=kt h l;exact yab (hR s' (l.mono sub) (Y.trans q) (hS.keep (λo e=>l.heap a o C e) q))
 |succ k ih=>
  intro i s hk hi h hS Y hR;have j:i<n:=by lia
  refine codeAny_builtin PyProof.Rows.F.entry_set_update_loop ?_;rw[Around.under_plainId PyProof.Rows.F.plain_set_update_loop _];refine yaa (W.item i s _ _ j h λv s' hP u l=>?_);have q:=kt h l;obtain rfl:=t i v hP;have H:=Y.trans q;have m:=sP H (S i j);refine yaa (yad ?_);refine yad (yaa ((cz prog w).pyHash (by show A.units+1+10<cLine;omega) m ?_));refine Mp (hS.keep (λo e=>l.heap a o C e) q) (hB i j) m (by simp_all) (by have:=hn i j;lia) λb h' x Q Z=>?_;refine yab ⟨plainId_quiet PyProof.Rows.F.plain_set_update_loop _,ih (i+1) _ (by lia) j (W.frame _ s' _ _ u (Nat.le_add_right _ _) λb X o e=>?_) Z (H.trans Q) λO y E L=>?_⟩
  ·rw[x.2 b λz=>ha (z▸X)];exact e
  ·refine hR O (Moved.trans W.gtrans ((l.mono sub).then_heap (Nat.le_add_right _ _) λb o X e=>?_) y) E L;rw[x.2 b λz=>X (z▸zaP)];exact e
end
section
variable {w:yak}
def FE{St:Addr->Nat->Heap->Prop}(hh:A.handled=none)(hT:s.TypeIs (.ref l) T)(h1:isSubtype (.type T) (.type "set")=pure false)(h2:isSubtype (.type T) (.type "frozenset")=pure false)(h3:(Value.type T==Value.type "dict")=false)(it:∀{A':yal}{s':yah}{Q':yai->yah->Prop}{E':yai->yah->Prop},(∀b o,s.heap.get? b=some o->s'.heap.get? b=some o)->Q' (.ref s'.heap.objs.size) {s' with heap:=s'.heap.push ob}->yar (model prog w) A' (pyIter (.ref l)) Q' E' s')(G:ob.isFreed=false)(W:∀{A':yal}(I:Addr),A'.handled=none->l≠I->Walks prog w A' I [I,l] [I] its.size (λi v=>its[i]? =some v) (St I))(x:∀I h',(∀b o,s.heap.get? b=some o->h'.get? b=some o)->h'.get? I=some ob->St I 0 h')(bX:∀I i h',St I i h'->∃o,h'.get? I=some o/\o.cls≠ .type "tuple")(hv:its.toList=ks.map λk=>.ref k.2)(hk:∀k∈ks,isKey s.heap k.1 k.2)(hu:A.units+13<cLine)(U:List yam)(hU:U.length<63)(hn:∀k∈ks,k.1∈U)(h:∀(h':Heap)(tk:Nat)(S:List yam),S.Nodup->(∀y,y∈S↔y∈ks.map (·.1))->S.length<63->ED w ks h' s.heap.objs.size S->(∀b o,b<s.heap.objs.size->s.heap.get? b=some o->h'.get? b=some o)->Q (.ref s.heap.objs.size) {s with heap:=h',toks:=tk}):
  yar (model prog w) A (call (.type "set") [.ref l]) Q E s:=by
 have el:its.size=ks.length:=by rw[<-zaN,hv,zbR]
 have a:∀i (m:i<ks.length),ks.getD i (.none,0)=ks[i]:=λi m=>by simp[m]
 have q:∀n,n<=ks.length->(qR (λi=>(ks.getD i (.none,0)).1) n).length<63:=λn hn'=>by
  refine Nat.lt_of_le_of_lt (Cd (j9 _ _) λy hy=>?_) hU;let⟨i,m,e⟩:=(qk _ _ _).mp hy;rw[a i (by lia)] at e;rw[<-e];exact hn _ (zbJ _)
 refine tu (Z:=λh'=>ED w ks h' s.heap.objs.size (qR (λi=>(ks.getD i (.none,0)).1) its.size)) hT h1 h2 h3 it G (λI h0 R kp gS gI H X hR=>?_)
  λh' tk hZ kp=>h h' tk _ (j9 _ _) (λy=>?_) (q _ (by lia)) hZ kp
 ·refine DP (B:=ks) (W (A':=A.in1.in1.in1) I hh H).toS s.heap.objs.size X (λi=>ks.getD i (.none,0)) (λi v j=>?_) (λi m=>?_) (λi m=>?_) (λi s' F=>bX I i _ F) (λb O=>by simp_all) (by simp_all) (λi m=>q i (by lia)) (its.size - 0) 0 _ rfl (zcT _) (x I h0 kp gI) (EC gS) (λc o _ z=>z) λs' t _ Y=>?_
  ·rw[<-zax] at j;grind
  ·simp_all
  ·rw[a i (by lia)];let⟨k1,k2,as,k3⟩:=hk _ (zbJ (by lia:i<ks.length));refine⟨k1,k2,as,Reads.keeps kp k3⟩
  ·let⟨h',g',d',u,C⟩:=s';obtain rfl:g'=s.gens:=t.gens;obtain rfl:d'=s.drawn:=t.drawn;obtain rfl:C=s.os:=t.os;exact hR h' u Y λb o O e=>t.heap b o O e
 ·rw[qk,zcD];constructor
  ·rintro⟨i,m,e⟩;rw[a i (by lia)] at e;refine⟨_,zbJ (by lia),e⟩
  ·rintro⟨k,L,e⟩;obtain⟨i,m,rfl⟩:=zaL L;refine⟨i,by lia,by rw[a i m];exact e⟩
def Dm(v:A.handled=none)(a:s.heap.IsList l its)(j:its.toList=ks.map λk=>.ref k.2)(u:∀k∈ks,isKey s.heap k.1 k.2)(m:A.units+13<cLine)(U:List yam)(C:U.length<63)(t:∀k∈ks,k.1∈U)(h:∀(h':Heap)(tk:Nat)(S:List yam),S.Nodup->(∀y,y∈S↔y∈ks.map (·.1))->S.length<63->ED w ks h' s.heap.objs.size S->(∀b o,b<s.heap.objs.size->s.heap.get? b=some o->h'.get? b=some o)->Q (.ref s.heap.objs.size) {s with heap:=h',toks:=tk}):
  yar (model prog w) A (call (.type "set") [.ref l]) Q E s:=
 FE (T:="list") (ob:={cls:=.type "list_iterator",data:=.fields #[.ref l,.int 0 0]}) (St:=λI i h=>h.IsListIter I l i/\h.IsList l its) v a.typeIs PySem.F.sub_list_set PySem.F.sub_list_frozenset (by decide) (λkp q=>wpAny_pyIter_list (a.at (kp l)) q) rfl (λI h1 h2=>Walks.list h1 I l h2 its) (λI h' kp e=>⟨⟨_,e,rfl,rfl⟩,a.at (kp l)⟩)
  (λI i h' ⟨⟨o,n,x,_⟩,_⟩=>⟨o,n,by lia⟩) j u m U C t h
def vS(hh:A.handled=none)(hS:ED w B s.heap a z)(h0:∀d∈z,∃p r,d=.tuple (.str p::r))(hc:∀x∈z,∀y∈z,cj x y=true)(hn:z.length<64)(Y:A.units+20<cLine)(h:∀(s1:yah)(h2:Heap)(out:List (yam×Addr))(c:Nat),s1.gens=s.gens->s1.os=s.os->(∀b o,s.heap.get? b=some o->s1.heap.get? b=some o)->(∀b o,s1.heap.get? b=some o->h2.get? b=some o)->h2.get? s1.heap.objs.size=some (seqObj "list" (out.map λk=>Value.ref k.2).toArray c)->(∀k∈out,k∈B)->(out.map (·.1)).Perm z->out.Pairwise (λx y=>gH y.1 x.1=false)->Q (.ref s1.heap.objs.size) {s1 with heap:=h2}):
  yar (model prog w) A (call (.builtin "sorted") [.ref a]) Q E s:=by
 let⟨o,es,ep,t,l,ks,ho,G,hd,T,m,n,q,v⟩:=hS;have C:=λk i=>v.mem_iff.mp (zcD.mpr ⟨k,i,rfl⟩);have I:ks.length=z.length:=by rw[<-v.length_eq,zbR]
 have Z:es.size=ks.length:=by rw[<-zaN,n,zbR]
 refine nM (R:=λs1=>s1.gens=s.gens/\s1.os=s.os) hh (λk i=>oY.g ⟨(q k i).2,h0 _ (C k i)⟩) (λk i l hl=>hc _ (C k i) _ (C l hl)) (by lia) Y (λF hQ=>xT F ⟨o,ho,G,hd,T.fits,m,λ_=>T.rise⟩ (by lia) λs1 P kp e1 e2 le H=>?_) λs1 h2 out c L X W g j u=>h s1 h2 out c L.1 L.2 X W g (λk i=>(q k (j.mem_iff.mp i)).1) ((j.map _).trans v) u
 ·have e:es.toList.map (·.2)=ks.map λk=>Value.ref k.2:=by rw[n,zcC];rfl
  rw[e] at H;let⟨U,O,rfl⟩:=gC H;exact hQ s1 U kp ⟨e1,e2⟩ O
end
end M8
namespace L2
open PySem PySem.Spec PyProof.Rows M6 M8
def rZ(K:yaI)(h:TE):TE:=λe H Q=>h e H λx a=>∃(p:Addr)(ks:List (yam×Addr)),x=.ref p/\dS K a p (ks.map λk=>V.ref k.2)/\tN K a ks/\(∀k∈ks,∃q r,k.1=.tuple (.str q::r))/\(∀k∈ks,∀l∈ks,cj k.1 l.1=true)/\(∃U:List yam,U.length<63/\∀k∈ks,k.1∈U)/\
 ∀(l:Addr)(out:List (yam×Addr)),a l=none->(∀k∈out,k∈ks)->(∀y,y∈out.map (·.1)↔y∈ks.map (·.1))->(out.map (·.1)).Nodup->out.Pairwise (λx y=>gH y.1 x.1=false)->Q (.ref l) (upd a l (.lst (out.map λk=>V.ref k.2)))
section
variable {ta:TE}
def iR(hr:aT k X.A)(hc:X.calm=true)(hg:Gl X "sorted")(hm:X.mg "sorted"=none)(hg2:Gl X "set")(hm2:X.mg "set"=none)(he:PE X e ta)(hs:autoParam (notStar e=true) r0):
  PE X (.Call (.Name "sorted" p) [.Call (.Name "set" p2) [e] [] pos2] [] pos) (rZ X.K ta):=by
 intro m s σ H Q I h;have hk:=I.ok.hd hc;refine wpAny_Call_Name_kw (dH I hg hm (by rfl) ?_ (by decide+kernel) (by rfl));refine PyProof.Rows.callWith_builtin1 ?_ (aN [] X.env rfl) rfl;refine zbe ?_;refine wpAny_Call_Name_kw (dH I hg2 hm2 (by rfl) ?_ (by decide+kernel) (by rfl));refine PyProof.Rows.callWith_type1 ?_ (aN [] X.env hs) rfl;rw[aN [] X.env hs];refine zbe (bW (he m s σ H _ I h) λu i ⟨x,H1,L,rx,a,ks,ex,hq,hkd,h0,hcm,⟨U,hU1,hU2⟩,q⟩=>?_);subst ex;obtain rfl:u=Value.ref a:=rx;refine zbx ?_;have hun:=hr.units;have ky:=λk hk1=>by
  let⟨C,Y,k3⟩:=hkd k hk1;exact L.key C Y k3
 have go:∀{Q':yai->yah->Prop},(∀(G:Heap)(O:Nat)(S:List yam),S.Nodup->(∀y,y∈S↔y∈ks.map (·.1))->S.length<63->ED X.w ks G i.heap.objs.size S->(∀b o,b<i.heap.objs.size->i.heap.get? b=some o->G.get? b=some o)->Q' (.ref i.heap.objs.size) {i with heap:=G,toks:=O})->yar (model X.prog X.w) X.A (call (.type "set") [.ref a]) Q' X.xe i:=λq'=>by
  let⟨its,r',pl,hz⟩:=L.list hq;exact Dm hk pl.isList (by simpa using jQ (λk:yam×Addr=>k.2) r') ky (by lia) U hU1 hU2 q'
 refine go λG O S n1 n2 n3 tS kp=>?_
 ·refine zbx ?_;refine vS hk tS (λd hd=>?_) (λx hx y hy=>?_) (by lia) (by lia) λs2 h2 out c e1 e2 v W g hB Z F=>?_
  ·let⟨k,C,rfl⟩:=(λd hd=>zcD.mp ((n2 d).mp hd)) d hd;exact h0 k C
  ·grind
  ·let⟨j,g2,d2,t2,o2⟩:=s2;obtain rfl:g2=i.gens:=e1;obtain rfl:o2=i.os:=e2;have n:i.heap.objs.size<=j.objs.size:=by
    let⟨o,es,ep,t,l,ks',ho,_⟩:=tS;exact zcG (zcP (v _ _ ho))
   have ab:out.length<64:=by have:=Z.length_eq;rw[zbR] at this;lia
   refine⟨.ref j.objs.size,_,(L.laid (o:=.lst (out.map λk=>V.ref k.2)) (λb o z=>W b o (v b o (kp b o (zcP z) z))) n ⟨by rw[zbR,yaf];lia,_,c,jr (λk=>k.2) out,g⟩).Ce d2,rfl,q _ out (L.hok.fresh n) hB (λy=>(Z.mem_iff).trans (n2 y)) (Z.nodup_iff.mpr n1) F⟩
end
end L2
namespace M
open PySem PySem.Spec PyProof.Rows L2 M6
def nB(a:AE):AE:=λi S Q=>a i S λr h=>∃ks:List D,aP h r.d=.lst ks/\(∀k∈ks,cO k/\∃q r,py k=PyData.tuple (.str q::r))/\(∀k∈ks,∀l∈ks,cj (py k) (py l)=true)/\(∃U:List yam,U.length<63/\∀k∈ks,py k∈U)/\
 ∀e:List D,(∀k∈e,k∈ks)->(∀y,y∈e.map py↔y∈ks.map py)->(e.map py).Nodup->e.Pairwise (λx y=>gH (py y) (py x)=false)->Q (.new (.lst e)) h
def yY:∀C H Q,aO K (nB d) C H Q->rZ K (aO K d) C H Q:=by
 intro C H Q zz;let⟨w,Y,S,Qa,ok,env,q,bk⟩:=zz;refine⟨w,Y,S,_,ok,env,q,.go λr1 S1 v1 w1 H1 E i n ⟨ks,z,L,g2,hl,q1⟩=>?_⟩;let⟨U,I,G⟩:=hl;let⟨d,xs,rfl,h1,h2⟩:=bK i n z;let⟨bs,rfl⟩:=sA h2 λk h=>(L k h).1.2.2.2;have W:ks.length=bs.length:=by have:=h2.length;simp_all
 have v:∀x∈(ks.map py).zip bs,∃k∈ks,x.1=py k:=λx j=>by
  let⟨k,h,e⟩:=zcD.mp (zbU j).1;refine⟨k,h,e.symm⟩
 have ez:(ks.map py).zip bs=(ks.zip bs).map λx=>(py x.1,x.2):=by rw[List.zip_map_left];rfl
 have e1:((ks.map py).zip bs).map (λk=>V.ref k.2)=bs.map V.ref:=by
  have:((ks.map py).zip bs).map (·.2)=bs:=zbG (by rw[zbR];lia);rw[<-this,zcC,this];rfl
 have e2:((ks.map py).zip bs).map (·.1)=ks.map py:=zbF (by rw[zbR];lia);refine⟨d,(ks.map py).zip bs,rfl,by rw[e1];exact dS.of h1,iX i h2 (λk h=>(L k h).1),λx j=>?_,λx j y hy=>?_,⟨U,I,λx j=>by let⟨k,h,e⟩:=v x j;simp_all⟩,λl out P u m t s=>?_⟩
 ·let⟨k,h,e⟩:=v x j;rw[e];exact(L k h).2
 ·let⟨k,h,e⟩:=v x j;let⟨k',F,e'⟩:=v y hy;simp_all
 ·rw[ez] at u;let⟨o,O,rfl⟩:=wI u;have e3:(List.map (λk=>V.ref k.2) (o.map λx=>(py x.1,x.2)))=o.map λx=>V.ref x.2:=by rw[zcC];rfl
  have X:List.map (λx=>x.1) (o.map λx=>(py x.1,x.2))=(o.map (·.1)).map py:=by simp
  rw[e3];rw[X] at t;rw[e2,X] at m;refine bk (.new (.lst (o.map (·.1)))) S1 _ w1 _ E (i.alloc P) (i.fresh P ⟨_,rfl,f7 λx j=>tP h2 x (O x j)⟩) (q1 _ (λk h=>?_) m t ?_)
  ·let⟨x,Z,rfl⟩:=zcD.mp h;exact(zbU (O x Z)).1
  grind
theorem iR(j:aT k X.A)(o:X.calm=true)(m:Gl X "sorted")(l:X.mg "sorted"=none)(h:Gl X "set")(a:X.mg "set"=none)(n:GE X e ta)(i:autoParam (notStar e=true) r0):
  GE X (.Call (.Name "sorted" p) [.Call (.Name "set" p2) [e] [] pos2] [] pos) (nB ta):=⟨mE (L2.iR j o m l h a n.p i) yY⟩
end M
namespace L2
open PySem PySem.Spec PyProof.Rows
def Tt(I:Inv X pins d H s)(h:H a=some (.ext (gc X.prog X.w ob kvs g)))(l:kvs.length<=yag):Inv X pins d (upd H a (.dK kvs)) s:=by
 have x:=(show aQ X.prog X.w H s.heap a (.ext (gc X.prog X.w ob kvs g)) from I.hok a _ h)
 obtain rfl:=uC x;obtain⟨⟨m,lo,vs,j,n⟩,_,_⟩:=x;exact I.as (by rw[h];exact True.intro) ⟨_,m⟩ ⟨l,lo,vs,j,n⟩
end L2
namespace M
open PySem PySem.Spec PyProof.Rows L2 M6
def NL(P:yaj)(W:yak)(a:AS):AS:=λD j S=>a {D with nx:=λh i=>∃n o ks e,i[n]? =some (some (pO P W o ks e))/\ks.length=e.length/\e.length<1000/\D.nx h (i.set n (some (.dct ks e)))} j S
def PF(h:GS X st d)(hP:autoParam (X.prog=P) r0)(hW:autoParam (X.w=W) r0):GS X st (NL P W d):=by
 subst hP hW;exact⟨λl s G H D I z=>by
 let⟨w,L,S,Da,ok,env,q,bk⟩:=z;refine yac (h.p l s G H {D with nx:=λi y=>∃(d x:Addr)(t:Obj)(j:List (Key×V)),y d=some (.ext (gc X.prog X.w t j x))/\j.length<=yag/\D.nx i (upd y d (.dK j))} I ⟨w,L,S,_,ok,env,q,?_⟩) (λfl s' z=>?_) (λ_ _ z=>z)
 ·refine⟨λC S' i O y le m o z=>?_,bk.rt,bk.bk,bk.ct⟩;let⟨n,t,ks,ds,E,F,hl2,Q⟩:=z;let⟨a1,u,Z,k2,Y,x,bs,rfl,k5⟩:=m.live n _ E;have hb:=k5.length;rw[zbR] at hb;have e1:(ks.zip (bs.map V.ref)).map (·.1)=ks:=zbF (by rw[zbR];lia);have e2:(ks.zip (bs.map V.ref)).map (·.2)=bs.map V.ref:=zbG (by rw[zbR];lia);refine⟨a1,x,t,_,Y,by rw[yaf,zca];lia,bk.nx C _ i O _ le (m.put (o':=.dct ks ds) E Z ⟨_,rfl,e1,by rw[e2];exact k5⟩) o Q⟩
 ·cases fl with
  |next=>
   let⟨i,y,I',d,x,t,j,e,F,U⟩:=z;refine⟨i,_,Tt I' e F,U⟩
  |ret v=>exact z
  |brk=>exact z
  |cont=>exact z⟩
end M
namespace L2
open PySem
structure jO(K:yaI)(x:Str)(st:Stmt):Prop where
 ex:∃f oc od kV doc pm an cdv ct osl,zcO K yaq x=some (some (.ref f))/\K.lookup f=some ⟨oc,od,.func (zcN x x (cK st) (bH st) (aj st) .none kV doc pm an cdv ct),osl⟩/\zcn K cdv x=true/\zcm K (.ref f)=true
structure AL(K:yaI)(C:Addr)(m q:Str)(st:Stmt):Prop where
 ex:∃f oc od kV doc pm an cdv ct osl,zcl K (.ref C) m=some (some (.ref f))/\K.lookup f=some ⟨oc,od,.func (zcN m q (cK st) (bH st) (aj st) .none kV doc pm an cdv ct),osl⟩/\zcn K cdv q=true/\zcm K (.ref f)=true/\zcM K (.ref f)=true
def jO.of(a:zcO K yaq x=some (some (.ref f)))(l:K.lookup f=some ⟨oc,d,.func (zcN x x (cK st) (bH st) (aj st) .none q r w g z ct),osl⟩)(c:zcn K z x=true)(k:zcm K (.ref f)=true):jO K x st:=⟨_,_,_,_,_,_,_,_,_,_,a,l,c,k⟩
def AL.of(a:zcl K (.ref C) d=some (some (.ref f)))(l:K.lookup f=some ⟨oc,g,.func (zcN d q (cK st) (bH st) (aj st) .none w z D r F ct),osl⟩)(c:zcn K F q=true)(k:zcm K (.ref f)=true)(i:zcM K (.ref f)=true):AL K C d q st:=⟨_,_,_,_,_,_,_,_,_,_,a,l,c,k,i⟩
def jO.src(e:jO K x st)(X:K.In h)(G:h.Ns yaq mg)(b:∀(kV i m:yai)(n:Option Addr)(j ct:yai)(us:List yai),us.length=ps.length->yaz (zcN x x (cK st) (bH st) (aj st) .none kV i m n j ct) ⟨us,[]⟩=pure (ps.zip us)):Src K mg x ps st:=by
 let⟨f,oc,q,kV,i,m,n,j,ct,o,a,l,c,k⟩:=e.ex;exact J.Oz X G a l c k b
def AL.src(e:AL K C d q st)(b:∀(kV h n:yai)(o:Option Addr)(j ct:yai)(us:List yai),us.length=ps.length->yaz (zcN d q (cK st) (bH st) (aj st) .none kV h n o j ct) ⟨us,[]⟩=pure (ps.zip us)):M.qW K C d q ps st:=by
 let⟨f,oc,t,kV,h,n,o,j,ct,s,a,l,c,k,i⟩:=e.ex;refine⟨f,_,kg l c k,⟨a,i,k⟩,(kg l c k).binds b⟩
end L2
def L2.cy(h1:autoParam (g.kind=.function) r0)(h2:autoParam (g.isCoroutine=false) r0)(l:autoParam (g.isGenerator=false) r0)(j:N.Nodup:=by decide+kernel)(i:autoParam (N.take d.length=d) r0)(h:∀x∈d,g.names.lookup x=some .local∨g.names.lookup x=some .cell:=by decide+kernel)(e:∀y∈g.names,y.2≠ .free:=by decide+kernel):L2.aE N d g:=⟨h1,h2,l,j,i,h,e⟩
namespace M
open PySem L2
def ow(D:Def X.prog X.w X.K X.mg X.base k x ps (av X.K sp))(i:aT j X.A)(n:GA X (e::d) g)(l:autoParam (k<=j) r1)(m:autoParam (Gl X x) r0)(a:(x==("__debug__":Str))=false:=by decide+kernel)(h:autoParam ((e::d).all notStar=true) r0):GE X (.Call (.Name x p) (e::d) [] pos) (aCall sp g):=M.bZ D (i.mono l) m n a h
section
variable {a b:Expr}
def ixs(i:GE X a ta)(h:GE X b tb)(e:oX b:=by exact λ_ _=>rfl):GE X (.Subscript a b pos) (lT mH ta tb):=BI TM i h e
def bG(h:GE X a ta)(e:oX (.Constant (.int d) g pos'):=by exact λ_ _=>rfl):GE X (.Subscript a (.Constant (.int d) g pos') pos) (lT mH ta (aC (.int d))):=BI TM h ak e
def bX(i:Nat)(o:X.N.Nodup)(n:GE X e ta)(l:autoParam (X.N[i]? =some x) r0)(h:Loc X.env.scope x:=by first|exact .inl rfl|exact .inr rfl)(j:autoParam (yat e (some (.Name x pos')) pos.line X.env=pure false) r0)(m:X.fn x=true∨X.env.scope.names.lookup x=some .local:=by first|exact .inl rfl|exact .inr rfl|assumption):GS X (.Assign [.Name x pos'] e pos) (yg ta (bE i)):=zy o l h n j m
def i9(i:Nat)(l:X.N.Nodup)(h:autoParam (X.N[i]? =some x) r0)(e:Loc X.env.scope x:=by first|exact .inl rfl|exact .inr rfl)(j:X.fn x=true∨X.env.scope.names.lookup x=some .local:=by first|exact .inl rfl|exact .inr rfl|assumption):GG X (.Name x pos) (bE i):=fj l h e j
def kb(o:vG X (.builtin g) r)(m:X.mg x=none)(q:GA X (e::d) k)(n:autoParam (Gl X x) r0)(i:bootBuiltins x=some (.builtin g):=by decide+kernel)(l:x≠"__name__":=by decide+kernel)(h:(x==("__debug__":Str))=false:=by decide+kernel)(j:autoParam ((e::d).all notStar=true) r0):GE X (.Call (.Name x p) (e::d) [] pos) (aCall r k):=V7 o n m i q l h j
def kt(o:vG X (.type T) r)(m:X.mg x=none)(q:GA X (e::d) g)(n:autoParam (Gl X x) r0)(i:bootBuiltins x=some (.type T):=by decide+kernel)(l:x≠"__name__":=by decide+kernel)(h:(x==("__debug__":Str))=false:=by decide+kernel)(j:autoParam ((e::d).all notStar=true) r0):GE X (.Call (.Name x p) (e::d) [] pos) (aCall r g):=V6 o n m i q l h j
def Ef(N:List Str)(caps:List (Option Nat))(t:GI X (.Name x p) a wi)(n:∀s₀ H₀ C fp,R3 (jM X scope N s₀ H₀ C fp) ifs d)(v:∀s₀ H₀ C fp,GE (jM X scope N s₀ H₀ C fp) e ta)(l:Rg scope N=true:=by decide+kernel)(h:autoParam (jY X.N X.env scope N caps=true) r0)(i:autoParam (freeOk X.env scope=true) r0)(y:autoParam (X.calm=true) r0)(m:autoParam (N[0]? =some x) r0)(q:∀s₀ H₀ C fp,Loc (jM X scope N s₀ H₀ C fp).env.scope x:=by exact λ_ _ _ _=>.inl rfl)(u:∀s₀ H₀ C fp,(jM X scope N s₀ H₀ C fp).fn x=true∨(jM X scope N s₀ H₀ C fp).env.scope.names.lookup x=some .local:=by first|exact λ_ _ _ _=>.inl rfl|exact λ_ _ _ _=>.inr rfl)(o:∀x,foldedSetIterable a X.env x=pure x:=by intro _;rfl):GE X (.ListComp e [⟨.Name x p,a,ifs,0⟩] scope pos) (cU caps wi (bE 0) d ta):=uH (qP l) h i y t (λs H C f=>fj (qP l).nd m (q s H C f) (u s H C f)) n v o
def aS(i:GE X e ta)(h:autoParam (notStar e=true) r0):GA X [e] (eL ta b4):=aq i ah h
end
end M
open M renaming pv -> W5, aq -> W6, aa -> W7, aS -> W8, af -> W9, ah -> Xa, bG -> Xb, ak -> Xc, bX -> Xd, au -> Xe, aK -> Xf, aD -> Xg, ow -> Xh, az -> Xi, aG -> Xj, aR -> Xk, aH -> Xl, cg -> Xm, i9 -> Xn, kb -> Xo, aV -> Xp, bO -> Xq, bg -> Xr, ixs -> Xs, om -> Xu, aU -> Xv, bC -> Xw, bq -> Xx, bZ -> Xy, eZ -> Xz, br -> XA, eB -> XC, ret -> XD, Ef -> XE, b9 -> XF, c9 -> XG, fH -> XH, kt -> XI, cH -> XJ, cE -> XM, cI -> XO, GE -> XQ, aC -> XR, jT -> XS, jS -> XT, f9 -> XU, cu -> XW, jR -> XX, bR -> XY, dz -> XZ, uL -> X6, dG -> X7, dB -> X8, fK -> X9, pw_pt -> Yb, gB -> Yc, iQ -> Yd, fV -> Ye, pw_and -> Yk, pw_and1 -> Yt, pw_or -> YD, pw_or1 -> YE
namespace K09
open PySem L2
noncomputable def top(i:Nat):Stmt:=PySem.Challenge.pw_pathask_k09_whole_ways_that_fit.main.body.getD i (.Pass ⟨0,0,0,0⟩)
noncomputable abbrev C4:List Str:=["_law_script","_law_k","_law_seed"]
noncomputable abbrev mD:=C4.take 2
def yW:aE C4 mD (aj (top 29)):=L2.cy
structure Txt(K:yaI)(mg:Str->Option yai)(C fi:Addr):Prop where
 isinstance:mg "isinstance"=none
 dict:mg "dict"=none
 int:mg "int"=none
 bool:mg "bool"=none
 len:mg "len"=none
 tuple:mg "tuple"=none
 list:mg "list"=none
 range:mg "range"=none
 sorted:mg "sorted"=none
 set:mg "set"=none
 zip:mg "zip"=none
 repr:mg "repr"=none
 max:mg "max"=none
 min:mg "min"=none
 begin:∃t,mg "BEGIN"=some (.int 0 t)
 end_:∃t,mg "END"=some (.int 1 t)
 Qm:∃a,mg "LEAVES"=some (.ref a)/\∀H:Hp,eS K H a ((["stay","step","at","off"]:List Str).map V.str)
 any:∃t,mg "ANY"=some (.str "*" t)
 knots:∃t,mg "MOST_KNOTS"=some (.int 40 t)
 ties:∃t,mg "MOST_TIES"=some (.int 300 t)
 mg_Web:mg "Web"=some (.ref C)
 cl:AW K C
 rH:Mk K C fi
 n_marked:fR K C "marked"
 n_tied:fR K C "tied"
 n_near:fR K C "near"
 stay:∃a,mg "STAY"=some (.ref a)/\∀H:Hp,eS K H a ((["stay"]:List Str).map V.str)
def B5(e:∃t,mg x=some (.int d t))(h:Gl X x)(a:X.mg=mg)(hd:(x==("__debug__":Str))=false):XQ X (.Name x pos) (XR (.int d)):=by
 let⟨t,e⟩:=e;exact M.kX (v:=.int d) h (by simp_all) ⟨t,rfl⟩ (λ_=>.int) hd
theorem sy:∀ss:List Str,M.ao K w (ss.map M.D.str) (ss.map V.str)
 |[]=>.nil
 |s::ss=>.cons .str (sy ss)
def Nu(e:∃a,mg x=some (.ref a)/\∀H:Hp,eS K H a (ss.map V.str))(j:Gl X x)(i:X.mg=mg)(l:X.K=K)(hd:(x==("__debug__":Str))=false):XQ X (.Name x pos) (XR (.tup (ss.map M.D.str))):=by
 let⟨a,e,h⟩:=e;subst l;exact M.kX (v:=.ref a) j (by simp_all) rfl (λw=>by refine⟨a,_,rfl,h _,sy ss⟩) hd
def Ug(e:∃t,mg x=some (.str y t))(h:Gl X x)(a:X.mg=mg)(hd:(x==("__debug__":Str))=false):XQ X (.Name x pos) (XR (.str y)):=by
 let⟨t,e⟩:=e;exact M.kX (v:=.str y) h (by simp_all) ⟨t,rfl⟩ (λ_=>.str) hd
def Txt.PN(T:Txt K mg C fi)(e:autoParam (Gl X "ANY") r0)(a:autoParam (X.mg=mg) r0):XQ X (.Name "ANY" pos) (XR (.str "*")):=Ug T.any e a (by rfl)
def Txt.rF(T:Txt K mg C fi)(e:autoParam (Gl X "MOST_KNOTS") r0)(a:autoParam (X.mg=mg) r0):XQ X (.Name "MOST_KNOTS" pos) (XR (.int 40)):=B5 T.knots e a (by rfl)
def Txt.uJ(T:Txt K mg C fi)(e:autoParam (Gl X "MOST_TIES") r0)(a:autoParam (X.mg=mg) r0):XQ X (.Name "MOST_TIES" pos) (XR (.int 300)):=B5 T.ties e a (by rfl)
def Txt.wJ(T:Txt K mg C fi)(e:autoParam (Gl X "BEGIN") r0)(a:autoParam (X.mg=mg) r0):XQ X (.Name "BEGIN" pos) (XR (.int 0)):=B5 T.begin e a (by rfl)
def Txt.GQ(T:Txt K mg C fi)(e:autoParam (Gl X "END") r0)(a:autoParam (X.mg=mg) r0):XQ X (.Name "END" pos) (XR (.int 1)):=B5 T.end_ e a (by rfl)
def Txt.Dz(T:Txt K mg C fi)(e:autoParam (Gl X "LEAVES") r0)(a:autoParam (X.mg=mg) r0)(h:autoParam (X.K=K) r0):XQ X (.Name "LEAVES" pos) (XR (.tup [.str "stay",.str "step",.str "at",.str "off"])):=Nu (ss:=["stay","step","at","off"]) T.Qm e a h (by rfl)
def Txt.uI(T:Txt K mg C fi)(e:autoParam (Gl X "STAY") r0)(a:autoParam (X.mg=mg) r0)(h:autoParam (X.K=K) r0):XQ X (.Name "STAY" pos) (XR (.tup [.str "stay"])):=Nu (ss:=["stay"]) T.stay e a h (by rfl)
open M
def sz(h:decide (n<=100)=true):n<=yag:=by rw[yaf];lia
def bf:mH (.tup ds) (.int d) S g=∃e,kq ds d=some e/\g (.dat e) S:=rfl
def e7{e:Type}{a:e}{r:List e}:kq (a::r) (0:Int)=some a:=(cL (j:=0) rfl:kq (a::r) ((0:Nat):Int)=some a)
def cS{e:Type}{a b:e}{r:List e}:kq (a::b::r) (1:Int)=some b:=(cL (j:=1) rfl:kq (a::b::r) ((1:Nat):Int)=some b)
def at2{e:Type}{a b c:e}{r:List e}:kq (a::b::c::r) (2:Int)=some c:=(cL (j:=2) rfl:kq (a::b::c::r) ((2:Nat):Int)=some c)
def UM(h:z<ds.length):∃e,kq ds (z:Int)=some e/\e∈ds:=⟨ds[z],cL (zak h),zbJ h⟩
def pick(h:z<ds.length)(k:∀e∈ds,d (.dat e) S):mH (.lst ds) (.int z) S d:=by
 let⟨e,h1,h2⟩:=UM h;refine⟨e,h1,k e h2⟩
inductive Lf where
 |stay|step (b:Bool) (x:Str)|mk (b:Bool) (m:Str)
noncomputable def side(b:Bool):Str:=if b then "on" else "back"
noncomputable def JS(b:Bool):Str:=if b then "at" else "off"
noncomputable def lD:Lf->D
 |.stay=>.tup [.str "stay"]
 |.step b x=>.tup [.str "step",.str (side b),.str x]
 |.mk b m=>.tup [.str (JS b),.str m]
noncomputable def Qg(x:Str):Bool:=x.cps.toList.all (λc=>(decide (97<=c)&&decide (c<=122))||decide (c=42))&&decide (x.length<=8)
def Nm(x:Str):Prop:=Qg x=true
def rV:Lf->Prop
 |.stay=>True
 |.step _ x=>Nm x
 |.mk _ m=>Nm m
def Nm.ok(h:Nm x):iu x=true:=by
 unfold Nm Qg at h;unfold iu;grind
theorem oO{m:Str}:∀{mg:List Str},u5 (.str m) mg=decide (m∈mg)
 |[]=>rfl
 |a::r=>by
  have e:=oO (m:=m) (mg:=r);unfold u5 at e⊢;rw[zcr,e];simp only[Np];simp
noncomputable def hold(l:Lf)(ms:List Str):Bool:=match l with
 |.stay=>true
 |.step _ _=>false
 |.mk b m=>decide (m∈ms)==b
noncomputable def take(l:Lf)(s w:Str):Bool:=match l with
 |.step b x=>decide (side b=s)&&(decide (x=w)||decide (x="*"))
 |_=>false
def texts(ss:List Str):Prop:=ss.length<=50/\∀x∈ss,iu x=true
local macro_rules
|`(tactic|push_cast[$x,*])=>do let y<-("Mr UN Jd Rm UP aCall eL b4 cT aC lT Wv aB Rj Wx gE yf Rn Je Vt yg bE yd Rv Vs CJ oW CK iE gm pV Gw BP Ls Lo Rr IL x9 LP LO Om J5 J3 true_and UW UT FJ FG Ks FI vY iK FH List.getElem?_cons_zero zam zaW List.set_cons_succ zcW.injEq exists_eq_left' zda.injEq and_true D.ty.injEq D.bl.injEq D.int.injEq D.str.injEq and_assoc exists_and_left exists_eq_left exists_and_right Po KQ zbb if_true if_false Bool.not_true Bool.not_false".splitOn).toArray.mapM λs=>`(Lean.Parser.Tactic.simpLemma|$(Lean.mkIdent s.toName):term);`(tactic|simp only[$x,*,$y,*])
section
variable {w:yak}
noncomputable def nL(ns:List Nat):List D:=ns.map λn:Nat=>D.int n
theorem BE:∀ns:List Nat,bQ (nL ns)=true
 |[]=>rfl
 |n::ns=>by
  have:=BE ns;unfold nL at this⊢;simp only[zcq,bQ,b8,this,zcx]
def k7:IW (.int d) (.int g) S k=(JO d g/\k (.dat (.int (d*g))) S):=rfl
def Fx:AN:=λa S Q=>∃(ns:List Int)(k:Nat),a=[.ir ns,.int k]/\k<1000/\∀z:Int,Q (.dat (.int z)) S
def Q6(T:Txt K mg C fi)(F:Src K mg "_law_cell_at" mD (top 29)):Def P w K mg base 1 "_law_cell_at" mD (av K Fx):=by
 refine eU F yW (λl S Q h=>?_) (λf m A outer s H E t=>?_)
 ·let⟨ns,k,rfl,_⟩:=h;rfl
 ·refine⟨_,(W7 (Xk (Xi M.G2 (W5 1) (Xo Xz T.len (W8 (W5 0))) (aF _)) (W9 (Xj (Xs (W5 0) (W5 1)))) Xl) (W7 (Xd 2 yW.nd Xc) (W7 (Xk (Xi M.Li (Xo Xz T.len (W8 (W5 0))) Xc (aF _)) (W9 (Xd 2 yW.nd (Xs (W5 0) (Xf XS (W5 1) (Xo Xz T.len (W8 (W5 0))))))) Xl) (W9 (Xj (Xf Xq (Xf Xq (Xf XT (Xf XS (W5 2) Xc) Xc) (Xf XT Xc (W5 1))) Xc)))))),λl S Q h=>?_⟩;let⟨ns,k,rfl,u,q⟩:=h;have j:aJ C4 [.ir ns,.int k]=[some (.ir ns),some (.int k),none]:=rfl;rw[j];push_cast[true_and];refine⟨ns.length,rfl,gg (λh=>?_) (λh=>?_)⟩
  ·have h:k<ns.length:=by simp_all
   refine⟨ns[k],cL (zak h),b6 rfl (q _)⟩
  ·have a:∀z,IW (.int z) (.int 48271) S (λx e=>IW (.int 7919) (.int k) e λy n=>rQ x.d y.d n λx e=>rQ x.d (.int 1) e λr o=>XD S o r Q):=λz=>by
    push_cast[k7];refine⟨.inr ⟨by decide,by decide⟩,.inl ⟨by decide,by decide⟩,q _⟩
   refine⟨ns.length,rfl,gg (λh=>?_) (λh=>⟨by decide,a _⟩)⟩;have h:0<ns.length:=by simp_all
   refine⟨ns.length,rfl,by lia,?_⟩;refine⟨ns[k % ns.length]'(zcY _ h),cL (zak (zcY _ h)),?_⟩;push_cast[true_and];simp_all
end
open PySem L2 M
abbrev Mv:=Nat×Lf×Nat
inductive Pt where
 |lf (l:Lf)|many (p:Pt)|seq (ps:List Pt)|alt (ps:List Pt)
mutual
noncomputable def tD:Pt->D
 |.lf l=>lD l
 |.many p=>.tup [.str "many",tD p]
 |.seq ps=>.tup [.str "then",.tup (iA ps)]
 |.alt ps=>.tup [.str "either",.tup (iA ps)]
noncomputable def iA:List Pt->List D
 |[]=>[]
 |p::ps=>tD p::iA ps
end
theorem cF:∀ps,iA ps=ps.map tD
 |[]=>rfl
 |p::ps=>by simp[iA,cF ps]
mutual
noncomputable def oc:Pt->Nat
 |.lf _=>1
 |.many p=>oc p+2
 |.seq ps|.alt ps=>iT ps+1
noncomputable def iT:List Pt->Nat
 |[]=>0
 |p::ps=>oc p+iT ps
end
mutual
noncomputable def dp:Pt->Nat
 |.lf _=>0
 |.many p=>dp p+1
 |.seq ps|.alt ps=>xK ps+1
noncomputable def xK:List Pt->Nat
 |[]=>0
 |p::ps=>max (dp p) (xK ps)
end
mutual
def fB:Pt->Prop
 |.lf l=>rV l
 |.many p=>fB p
 |.seq ps|.alt ps=>mF ps
def mF:List Pt->Prop
 |[]=>True
 |p::ps=>fB p/\mF ps
end
theorem eE:∀{ps:List Pt},mF ps->∀p∈ps,fB p
 |[],_,p,h=>by simp at h
 |q::ps,g,p,h=>by
  obtain rfl|h:=zcp.mp h
  ·exact g.1
  ·exact eE g.2 p h
theorem dZ:∀{ps:List Pt},∀p∈ps,dp p<=xK ps
 |[],p,h=>by simp at h
 |q::ps,p,h=>by
  simp only[xK];obtain rfl|h:=zcp.mp h
  ·lia
  ·have:=dZ p h;lia
def dD:∀p,0<oc p:=λp=>by cases p<;>simp only[oc]<;>lia
theorem fW:∀ps:List Pt,ps.length<=iT ps
 |[]=>zcS _
 |p::ps=>by
  have:=fW ps;have:=dD p;simp only[iT,zby];lia
theorem jA:∀{ps:List Pt},∀p∈ps,oc p<=iT ps
 |[],p,h=>by simp at h
 |q::ps,p,h=>by
  simp only[iT];obtain rfl|h:=zcp.mp h
  ·lia
  ·have:=jA p h;lia
structure Wr where
 ms:Nat->List Str
 sd:Nat->Str
 wd:Nat->Str
def ve(W:Wr)(l:Lf)(i j:Nat):Prop:=(hold l (W.ms i)=true/\i=j)∨(take l (W.sd i) (W.wd i)=true/\j=i+1)
inductive rR(R:Nat->Nat->Prop):Nat->Nat->Prop
 |nil {i:Nat}:rR R i i
 |snoc {i k j:Nat}:rR R i k->R k j->rR R i j
mutual
def dh(W:Wr):Pt->Nat->Nat->Prop
 |.lf l,i,j=>ve W l i j
 |.many p,i,j=>rR (dh W p) i j
 |.seq ps,i,j=>iG W ps i j
 |.alt ps,i,j=>ou W ps i j
def iG(W:Wr):List Pt->Nat->Nat->Prop
 |[],i,j=>i=j
 |p::ps,i,j=>∃k,dh W p i k/\iG W ps k j
def ou(W:Wr):List Pt->Nat->Nat->Prop
 |[],_,_=>False
 |p::ps,i,j=>dh W p i j∨ou W ps i j
end
theorem lC:∀{ps:List Pt},ou W ps d g↔∃p∈ps,dh W p d g
 |[]=>by simp[ou]
 |p::ps=>by simp only[ou,lC (ps:=ps),zcp,exists_eq_or_imp]
abbrev Ed:=Nat×Pt×Nat
abbrev N6:=Nat->Nat->Prop
def Cl(W:Wr)(F:N6)(E:List Ed):Prop:=∀e∈E,∀i j,F e.1 i->dh W e.2.1 i j->F e.2.2 j
noncomputable def eM(m:Mv):Ed:=(m.1,.lf m.2.1,m.2.2)
def fu:dh W (.lf .stay) i j↔i=j:=by
 simp[dh,ve,hold,take]
structure jK(p:Pt)(n:Nat)(E:List Ed):Prop where
 two:2<=n
 Lk:∀e∈E,e.1<n/\e.2.2<n
 snd:∀W,∃F:N6,F 0 0/\Cl W F E/\∀j,F 1 j->dh W p 0 j
 cmp:∀W (F:N6),Cl W F E->F 0 0->∀j,dh W p 0 j->F 1 j
def jK.start(p:Pt):jK p 2 [(0,p,1)]:=by
 refine⟨zcS _,by simp,λW=>⟨λx i=>(x=0/\i=0)∨(x=1/\dh W p 0 i),.inl ⟨rfl,rfl⟩,λe l i j h1 h2=>?_,λj h=>?_⟩,λW F h m j a=>h (0,p,1) (by simp) 0 j m a⟩
 ·simp_all
 ·rcases h with⟨h,_⟩|h
  ·cases h
  ·exact h.2
def jK.Il(h:jK d n k)(g:∀e,e∈q↔e∈k):jK d n q:=
 ⟨h.two,λe a=>h.Lk e ((g e).mp a),λW=>let⟨F,h1,h2,h3⟩:=h.snd W;⟨F,h1,λe a=>h2 e ((g e).mp a),h3⟩,λW F j=>h.cmp W F λe a=>j e ((g e).mpr a)⟩
def jK.cut(h:jK d n (r::w))(u:∀c∈z,c.1<n+k/\c.2.2<n+k)(t:∀(W:Wr)(F:N6),(∀i j,F r.1 i->dh W r.2.1 i j->F r.2.2 j)->∃m:N6,(∀x,x<n->m x=F x)/\Cl W m z)(a:∀(W:Wr)(F:N6),Cl W F z->∀i j,F r.1 i->dh W r.2.1 i j->F r.2.2 j):jK d (n+k) (z++w):=by
 have h2:=h.two;refine⟨by lia,λc a=>?_,λW=>?_,λW F q=>h.cmp W F λc o=>?_⟩
 ·obtain g|g:=zbQ.mp a
  ·exact u c g
  ·have:=h.Lk c (zaz _ g);lia
 ·let⟨F,H,s,G⟩:=h.snd W;let⟨m,l,y⟩:=t W F (s r (by simp));refine⟨m,by rw[l 0 (by lia)];exact H,λc a=>?_,λj v=>G j (by rw[<-l 1 (by lia)];exact v)⟩;obtain g|g:=zbQ.mp a
  ·exact y c g
  ·have:=h.Lk c (zaz _ g);rw[l _ this.1,l _ this.2];exact s c (zaz _ g)
 ·obtain rfl|g:=zcp.mp o
  ·exact a W F λc a=>q c (zaA _ a)
  ·exact q c (zau _ g)
theorem jK.alt(h:jK d n ((g,.alt w,r)::z)):jK d n (w.map (λq=>(g,q,r))++z):=by
 refine h.cut (k:=0) (λc l=>?_) (λW F m=>⟨F,λ_ _=>rfl,λc l i j h1 h2=>?_⟩) (λW F m i j h1 h2=>?_)
 ·let⟨q,_,rfl⟩:=zcD.mp l;exact (h.Lk (g,.alt w,r) (by simp))
 ·let⟨q,e,rfl⟩:=zcD.mp l;exact m i j h1 (by exact lC.mpr ⟨q,e,h2⟩)
 ·let⟨q,e,h2⟩:=lC.mp h2;exact m (g,q,r) (zcD.mpr ⟨q,e,rfl⟩) i j h1 h2
theorem jK.many(h:jK d n ((r,.many q,w)::z)):jK d (n+1) ([(r,.lf .stay,n),(n,q,n),(n,.lf .stay,w)]++z):=by
 have v:=h.Lk (r,.many q,w) (by simp);refine h.cut (λc e=>?_) (λW F l=>⟨λx j=>if x=n then∃i,F r i/\rR (dh W q) i j else F x j,λx u=>?_,λc e i j h1 h2=>?_⟩) (λW F l i j h1 h2=>?_)
 ·simp only[zcp,zbL,or_false] at e;obtain rfl|rfl|rfl:=e<;>dsimp only<;>lia
 ·funext j;exact yIn (by lia)
 ·simp only[zcp,zbL,or_false] at e;obtain rfl|rfl|rfl:=e
  ·rw[yIn (by lia)] at h1;rw[yIp rfl];rw[fu] at h2;subst h2;refine⟨i,h1,.nil⟩
  ·rw[yIp rfl] at h1⊢;let⟨k,o,m⟩:=h1;refine⟨k,o,m.snoc h2⟩
  ·rw[yIp rfl] at h1;rw[yIn (by lia)];rw[fu] at h2;subst h2;let⟨k,o,m⟩:=h1;exact l k i o (by exact m)
 ·have key:∀j,rR (dh W q) i j->F n j:=λj s=>by
   induction s with
   |nil=>exact (l (r,.lf .stay,n) (by simp) i i h1 (fu.mpr rfl))
   |snoc _ g ih=>exact l (n,q,n) (by simp) _ _ ih g
  exact l (n,.lf .stay,w) (by simp) j j (key j h2) (fu.mpr rfl)
def jK.nil(h:jK d n ((g,.seq [],q)::r)):jK d n ([(g,.lf .stay,q)]++r):=by
 have m:=h.Lk (g,.seq [],q) (by simp);refine h.cut (k:=0) (λc e=>?_) (λW F l=>⟨F,λ_ _=>rfl,λc e i j h1 h2=>?_⟩) (λW F l i j h1 h2=>l (g,.lf .stay,q) (by simp) i j h1 (fu.mpr h2))
 ·simp_all
 ·obtain rfl:=zaU.mp e;exact l i j h1 (by exact fu.mp h2)
noncomputable def chain(a:Nat):List Pt->Nat->Nat->List Ed
 |[],_,_=>[]
 |[p],_,b=>[(a,p,b)]
 |p::q::ps,n,b=>(a,p,n)::chain n (q::ps) (n+1) b
theorem jK.seq:∀(ps:List Pt)(q:Pt){n a b:Nat}{E:List Ed},jK d n ((a,.seq (q::ps),b)::E)->jK d (n+ps.length) (chain a (q::ps) n b++E)
 |[],q,n,a,b,E,h=>by
  refine h.cut (λc l=>?_) (λW F m=>⟨F,λ_ _=>rfl,λc l i j h1 h2=>?_⟩) (λW F m i j h1 h2=>?_)
  ·obtain rfl:=zaU.mp l;exact (h.Lk (a,.seq [q],b) (by simp))
  ·obtain rfl:=zaU.mp l;exact m i j h1 (by refine⟨j,h2,rfl⟩)
  ·let⟨k,h2,rfl⟩:=h2;exact m (a,q,b) (by simp[chain]) i k h1 h2
 |q2::ps,q,n,a,b,E,h=>by
  have t:=h.Lk (a,.seq (q::q2::ps),b) (by simp);have h1:jK d (n+1) ([(a,q,n),(n,.seq (q2::ps),b)]++E):=by
   refine h.cut (λc l=>?_) (λW F m=>⟨λx j=>if x=n then∃i,F a i/\dh W q i j else F x j,λx u=>?_,λc l i j h1 h2=>?_⟩) (λW F m i j h1 h2=>?_)
   ·simp only[zcp,zbL,or_false] at l;obtain rfl|rfl:=l<;>dsimp only<;>lia
   ·funext j;exact yIn (by lia)
   ·simp only[zcp,zbL,or_false] at l;obtain rfl|rfl:=l
    ·rw[yIn (by lia)] at h1;rw[yIp rfl];refine⟨i,h1,h2⟩
    ·rw[yIp rfl] at h1;rw[yIn (by lia)];let⟨k,o,s⟩:=h1;exact m k j o (by refine⟨i,s,h2⟩)
   ·let⟨k,o,s⟩:=h2;exact m (n,.seq (q2::ps),b) (by simp) k j (m (a,q,n) (by simp) i k h1 o) (by exact s)
  have h2:jK d (n+1) ((n,.seq (q2::ps),b)::((a,q,n)::E)):=h1.Il λe=>by
   simp only[zcp,zbH];exact or_left_comm
  have o:=jK.seq ps q2 h2;have e:n+(q2::ps).length=n+1+ps.length:=by rw[zby];lia
  rw[e];refine o.Il λc=>?_;show c∈(a,q,n)::chain n (q2::ps) (n+1) b++E↔_;simp only[zcp,zbQ,zbH];exact or_left_comm
def ClM(W:Wr)(F:N6)(a:List Mv):Prop:=∀m∈a,∀i j,F m.1 i->ve W m.2.1 i j->F m.2.2 j
inductive Rc(W:Wr)(mv:List Mv):Nat->Nat->Prop
 |base:Rc W mv 0 0
 |go {m:Mv}{i j:Nat}:m∈mv->Rc W mv m.1 i->ve W m.2.1 i j->Rc W mv m.2.2 j
def Rc.sub(h0:F 0 0)(h:ClM W F d)(r:Rc W d g i):F g i:=by
 induction r with
 |base=>exact h0
 |go hm _ hf ih=>exact h _ hm _ _ ih hf
def Pu(h:jK d n (k.map eM))(j:Nat):Rc W k 1 j↔dh W d 0 j:=by
 constructor
 ·intro r;let⟨F,h1,h2,q⟩:=h.snd W;refine q j (r.sub h1 λm l i j t s=>h2 (eM m) (zcD.mpr ⟨m,l,rfl⟩) i j t (by exact s))
 ·intro g;refine h.cmp W (Rc W k) (λe o i j h1 h2=>?_) .base j g;let⟨m,l,rfl⟩:=zcD.mp o;exact .go l h1 h2
open PySem L2 M
theorem dF:∀(n:Nat)(l:List Nat),l.Nodup->(∀x∈l,x<n)->l.length<=n
 |0,[],_,_=>zcS _
 |0,x::_,_,h=>absurd (h x (by simp)) (by lia)
 |n+1,l,h1,h2=>by
  have:=dF n (l.erase n) (h1.erase n) λx e=>by
   have a:=(List.Nodup.mem_erase_iff h1).mp e;have:=h2 x a.2;lia
  have i:l.length - 1<=(l.erase n).length:=by
   rw[List.length_erase];split<;>lia
  lia
inductive Reach(mv:List Mv)(ms:List Str)(st:List Nat):Nat->Prop
 |base {x:Nat}:x∈st->Reach mv ms st x
 |go {m:Mv}:Reach mv ms st m.1->m∈mv->hold m.2.1 ms=true->Reach mv ms st m.2.2
def N5(n:Nat)(m:Mv):Prop:=m.1<n/\rV m.2.1/\m.2.2<n
def Reach.lt(e:∀m∈d,N5 n m)(a:∀s∈g,s<n)(h:Reach d ms g k):k<n:=by
 induction h with
 |base h=>exact a _ h
 |go _ h _ _=>exact(e _ h).2.2
def Reach.closed{st ks:List Nat}(h1:∀s∈st,s∈ks)(h2:∀m∈d,m.1∈ks->hold m.2.1 ms=true->m.2.2∈ks)(h:Reach d ms st k):k∈ks:=by
 induction h with
 |base h=>simp_all
 |go _ h g ih=>exact h2 _ h ih g
def R0(a:List Mv)(st:List Nat)(s w:Str)(x:Nat):Prop:=∃m∈a,m.1∈st/\take m.2.1 s w=true/\m.2.2=x
def Bf(W:Wr)(a:List Mv)(n x:Nat):Prop:=(n=0/\x=0)∨∃k m,n=k+1/\m∈a/\Rc W a m.1 k/\take m.2.1 (W.sd k) (W.wd k)=true/\m.2.2=x
def wB(h:∀x,x∈w↔Bf W d n x)(x:Nat):Reach d (W.ms n) w x↔Rc W d x n:=by
 constructor
 ·intro r
  induction r with
  |base g=>
   rcases(h _).mp g with⟨rfl,rfl⟩|⟨k,m,rfl,a,r,l,rfl⟩
   ·exact .base
   ·exact .go a r (.inr ⟨l,rfl⟩)
  |go _ a q ih=>exact .go a ih (.inl ⟨q,rfl⟩)
 ·intro r;generalize o:n=n' at r
  induction r with
  |base=>subst o;exact .base ((h _).mpr (.inl ⟨rfl,rfl⟩))
  |@go m i j a r hf ih=>
   rcases hf with⟨q,rfl⟩|⟨l,rfl⟩
   ·subst o;exact .go (ih rfl) a q
   ·exact .base ((h _).mpr (.inr ⟨i,m,o,a,r,l,rfl⟩))
def Ow(h:∀x,x∈g↔Rc W d x n)(x:Nat):R0 d g (W.sd n) (W.wd n) x↔Bf W d (n+1) x:=by
 constructor
 ·rintro⟨m,i,h1,h2,rfl⟩;exact .inr ⟨n,m,rfl,i,(h _).mp h1,h2,rfl⟩
 ·rintro(⟨h1,_⟩|⟨k,m,e,i,r,j,rfl⟩)
  ·cases h1
  ·obtain rfl:n=k:=by lia
   refine⟨m,i,(h _).mpr r,j,rfl⟩
noncomputable def Wr.put(W:Wr)(n:Nat)(ms:List Str)(s w:Str):Wr:=⟨λi=>if i=n then ms else W.ms i,λi=>if i=n then s else W.sd i,λi=>if i=n then w else W.wd i⟩
open PySem L2 M M6
noncomputable abbrev JB:List Str:=["joint"]
noncomputable abbrev nE:=JB
def Sz:aE JB nE (aj (top 11)):=L2.cy
noncomputable abbrev JF:List Str:=["span","fresh","one","joint","other","firsts","lasts"]
noncomputable abbrev q9:=JF.take 2
def sj:aE JF q9 (aj (top 12)):=L2.cy
noncomputable def eD(e:Ed):D:=.tup [.int e.1,tD e.2.1,.int e.2.2]
noncomputable def xy:Pt->Bool
 |.lf _=>true
 |_=>false
noncomputable def ns:Pt->Nat
 |.many _=>1
 |.seq ps=>ps.length - 1
 |_=>0
noncomputable def gX(a n b:Nat):Pt->List Ed
 |.lf _=>[]
 |.alt ps=>ps.map λq=>(a,q,b)
 |.many q=>[(a,.lf .stay,n),(n,q,n),(n,.lf .stay,b)]
 |.seq []=>[(a,.lf .stay,b)]
 |.seq (q::ps)=>chain a (q::ps) n b
noncomputable def Bv(n k:Nat):List D:=(zcX k).map λi:Nat=>D.int ((n:Int)+i)
def Gk(n k:Nat):Bv n (k+1)=.int n::Bv (n+1) k:=by
 unfold Bv;rw[List.range_succ_eq_map,zcq,zcC];refine congr (congrArg _ (by simp)) (zaK λi _=>?_);lia
theorem sY:∀(ps:List Pt)(q:Pt)(a n b:Nat),(vK (.int a::Bv n ps.length) (iA (q::ps)) (Bv n ps.length++[.int b])).map D.tup=(chain a (q::ps) n b).map eD
 |[],q,a,n,b=>rfl
 |q2::ps,q,a,n,b=>by
  rw[zby,Gk,chain,zcq,<-(sY ps q2 n (n+1) b)];rfl
mutual
theorem mL:∀p:Pt,b8 (tD p)=true
 |.lf l=>by cases l<;>simp[tD,lD,b8,bQ]
 |.many p=>by simp[tD,b8,bQ,mL p]
 |.seq ps=>by simp[tD,b8,bQ,tY ps]
 |.alt ps=>by simp[tD,b8,bQ,tY ps]
theorem tY:∀ps:List Pt,bQ (iA ps)=true
 |[]=>by simp[iA,bQ]
 |p::ps=>by simp[iA,bQ,mL p,tY ps]
end
def Ag(e:Ed):b8 (eD e)=true:=by simp[eD,b8,bQ,mL]
theorem jx{a:Type}{f:a->D}:∀{l:List a},(∀x∈l,b8 (f x)=true)->bQ (l.map f)=true
 |[],_=>rfl
 |x::l,h=>by simp only[zcq,bQ,h x (by simp),jx λy e=>h y (zaz _ e),zcx]
def jt(ps:List Pt):(iA ps).length=ps.length:=by rw[cF,zbR]
section
variable {w:yak}
def Fg:AN:=λa S Q=>∃p:Pt,a=[tD p]/\xy p=false/\Q (.dat (.int (ns p))) S
def Uz(T:Txt K mg C fi)(F:Src K mg "new_stands" nE (top 11)):Def P w K mg base 1 "new_stands" nE (av K Fg):=by
 refine eU F Sz (λm S Q h=>?_) (λf n A outer s H E a=>?_)
 ·let⟨p,rfl,_⟩:=h;rfl
 ·refine⟨_,(W7 (Xk (Xi (Xm a) (Xb (W5 0)) Xe (aF _)) (W9 (Xj Xc)) Xl) (W9 (Xj (M.qa (Xi (Xm a) (Xb (W5 0)) Xe (aF _)) (Xo (M.G1 rfl) T.max (W6 (Xf M.wL (Xo Xz T.len (W6 (Xb (W5 0)) Xa)) Xc) (W8 Xc))) Xc)))),λm S Q h=>?_⟩;let⟨p,rfl,i,q⟩:=h;have j:aJ JB [tD p]=[some (tD p)]:=rfl;rw[j];cases p with
  |lf l=>cases i
  |many p=>
   push_cast[tD,bf,e7];exact q
  |seq ps=>
   push_cast[tD,bf,e7,cS];refine⟨ps.length,by simp[xm,jt],_,_,rfl,?_⟩;have e:(if(0:Int)> ps.length - 1 then(0:Int) else ps.length - 1)=((ns (.seq ps):Nat):Int):=by
    simp only[ns];split<;>lia
   rw[e];exact b6 rfl q
  |alt ps=>
   push_cast[tD,bf,e7];exact q
def M0:AN:=λe S Q=>∃(p:Pt)(a n b:Nat),e=[eD (a,p,b),.int n]/\xy p=false/\n<=1000/\oc p<=100/\Q (.new (.lst ((gX a n b p).map eD))) S
def UD(T:Txt K mg C fi)(F:Src K mg "cut" q9 (top 12))(i:Def P w K mg base 1 "new_stands" nE (av K Fg)):Def P w K mg base 2 "cut" q9 (av K M0):=by
 refine eU F sj (λO S Q h=>?_) (λf U A outer s H E o=>?_)
 ·let⟨p,a,n,b,rfl,_⟩:=h;rfl
 ·refine⟨_,(W7 (Xd 2 sj.nd (Xb (W5 0))) (W7 (Xd 3 sj.nd (Xb (W5 0))) (W7 (Xd 4 sj.nd (Xb (W5 0))) (W7 (Xk (Xi (Xm o) (Xb (W5 3)) Xe (aF _)) (W9 (Xj (XE ["part","one","other"] [none,some 2,some 4] (Xr (Xb (W5 3))) (λ_ _ _ _=>XF) (λ_ _ _ _=>(Xg (W6 (W5 1) (W6 (W5 0) (W8 (W5 2))))))))) Xl) (W7 (Xk (Xi (Xm o) (Xb (W5 3)) Xe (aF _)) (W9 (Xj (Xp (W6 (Xg (W6 (W5 2) (W6 T.uI (W8 (W5 1))))) (W6 (Xg (W6 (W5 1) (W6 (Xb (W5 3)) (W8 (W5 1))))) (W6 (Xg (W6 (W5 1) (W6 T.uI (W8 (W5 4))))) Xa)))))) Xl) (W7 (Xk (M.uz (XU (Xb (W5 3)))) (W9 (Xj (Xp (W6 (Xg (W6 (W5 2) (W6 T.uI (W8 (W5 4))))) Xa)))) Xl) (W7 (Xd 5 sj.nd (Xf Xq (Xp (W8 (W5 2))) (M.p8 rfl (by rfl) T.list (by rfl) T.range (W6 (W5 1) (W6 (Xf Xq (W5 1) (Xh i o (W8 (W5 3)))) Xa))))) (W7 (Xd 6 sj.nd (Xf Xq (XW XX (W5 5) (XJ Xc) XZ) (Xp (W8 (W5 4))))) (W9 (Xj (M.uD rfl (by rfl) T.list (by rfl) T.zip (W6 (W5 5) (W6 (Xb (W5 3)) (W8 (W5 6))))))))))))))),λO S Q h=>?_⟩;let⟨p,a,n,b,rfl,v,X,t,q⟩:=h;have L:aJ JF [eD (a,p,b),.int n]=[some (eD (a,p,b)),some (.int n),none,none,none,none,none]:=rfl;rw[L];push_cast[eD,bf,cS,at2];cases p with
  |lf l=>cases v
  |many p=>
   push_cast[tD,bf,e7,cS];refine⟨sz rfl,sz rfl,sz rfl,sz rfl,oH ?_ q⟩;simp[b8,bQ,mL]
  |alt ps=>
   push_cast[tD,bf,e7];push_cast[cU,dP,bf,cS];refine comp_map (δ:=[none,some (.int a),some (.int b)]) (λx=>.tup [.int a,x,.int b]) trivial _ [] _ rfl (λx W Q q=>?_) (by rw[jt,yaf];have:=fW ps;simp only[oc] at t;simp;lia) ?_
   ·push_cast[true_and];exact⟨sz rfl,q⟩
   ·have e:(iA ps).map (λx=>D.tup [.int a,x,.int b])=(gX a n b (.alt ps)).map eD:=by
     rw[cF,zcC,gX,zcC];rfl
    rw[e];exact oH (jx λe _=>Ag e) q
  |seq ps=>
   push_cast[tD,bf,e7,cS];cases ps with
   |nil=>
    refine⟨sz rfl,sz rfl,oH (by rfl) q⟩
   |cons m ps=>
    have u:ps.length<100:=by have:=fW (m::ps);simp only[oc,zby] at t this;lia
    push_cast[Ay];refine⟨sz rfl,.seq (m::ps),rfl,rfl,?_⟩;have G:ns (.seq (m::ps))=ps.length:=by simp[ns]
    have j:(Bv n ps.length).length=ps.length:=by simp[Bv]
    rw[G];refine⟨_,rfl,by lia,by lia,by lia,by lia,?_⟩;rw[show((n:Int)+ps.length - n).toNat=ps.length by lia,show(zcX ps.length).map (λk:Nat=>D.int (n+k))=Bv n ps.length from rfl];refine⟨by rw[yaf];simp;lia,?_⟩;simp only[yc,iK];have I:cutD ([D.int a]++Bv n ps.length) (some 1) none=Bv n ps.length:=by
     unfold cutD;simp[HT.cC]
    rw[I];refine⟨sz rfl,?_⟩;refine⟨by rw[yaf];simp;lia,?_⟩;push_cast[IS,bf,cS];refine⟨_,rfl,_,rfl,_,rfl,by simp[j,jt],by simp[j,jt],by simp[jt],by simp[jt];lia,?_⟩;rw[show[D.int a]++Bv n ps.length=.int a::Bv n ps.length from rfl,(sY ps m a n b)];exact oH (jx λe _=>Ag e) q
end
open PySem L2 M M6
noncomputable abbrev CW:List Str:=["pattern","many","moves","spans","narrower","span"]
noncomputable abbrev l7:=CW.take 1
def iM:aE CW l7 (aj (top 10)):=L2.cy
noncomputable def vD(m:Mv):D:=.tup [.int m.1,lD m.2.1,.int m.2.2]
def R6(m:Mv):eD (eM m)=vD m:=rfl
noncomputable def ws(E:List Ed):Nat:=(E.map λe=>oc e.2.1).sum
noncomputable def vs(E:List Ed):Nat:=(E.map λe=>oc e.2.1 - 1).sum
def C8(A B:List Ed):ws (A++B)=ws A+ws B:=by simp[ws]
def C9(A B:List Ed):vs (A++B)=vs A+vs B:=by simp[vs]
def jq(e:Ed)(B:List Ed):ws (e::B)=oc e.2.1+ws B:=by simp[ws]
def kE(e:Ed)(B:List Ed):vs (e::B)=(oc e.2.1 - 1)+vs B:=by simp[vs]
theorem yJ:∀E:List Ed,E.length<=ws E
 |[]=>zcT _
 |e::E=>by
  have:=yJ E;have:=dD e.2.1;rw[jq,zby];lia
theorem II{a b:Nat}:∀ps:List Pt,ws (ps.map λq=>(a,q,b))=iT ps/\vs (ps.map λq=>(a,q,b))+ps.length=iT ps
 |[]=>⟨rfl,rfl⟩
 |p::ps=>by
  let⟨h1,h2⟩:=II (a:=a) (b:=b) ps;have:=dD p;rw[zcq,jq,kE,zby,iT];lia
theorem xW:∀(ps:List Pt)(q:Pt)(a n b:Nat),ws (chain a (q::ps) n b)=iT (q::ps)/\vs (chain a (q::ps) n b)+ps.length+1=iT (q::ps)
 |[],q,a,n,b=>by
  have:=dD q;simp only[chain,iT];simp[ws,vs];lia
 |q2::ps,q,a,n,b=>by
  let⟨h1,h2⟩:=xW ps q2 n (n+1) b;have:=dD q;rw[chain,jq,kE,iT,zby];lia
theorem sZ:∀(ps:List Pt)(q:Pt)(a n b:Nat),∀e∈chain a (q::ps) n b,e.2.1∈q::ps
 |[],q,a,n,b,e,h=>by
  rw[chain] at h;simp_all
 |q2::ps,q,a,n,b,e,h=>by
  obtain rfl|h:=zcp.mp h
  ·simp
  ·exact zaz _ (sZ ps q2 n (n+1) b e h)
def Ii(a n b:Nat)(p:Pt)(e:xy p=false):ws (gX a n b p)<=oc p/\ns p+vs (gX a n b p)<=oc p - 1:=by
 cases p with
 |lf _=>cases e
 |many q=>
  simp only[gX,jq,kE,ns,oc];simp[ws,vs];lia
 |alt ps=>
  let⟨h1,h2⟩:=II (a:=a) (b:=b) ps;simp only[gX,ns,oc];lia
 |seq ps=>
  cases ps with
  |nil=>simp[gX,ws,vs,ns,oc]
  |cons q ps=>
   let⟨h1,h2⟩:=xW ps q a n b;simp only[gX,ns,oc,zby];lia
def Q7(a n b:Nat)(p:Pt)(m:xy p=false)(i:fB p):∀e∈gX a n b p,fB e.2.1/\dp e.2.1<dp p:=by
 intro e j;cases p with
 |lf _=>cases m
 |many q=>
  simp only[gX,zcp,zbL,or_false] at j;obtain rfl|rfl|rfl:=j
  ·exact⟨by simp[fB,rV],by simp[dp]⟩
  ·exact⟨i,by simp[dp]⟩
  ·exact⟨by simp[fB,rV],by simp[dp]⟩
 |alt ps=>
  let⟨q,l,rfl⟩:=zcD.mp j;have:=dZ q l;exact⟨eE i q l,by simp only[dp];lia⟩
 |seq ps=>
  cases ps with
  |nil=>
   simp only[gX,zaU] at j;subst j;exact⟨by simp[fB,rV],by simp[dp]⟩
  |cons q ps=>
   have h:=sZ ps q a n b e j;have:=dZ e.2.1 h;exact⟨eE i _ h,by simp only[dp];lia⟩
def jK.step{p q:Pt}{a b:Nat}{E:List Ed}(h:jK p n ((a,q,b)::E))(e:xy q=false):jK p (n+ns q) (gX a n b q++E):=by
 cases q with
 |lf _=>cases e
 |many q=>exact h.many
 |alt ps=>exact h.alt
 |seq ps=>
  cases ps with
  |nil=>exact h.nil
  |cons q ps=>
   have:=jK.seq ps q h;simpa[ns,gX] using this
def LG(h:rV d)(q:g (.dat (.bl true)) S):mH (lD d) (.int 0) S λr e=>qV false r.d (.tup [.str "stay",.str "step",.str "at",.str "off"]) e g:=by
 have key:∀x,x∈(["stay","step","at","off"]:List Str)->qV false (.str x) (.tup [.str "stay",.str "step",.str "at",.str "off"]) S g:=λx a=>by
  refine iY (n:=0) (ss:=["stay","step","at","off"]) (by simp only[zcp,zbL,or_false] at a;obtain rfl|rfl|rfl|rfl:=a<;>decide+kernel) (by decide) (by rfl) ?_;have:u5 (.str x) ["stay","step","at","off"]=true:=by simp only[zcp,zbL,or_false] at a;obtain rfl|rfl|rfl|rfl:=a<;>decide+kernel
  rw[this];exact q
 cases d with
 |stay=>refine⟨_,e7,key _ (by simp)⟩
 |step b x=>refine⟨_,e7,key _ (by simp)⟩
 |mk b m=>refine⟨_,e7,key _ (by cases b<;>simp[JS])⟩
def LF(h:xy d=false)(q:g (.dat (.bl false)) S):mH (tD d) (.int 0) S λr e=>qV false r.d (.tup [.str "stay",.str "step",.str "at",.str "off"]) e g:=by
 have key:∀x,x∈(["many","then","either"]:List Str)->qV false (.str x) (.tup [.str "stay",.str "step",.str "at",.str "off"]) S g:=λx a=>by
  refine iY (n:=0) (ss:=["stay","step","at","off"]) (by simp only[zcp,zbL,or_false] at a;obtain rfl|rfl|rfl:=a<;>decide+kernel) (by decide) (by rfl) ?_;have:u5 (.str x) ["stay","step","at","off"]=false:=by simp only[zcp,zbL,or_false] at a;obtain rfl|rfl|rfl:=a<;>decide+kernel
  rw[this];exact q
 cases d with
 |lf _=>cases h
 |many d=>refine⟨_,e7,key _ (by simp)⟩
 |seq ps=>refine⟨_,e7,key _ (by simp)⟩
 |alt ps=>refine⟨_,e7,key _ (by simp)⟩
def KS(h:b8 d=true)(q:g (.dat d) S):XD S (S++T) (.dat d) g:=
 ⟨_,dW h,λk o a e=>.inl (by rw[zae a] at e;exact e),by rw[List.take_left];exact q⟩
abbrev LS:=Nat×List Mv×List Ed×List Ed
noncomputable def stp:LS->Option LS
 |(_,_,[],[])=>none
 |(n,mv,[],e::NR)=>some (n,mv,e::NR,[])
 |(n,mv,(a,.lf l,b)::R,NR)=>some (n,mv++[(a,l,b)],R,NR)
 |(n,mv,(a,q,b)::R,NR)=>some (n+ns q,mv,R,NR++gX a n b q)
noncomputable def runs(s:LS):Nat->Option LS
 |0=>some s
 |k+1=>(runs s k).bind stp
def Ry(p:Pt)(n:Nat)(a:List Mv)(R e:List Ed):Prop:=∃k,runs (2,[],[(0,p,1)],[]) k=some (n,a,R,e)
def Ry.go{p:Pt}{s t:LS}(h:Ry p s.1 s.2.1 s.2.2.1 s.2.2.2)(e:stp s=some t):Ry p t.1 t.2.1 t.2.2.1 t.2.2.2:=by
 let⟨k,a⟩:=h;refine⟨k+1,?_⟩;show(runs _ k).bind stp=_;simp_all
def Ry.turn(h:Ry d n g [] k):Ry d n g k []:=by
 cases k with
 |nil=>exact h
 |cons e k=>exact Ry.go (s:=(n,g,[],e::k)) h rfl
def Ry.cut(h:Ry d n r ((g,q,k)::w) z)(j:xy q=false):Ry d (n+ns q) r w (z++gX g n k q):=by
 refine Ry.go (s:=(n,r,(g,q,k)::w,z)) (t:=(n+ns q,r,w,z++gX g n k q)) h ?_;cases q with
 |lf _=>cases j
 |_=>rfl
section
variable {w:yak}
def Fo:AN:=λe S Q=>∃p:Pt,e=[tD p]/\fB p/\oc p<=50/\∀(n:Nat)(a:List Mv),Ry p n a [] []->jK p n (a.map eM)->n<=oc p+1->a.length<=oc p->(∀m∈a,rV m.2.1)->Q (.dat (.tup [.int n,.lst (a.map vD)])) S
def QX(T:Txt K mg C fi)(F:Src K mg "laid_out" l7 (top 10))(o:Def P w K mg base 1 "new_stands" nE (av K Fg))(ab:Def P w K mg base 2 "cut" q9 (av K M0)):Def P w K mg base 3 "laid_out" l7 (av K Fo):=by
 refine eU F iM (λds S Q h=>?_) (λf cdv A outer s H E I=>?_)
 ·let⟨p,rfl,_⟩:=h;rfl
 ·refine⟨_,(W7 (Xd 1 iM.nd Xc) (W7 (Xd 2 iM.nd (Xu (Xp Xa))) (W7 (Xd 3 iM.nd (Xp (W6 (Xg (W6 T.wJ (W6 (W5 0) (W8 T.GQ)))) Xa))) (W7 (M.kR PassesOwn.never (XU (W5 3)) (W7 (Xd 4 iM.nd (Xu (Xp Xa))) (W7 (Xw PassesOwn.never rfl (Xr (W5 3)) (Xn 5 iM.nd) (W9 (Xk (Xi (X6 I) (Xb (Xb (W5 5))) T.Dz rfl) (W9 (Xv (XC PySem.F.plainAttrs_list PySem.F.slot_list_append PySem.F.type_list_append X7 (W5 2) (W8 (W5 5))))) (W7 (Xv (XC PySem.F.plainAttrs_list PySem.F.slot_list_extend PySem.F.type_list_extend M.lq (W5 4) (W6 (Xh ab I (W6 (W5 5) (W8 (W5 1)))) Xa))) (W9 (M.Dv (i:=1) iM.nd rfl (Or.inl rfl) (Xh o I (W6 (Xb (W5 5)) Xa)))))))) (W9 (Xd 3 iM.nd (W5 4)))))) (W9 (Xj (M.WX (Xg (W6 (W5 1) (W8 (W5 2))))))))))),λds S Q h=>?_⟩;let⟨p,rfl,hp,ho,q⟩:=h;have e0:aJ CW [tD p]=[some (tD p),none,none,none,none,none]:=rfl;rw[e0];push_cast[bF];refine⟨sz rfl,sz rfl,sz rfl,?_⟩;have cS:∀(a:MO)(T:aA),(S++some a::T)[S.length]? =some (some a):=λa T=>by simp
  have u:∀(a:MO)(T:aA)(k:Nat),(S++some a::T)[S.length+1+k]? =T[k]?:=λa T k=>by
   rw[zab (by lia),show S.length+1+k - S.length=k+1 by lia,zam]
  have Sw:∀(a:MO)(b:Option MO)(T:aA),(S++some a::T).set S.length b=S++b::T:=λa b T=>by simp
  have VI:∀(a:MO)(T:aA)(x y:Option MO),(S++some a::(T++[x])).set (S.length+1+T.length) y=S++some a::(T++[y]):=λa T x y=>by
   rw[zaw _ _ (by lia),show S.length+1+T.length - S.length=T.length+1 by lia];simp
  obtain⟨W,hW⟩:∃W:Nat->bh->aA->Prop,W=λU O S2=>∃(n:Nat)(j:List Mv)(E:List Ed)(d:D)(v4 v:Option D)(T:aA),O=[some (tD p),some (.int n),some (.loc S.length),some d,v4,v]/\S2=S++some (.lst (j.map vD))::T/\(d=.lst (E.map eD)∨∃k,d=.loc (S.length+1+k)/\T[k]? =some (some (.lst (E.map eD))))/\Ry p n j E []/\
    jK p n (j.map eM++E)/\n+vs E<=oc p+1/\j.length+ws E<=oc p/\(∀m∈j,rV m.2.1)/\∀e∈E,fB e.2.1/\dp e.2.1<U:=⟨_,rfl⟩
  have hop:=dD p;refine⟨W,⟨dp p+1,by rw[hW];refine⟨2,[],[(0,p,1)],_,none,none,[],rfl,rfl,.inl rfl,⟨0,rfl⟩,jK.start p,by simp[vs];lia,by simp[ws],by simp,λe Z=>by simp_all⟩⟩,?_⟩;intro U O S2 hw;rw[hW] at hw;let⟨n,j,E,d,v4,v,T,rfl,rfl,hd,hR,hB,hv,X,hlf,hE⟩:=hw;have iC:aP (S++some (.lst (j.map vD))::T) d=.lst (E.map eD):=by
   obtain rfl|⟨k,rfl,hk⟩:=hd
   ·rfl
   ·simp only[aP,u,hk];rfl
  push_cast[true_and];refine⟨!E.isEmpty,by rw[iC];simp[e8],gg (λhw=>?_) (λhw=>?_)⟩
  ·obtain⟨N,hN⟩:∃N:bh->aA->Prop,N=λO S2=>∃(n:Nat)(j:List Mv)(E:List Ed)(d:D)(v4 v:Option D)(T:aA),O=[some (tD p),some (.int n),some (.loc S.length),some d,v4,v]/\S2=S++some (.lst (j.map vD))::T/\(d=.lst (E.map eD)∨∃k,d=.loc (S.length+1+k)/\T[k]? =some (some (.lst (E.map eD))))/\Ry p n j E []/\
     jK p n (j.map eM++E)/\n+vs E<=oc p+1/\j.length+ws E<=oc p/\(∀m∈j,rV m.2.1)/\∀e∈E,fB e.2.1/\dp e.2.1<U - 1:=⟨_,rfl⟩
   have hmu:0<U:=by
    cases E with
    |nil=>simp at hw
    |cons e E=>have:=(hE e (by simp)).2;lia
   refine⟨N,?_,?_⟩
   ·rw[hN,hW];rintro δ' S3 h;refine⟨U - 1,by omega,h⟩
   ·push_cast[bF,fP,dP];refine⟨zcT _,?_⟩;rw[zbj,show zcR (S++some (MO.lst (j.map vD))::T)=S.length+1+T.length by simp;lia];have Y:∀Q',(∀Pr,(∀(a:MO)(x:Option MO),Pr (S++some a::(T++[x])))->Q' (E.map eD) Pr (S++some (.lst (j.map vD))::(T++[some (.lst [])])))->i6 (S++some (.lst (j.map vD))::(T++[some (.lst [])])) Q' d:=λQ' h=>by
     obtain rfl|⟨k,rfl,hk⟩:=hd
     ·exact h _ λ_ _=>trivial
     ·have hkT:=(zad.mp hk).1;refine⟨_,by rw[u,zae hkT];exact hk,h _ λa x=>by rw[u,zae hkT];exact hk⟩
    refine Y _ λPr hPr=>?_;refine aW (λrest O S3=>∃(n:Nat)(j:List Mv)(R t:List Ed)(v:Option D),rest=R.map eD/\O=[some (tD p),some (.int n),some (.loc S.length),some d,some (.loc (S.length+1+T.length)),v]/\S3=S++some (.lst (j.map vD))::(T++[some (.lst (t.map eD))])/\Ry p n j R t/\jK p n (j.map eM++(R++t))/\n+vs R+vs t<=oc p+1/\j.length+ws R+ws t<=oc p/\(∀m∈j,rV m.2.1)/\(∀e∈R,fB e.2.1/\dp e.2.1<U)/\∀e∈t,fB e.2.1/\dp e.2.1<U - 1) ?_ ?_ _ _ _ ⟨n,j,E,[],v,rfl,rfl,rfl,hR,by rw[zbS];exact hB,by exact hv,by exact X,hlf,hE,by simp⟩
    ·intro O S3 z;let⟨n,j,R,t,v,I,rfl,rfl,g0,g1,g2,g3,g4,g5,g6⟩:=z;have:R=[]:=by simp_all
     subst this;refine⟨hPr _ _,?_⟩;push_cast[true_and];rw[hN];refine⟨n,j,t,_,_,_,_,rfl,rfl,  .inr ⟨T.length,rfl,by simp⟩,g0.turn,g1,by simpa[vs] using g2,by simpa[ws] using g3,g4,g6⟩
    ·intro x rest O S3 N' z hN';let⟨n,j,R,t,v,I,rfl,rfl,g0,g1,g2,g3,g4,g5,g6⟩:=z;cases R with
     |nil=>simp at I
     |cons r R=>
      injection I with e1 e2;subst e1;subst e2;let⟨G,ok2⟩:=g5 r (by simp);refine⟨hPr _ _,?_⟩;rw[show eD r=.tup [.int r.1,tD r.2.1,.int r.2.2] from rfl];push_cast[bf,K09.cS];have hwr:=jq r R;have hvr:=kE r R;cases L:xy r.2.1 with
      |true=>
       let⟨a,pr,b⟩:=r;cases pr with
       |lf l=>
        refine LG G ⟨_,rfl,?_⟩;push_cast[CL];refine⟨by simp only[aP,cS];rfl,S.length,_,_,rfl,rfl,cS _ _,?_,?_⟩
        ·rw[zbR,yaf];lia
        ·rw[Sw,show j.map vD++[D.tup [.int a,tD (.lf l),.int b]]=(j++[(a,l,b)]).map vD by rw[zbZ];rfl];refine hN' _ _ ⟨n,j++[(a,l,b)],R,t,_,rfl,rfl,rfl,Ry.go (s:=(n,j,(a,.lf l,b)::R,t)) g0 rfl,?_,?_,?_,?_,λe Z=>g5 e (zaz _ Z),g6⟩
         ·refine g1.Il λe=>?_;simp only[zbZ,zbQ,zcp,zcq,zcz,zbL];rw[show eM (a,l,b)=(a,.lf l,b) from rfl];lia
         ·lia
         ·simp only[oc] at hwr;rw[zaR];show j.length+1+_+_<=_;lia
         ·intro m hm;obtain h|h:=zbQ.mp hm
          ·exact g4 m h
          ·rw[zaU.mp h];exact G
       |_=>cases L
      |false=>
       refine LF L ⟨_,rfl,?_⟩;push_cast[CL,UZ];refine⟨by simp only[aP,u];simp;rfl,r.2.1,r.1,n,r.2.2,rfl,L,by lia,by lia,?_⟩;refine⟨_,t.map eD,_,_,rfl,rfl,by rw[u];simp,.inl rfl,?_,?_⟩
       ·have h1:=yJ t;have h2:=yJ (gX r.1 n r.2.2 r.2.1);have h3:=(Ii r.1 n r.2.2 r.2.1 L).1;rw[zbR,zbR,yaf];lia
       ·rw[VI,<-zbZ];refine⟨_,rfl,r.2.1,rfl,L,_,_,rfl,rfl,?_⟩;have c1:=Ii r.1 n r.2.2 r.2.1 L;refine hN' _ _ ⟨n+ns r.2.1,j,R,t++gX r.1 n r.2.2 r.2.1,_,rfl,by rfl,rfl,g0.cut L,?_,by rw[C9];lia,by rw[C8];lia,g4,λe Z=>g5 e (zaz _ Z),λe Z=>?_⟩
        ·have h1:jK p n ((r.1,r.2.1,r.2.2)::(j.map eM++(R++t))):=g1.Il λe=>by
          simp only[zbQ,zcp,zbH];exact or_left_comm
         refine(h1.step L).Il λe=>?_;grind
        ·obtain h|h:=zbQ.mp Z
         ·exact g6 e h
         ·have:=(Q7 r.1 n r.2.2 r.2.1 L G) e h;exact⟨this.1,by lia⟩
  ·have:E=[]:=by simp_all
   subst this;rw[zbS] at hB;push_cast[Rt];refine⟨sz rfl,S.length,_,_,rfl,cS _ _,?_⟩;rw[Sw];have es:([D.int n,D.loc S.length]:List D).map (sb S.length (.lst (j.map vD)))=[.int n,.lst (j.map vD)]:=by simp[sb]
   rw[es];refine KS ?_ (q n j hR hB (by simpa[vs] using hv) (by simpa[ws] using X) hlf);have:bQ (j.map vD)=true:=jx λm _=>by rw[<-R6];exact Ag _
   simp only[b8,bQ,this,zcx]
end
open PySem PySem.Spec L2 M M6 PyProof.Rows
noncomputable abbrev we:Stmt:=inClass (top 27) 0
noncomputable abbrev CZ:List Str:=["self"]
noncomputable abbrev jJ:=CZ
def OQ:aE CZ jJ (aj we):=L2.cy
noncomputable abbrev FZ:Stmt:=inClass (top 27) 1
noncomputable abbrev CP:List Str:=["self","name","marks"]
noncomputable abbrev lY:=CP
def OL:aE CP lY (aj FZ):=L2.cy
noncomputable abbrev FY:Stmt:=inClass (top 27) 3
noncomputable abbrev CO:List Str:=["self","one","word","other"]
noncomputable abbrev lX:=CO
def OJ:aE CO lX (aj FY):=L2.cy
noncomputable abbrev Pe:Stmt:=inClass (top 27) 8
noncomputable abbrev JA:List Str:=["self","knot"]
noncomputable abbrev nD:=JA
def Sy:aE JA nD (aj Pe):=L2.cy
noncomputable abbrev Pj:Stmt:=inClass (top 27) 9
noncomputable abbrev JE:List Str:=["self","one","word","other"]
noncomputable abbrev qZ:=JE
def SA:aE JE qZ (aj Pj):=L2.cy
noncomputable abbrev F4:Stmt:=inClass (top 27) 13
noncomputable abbrev CT:List Str:=["self","name"]
noncomputable abbrev jH:=CT
def OM:aE CT jH (aj F4):=L2.cy
noncomputable abbrev F5:Stmt:=inClass (top 27) 14
noncomputable abbrev CV:List Str:=["self","name","marks"]
noncomputable abbrev l6:=CV
def OO:aE CV l6 (aj F5):=L2.cy
noncomputable abbrev Bp:Stmt:=inClass (top 27) 15
noncomputable abbrev vF:List Str:=["self","one","word","other"]
noncomputable abbrev lZ:=vF
def ON:aE vF lZ (aj Bp):=L2.cy
abbrev MC(a b:Str):Prop:=a.cps.toList<b.cps.toList
def ud(a:Str):¬MC a a:=List.lt_irrefl _
def OD(h:¬MC d k)(g:¬MC k d):d=k:=by
 have e:=List.le_antisymm (List.not_lt.mp g) (List.not_lt.mp h);let⟨d⟩:=d;simp_all
def SU(l:List Str):Prop:=l.Pairwise MC
theorem Bu:∀(l:List Str)(p:Str),risingS p l=true->(p::l).Pairwise λa b=>¬MC b a
 |[],p,_=>List.pairwise_singleton ..
 |x::r,p,h=>by
  have h:(!ltCps x.cps.toList p.cps.toList&&risingS x r)=true:=h;rw[zbN] at h;have j:=Bu r x h.2;have m:¬MC x p:=by
   have:=h.1;rw[ltCps_eq] at this;lia
  refine zaX.mpr ⟨λy e=>?_,j⟩;obtain rfl|e:=zcp.mp e
  ·exact m
  ·have h2:=(zaX.mp j).1 y e;grind
def Di(h:sortedS d=true):d.Pairwise λa b=>¬MC b a:=by
 cases d with
 |nil=>exact .nil
 |cons x r=>exact Bu r x h
def MV(e:d.Nodup)(h:sortedS d=true):SU d:=by
 have h2:=e;refine((Di h).and h2).imp λ{a b} ⟨h1,h2⟩=>?_;by_cases c:MC a b
 ·exact c
 ·exact absurd (OD c h1) h2
theorem MW:∀{l m:List Str},SU l->SU m->(∀y,y∈l↔y∈m)->l=m
 |[],[],_,_,_=>rfl
 |[],y::m,_,_,h=>by have:=(h y).mpr (by simp);simp_all
 |x::l,[],_,_,h=>by have:=(h x).mp (by simp);simp_all
 |x::l,y::m,hl,hm,h=>by
  have h1:=zaX.mp hl;have h2:=zaX.mp hm;have e:x=y:=by
   grind
  subst e;rw[MW h1.2 h2.2 λz=>?_];grind
def Ka(a:k.Nodup)(h1:d.Perm k)(h2:g.Perm k)(s1:sortedS d=true)(e:sortedS g=true):d=g:=
 MW (MV (h1.nodup_iff.mpr a) s1) (MV (h2.nodup_iff.mpr a) e) λy=>h1.mem_iff.trans h2.mem_iff.symm
noncomputable abbrev T3(t:Str×Str×Str):D:=.tup [.str t.1,.str t.2.1,.str t.2.2]
def sH(t:Str×Str×Str):py (T3 t)=.tuple [.str t.1,.str t.2.1,.str t.2.2]:=by rfl
def wD(h:py (T3 d)=py (T3 g)):d=g:=by
 let⟨m,l,j⟩:=d;simp only[sH] at h;simp_all
noncomputable def BN(t:Str×Str×Str):Bool:=iu t.1&&iu t.2.1&&iu t.2.2
def good3{t:Str×Str×Str}(h:BN t=true):cO (T3 t):=by
 unfold BN at h;rw[zbN,zbN] at h;refine⟨by rfl,?_,?_,_,rfl⟩
 ·rw[sH];simp[bP,eF,PyData.canLay0,qc h.1.1,qc h.1.2,qc h.2]
 ·rw[sH];simp[PyData.depth,PyData.depthAll]
def Rf(a b:Str×Str×Str):cj (py (T3 a)) (py (T3 b))=true:=by
 rfl
def Fz(h:∀t∈ts,BN t=true):NU (ts.map T3):=
 ⟨λk a=>by let⟨t,e,rfl⟩:=zcD.mp a;exact good3 (h t e),λk a=>by let⟨t,_,rfl⟩:=zcD.mp a;refine⟨_,_,sH t⟩,λk a l i=>by let⟨t,_,rfl⟩:=zcD.mp a;let⟨u,_,rfl⟩:=zcD.mp i;rfl⟩
def Ue(ts:List (Str×Str×Str))(t:Str×Str×Str):HQ (ts.map T3) (T3 t)=decide (t∈ts):=by
 unfold HQ;rw[zcA];by_cases h:t∈ts
 ·rw[yDt h];exact zbE.mpr ⟨t,h,by simp⟩
 ·rw[yDf h];refine zbg.mpr λx a z=>h ?_;have:=of_decide_eq_true z;rw[<-wD this];exact a
def put3(h:d ∉ ts):putN (ts.map T3) (T3 d)=(ts++[d]).map T3:=by
 have:=Ue ts d;rw[yDf h] at this;unfold putN;unfold HQ at this;rw[this,zbZ];rfl
theorem AY:∀{l m:List (Str×Str×Str)},l.Nodup->Og (l.map T3)->Og (m.map T3)->m.Perm l->l=m
 |[],m,_,_,_,hp=>by simp_all
 |a::l,[],_,_,_,hp=>by simp_all
 |a::l,b::m,hn,hl,hm,hp=>by
  have s:∀{x y:Str×Str×Str},x≠y->gH (py (T3 y)) (py (T3 x))=false->gH (py (T3 x)) (py (T3 y))=true:=λ{x y} i h=>by
   obtain z|z:=zS _ _ (Rf x y) (λe=>i (wD e))
   ·exact z
   simp_all
  have h1:=zaX.mp (show((a::l).map T3).Pairwise _ from hl);have h2:=zaX.mp (show((b::m).map T3).Pairwise _ from hm);have e:a=b:=by
   grind
  subst e;rw[AY (zbT.mp hn).2 h1.2 h2.2 hp.cons_inv]
def Of(a:d.Perm (ts.map T3)):∃us:List (Str×Str×Str),us.Perm ts/\d=us.map T3:=gC a
abbrev Kn:=Str×List Str
abbrev Ti:=Str×Str×Str
noncomputable abbrev fl:List Str:=["marked","tied","near"]
noncomputable def cD(ks:List Kn):List Key:=ks.map λk=>.inr k.1
noncomputable def JT(ms:List Str):List (Key×D):=ms.map λm=>(.inr m,.bl true)
noncomputable def Hf(ms:List Str):D:=.dct (oj (JT ms)).1 (oj (JT ms)).2
structure cV(C:Addr)(W:yak)(b L:Nat)(S:aA)(n m t e:Nat)(ns:List Nat)(ks:List Kn)(ts:List Ti):Prop where
 at_:S[n]? =some (some (.ins C fl [.loc m,.loc t,.loc e]))
 yC:S[m]? =some (some (.dct (cD ks) (ks.map λk=>Hf k.2)))
 ti:S[t]? =some (some (nO W (ts.map T3)))
 ne:S[e]? =some (some (.dct (cD ks) (ns.map D.loc)))
 len:ns.length=ks.length
 me:m≠e
 tn:t ∉ ns
 near:∀i∈ns,∃js,S[i]? =some (some (nO W js))/\(∀j∈js,cO j)/\js.length<=L
 lo:b<=m/\b<=t/\b<=e/\∀i∈ns,b<=i
 EF:∀t∈ts,BN t=true
 RU:∀k∈ks,iu k.1=true/\∀m∈k.2,iu m=true
 kb:ks.length<64
 mb:∀k∈ks,k.2.length<64
def cN(C:Addr)(W:yak)(b:Nat)(S:aA)(n:Nat)(ks:List Kn)(ts:List Ti):Prop:=∃m t e ns,cV C W b (2*ts.length) S n m t e ns ks ts
noncomputable abbrev nms(ks:List Kn):List Str:=ks.map (·.1)
def cM(h:S[n]? =some d):n<S.length:=by
 grind
def aX(h:S[n]? =some d):(S.set n o')[n]? =some o':=by
 rw[zbk,yIp rfl,yIp (cM h)]
def je{X:aA}(h:S[n]? =some d):(S++X)[n]? =some d:=by
 rw[zae (cM h)];exact h
def CD:(S++[d])[S.length]? =some d:=by
 rw[zab (zcS _),zcL];rfl
def j4(a:k≠n)(h:S[k]? =some d):((S++[g]).set n q)[k]? =some d:=by
 rw[zaB (Ne.symm a)];exact je h
def oE(a:k≠n)(h:k<S.length):((S++[d]).set n g)[k]? =S[k]?:=by
 rw[zaB (Ne.symm a),zae h]
def uw(a:k≠n)(h:k=S.length):((S++[d]).set n g)[k]? =some d:=by
 rw[zaB (Ne.symm a),h];exact CD
def Ab(h:δ[i]? =some (some (.loc n)))(s:S[n]? =some (some (.ins C d ds)))(q:d.length<1000)(l:∀Q:AK,Q (.dat (.loc S.length)) (S++[some o])->w δ S Q)(m:putD r (.loc S.length) d ds=(g,k))(nx:z.nx δ ((S++[some o]).set n (some (.ins C g k)))):Nb C (cT i) w r z δ S:=by
 refine l _ ⟨_,h,n,d,ds,rfl,je s,q,?_⟩;show z.nx δ ((S++[some o]).set n (some (.ins C (putD r (.loc S.length) d ds).1 (putD r (.loc S.length) d ds).2)));rw[m];exact nx
section
variable {W:yak}{b L:Nat}{t e:Nat}{ns:List Nat}{ks:List Kn}{ts:List Ti}
def ju(h:S[d]? =some (some o)):aP S (.loc d)=o.d:=by simp only[aP,h]
def sS(X:cV C W b L S n m t e ns ks ts)(a:δ[i]? =some (some (.loc n)))(q:d (.dat (.loc m)) S):Ms C (cT i) "marked" δ S d:=⟨_,a,n,_,_,_,rfl,X.at_,rfl,q⟩
def Cb(X:cV C W b L S n m t e ns ks ts)(a:δ[i]? =some (some (.loc n)))(q:d (.dat (.loc t)) S):Ms C (cT i) "tied" δ S d:=⟨_,a,n,_,_,_,rfl,X.at_,rfl,q⟩
def Ny(X:cV C W b L S n m t e ns ks ts)(a:δ[i]? =some (some (.loc n)))(q:d (.dat (.loc e)) S):Ms C (cT i) "near" δ S d:=⟨_,a,n,_,_,_,rfl,X.at_,rfl,q⟩
def zZ(ks:List Kn)(x:Str):lK (cD ks) (.inr x)=decide (x∈nms ks):=by
 unfold lK cD;grind
def T9(X:cV C W b L S n m t e ns ks ts)(q:d (.dat (.bl (neg != decide (x∈nms ks)))) S):Az neg (.str x) (.loc m) S d:=by
 unfold Az;rw[ju X.yC];refine⟨.inr x,rfl,?_⟩;rw[zZ];exact q
theorem z9:∀{ks:List Kn}{ds:List D}{x:Str},ds.length=ks.length->x∈nms ks->∃(i:Nat)(d:D),gh (cD ks) ds (.inr x)=some d/\ds[i]? =some d/\∃k:Kn,ks[i]? =some k/\k.1=x
 |[],_,x,_,h=>by simp at h
 |k::ks,[],x,hl,_=>by simp at hl
 |k::ks,d::ds,x,hl,h=>by
  unfold gh cD;rw[zcq,zaT,zbV];by_cases e:k.1=x
  ·refine⟨0,d,?_,rfl,k,rfl,e⟩;simp_all
  ·have j:x∈nms ks:=by
    grind
   let⟨i,n,h1,h2,a,m,l⟩:=z9 (ds:=ds) (by simp_all) j;refine⟨i+1,n,?_,by simp_all,a,by simp_all,l⟩;rw[yDf (λz=>e (by injection z))];exact h1
def Gy(h:x ∉ nms ks):ja (cD ks) ds (.inr x) d=.dct (cD (ks++[(x,ms)])) (ds++[d]):=by
 have:=zZ ks x;rw[yDf h] at this;unfold lK at this;unfold ja;rw[this];unfold cD;rw[zbZ];rfl
end
section
variable {w:yak}
def cY(a:δ[i]? =some (some (.loc n)))(j:S[n]? =some (some (.ins C fl ds)))(e:d ∉ fl)(h:g δ S λes l=>sp (.loc n::es) l k):ye C d sp (cT i) g δ S k:=⟨_,a,n,_,_,rfl,j,e,h⟩
def yR(C:Addr)(W:yak):AN:=λh S Q=>∃n x b ks a,h=[.loc n,.str x]/\(∃L m t e ns,cV C W b L S n m t e ns ks a)/\x∈nms ks/\Q (.dat .bx) S
def QS(T:Txt K mg C fi)(F:qW K C "need_knot" "Web.need_knot" jH F4):fS P w K mg base 1 C "need_knot" jH (yR C w):=by
 refine lH F OM (λo S Q h=>?_) (λf u A outer s H E j=>?_)
 ·let⟨n,x,b,ks,a,rfl,_⟩:=h;rfl
 ·refine⟨_,(W9 (Xk (Xi (M.wM j) (W5 1) (XG (W5 0) T.cl T.n_marked) rfl) (W9 M.fF) Xl)),λo S Q h=>?_⟩;let⟨n,x,b,ks,a,rfl,⟨L,m,t,e,ns,X⟩,i,q⟩:=h;have l:aJ CT [.loc n,.str x]=[some (.loc n),some (.str x)]:=rfl;rw[l];push_cast[true_and];refine sS X rfl (T9 X ⟨_,rfl,?_⟩);rw[yDt i];exact q
def MZ(C:Addr)(W:yak):AN:=λh S Q=>∃n x b ks a,h=[.loc n,.str x.1,.str x.2.1,.str x.2.2]/\(∃L m t e ns,cV C W b L S n m t e ns ks a)/\BN x=true/\Q (.dat (.bl (decide (x∈a)))) S
def UC(T:Txt K mg C fi)(F:qW K C "has_tie" "Web.has_tie" qZ Pj):fS P w K mg base 1 C "has_tie" qZ (MZ C w):=by
 refine lH F SA (λo S Q h=>?_) (λf u A outer s H E j=>?_)
 ·let⟨n,x,b,ks,a,rfl,_⟩:=h;rfl
 ·refine⟨_,(W9 (Xj (Xx (M.TQ j) (Xg (W6 (W5 1) (W6 (W5 2) (W8 (W5 3))))) (XG (W5 0) T.cl T.n_tied) rfl))),λo S Q h=>?_⟩;let⟨n,x,b,ks,a,rfl,⟨L,m,t,e,ns,X⟩,i,q⟩:=h;have l:aJ JE [.loc n,.str x.1,.str x.2.1,.str x.2.2]=[some (.loc n),some (.str x.1),some (.str x.2.1),some (.str x.2.2)]:=rfl;rw[l];push_cast[true_and];refine⟨ySz 3,Cb X rfl ⟨t,_,rfl,X.ti,good3 i,(Fz X.EF).good,?_⟩⟩;rw[Ue,show(false != decide (x∈a))=decide (x∈a) by simp];exact q
def Fp(C:Addr)(W:yak):AN:=λe S Q=>∃n,e=[.loc n]/\S.length=n+1/\S[n]? =some (some (.ins C [] []))/\∀a,cN C W n a n [] []->(∀k,k<n->a[k]? =S[k]?)->n<=a.length->Q (.dat .bx) a
def QZ(T:Txt K mg C fi)(F:JK K "__init__" "Web.__init__" we f fd):eV P w K mg base oZ 1 f fd jJ (av K (Fp C w)):=by
 refine WV F OQ (λI S Q h=>?_) (λf L A outer s H E U=>?_)
 ·let⟨n,rfl,_⟩:=h;rfl
 ·refine⟨_,(W7 (M.pY (W5 0) (Xu M.fG) T.cl T.n_marked) (W7 (M.pY (W5 0) (Xu M.kY) T.cl T.n_tied) (W9 (M.pY (W5 0) (Xu M.fG) T.cl T.n_near)))),λI S Q h=>?_⟩;let⟨n,rfl,u,t,q⟩:=h;have y:∀a c,putD "tied" c ["marked"] [a]=((["marked","tied"]:List Str),[a,c]):=λa c=>by
   rfl
  have p3:∀a c d,putD "near" d ["marked","tied"] [a,c]=((["marked","tied","near"]:List Str),[a,c,d]):=λa c d=>by
   rfl
  refine Ab rfl t (by decide) (λ_ q=>q) rfl ?_;generalize j:(S++[some (MO.dct [] [])]).set n _=S1;have m:S1.length=n+2:=by rw[<-j];simp;omega
  have x:S1[n]? =some (some (.ins C ["marked"] [.loc S.length])):=by rw[<-j];exact aX (je t)
  simp only[gE];refine Ab (o:=nO w []) rfl x (by decide) (λ_ q=>q) (y _ _) ?_;generalize i:(S1++[some (nO w [])]).set n _=S2;have l:S2.length=n+3:=by rw[<-i];simp;omega
  have v:S2[n]? =some (some (.ins C ["marked","tied"] [.loc S.length,.loc S1.length])):=by rw[<-i];exact aX (je x)
  try simp only[gE]
  refine Ab rfl v (by decide) (λ_ q=>q) (p3 _ _ _) ?_;generalize e:(S2++[some (MO.dct [] [])]).set n _=S3;have O:S3.length=n+4:=by rw[<-e];simp;omega
  refine q S3 ⟨n+1,n+2,n+3,[],⟨?_,?_,?_,?_,rfl,by lia,by simp,by simp,⟨by lia,by lia,by lia,by simp⟩,by simp,by simp,by decide,by simp⟩⟩ (λk W=>?_) (by lia)
  ·rw[<-e];have:=aX (o':=some (.ins C ["marked","tied","near"] [.loc S.length,.loc S1.length,.loc S2.length])) (je (X:=[some (.dct [] [])]) v);rw[this,u,m,l]
  ·rw[<-e];refine j4 (by lia) ?_;rw[<-i];refine j4 (by lia) ?_;rw[<-j];exact uw (by lia) u.symm
  ·rw[<-e];refine j4 (by lia) ?_;rw[<-i];exact uw (by lia) m.symm
  ·rw[<-e];exact uw (by lia) l.symm
  ·rw[<-e,oE (by lia) (by lia),<-i,oE (by lia) (by lia),<-j,oE (by lia) (by lia)]
def Fj(C:Addr)(W:yak):AN:=λh S Q=>∃n x ms b ks e,h=[.loc n,.str x,.lst (ms.map D.str)]/\cN C W b S n ks e/\x ∉ nms ks/\ks.length<63/\ms.length<64/\iu x=true/\(∀m∈ms,iu m=true)/\
 ∀a,cN C W b a n (ks++[(x,ms)]) e->(∀k,k<b->a[k]? =S[k]?)->S.length<=a.length->Q (.dat .bx) a
def iU{a c:Nat}(h1:S[a]? =some (some o))(h2:S[c]? =some (some d))(h:o≠d):a≠c:=λz=>by
 simp_all
def cV.dist(X:cV d W g L S n m k q r F J):n≠m/\n≠k/\n≠q/\m≠k/\q≠k/\n ∉ r/\m ∉ r/\q ∉ r:=by
 refine⟨iU X.at_ X.yC (by simp),iU X.at_ X.ti (by intro z;simp[nO] at z),iU X.at_ X.ne (by simp),iU X.yC X.ti (by intro z;simp[nO] at z),iU X.ne X.ti (by intro z;simp[nO] at z),λh=>?_,λh=>?_,λh=>?_⟩
 ·let⟨a,h1,_⟩:=X.near _ h;exact iU X.at_ h1 (by intro z;simp[nO] at z) rfl
 ·let⟨a,h1,_⟩:=X.near _ h;exact iU X.yC h1 (by intro z;simp[nO] at z) rfl
 ·let⟨a,h1,_⟩:=X.near _ h;exact iU X.ne h1 (by intro z;simp[nO] at z) rfl
def uN(h:d δ S λl j=>g δ j λe i=>∃n ks,l.d=.loc n/\i[n]? =some (some (nO W ks))/\cO e.d/\(∀k∈ks,cO k)/\ks.length<1000/\q.nx δ (i.set n (some (nO W (putN ks e.d))))):
  IV W d g (aC (.bl true)) q δ S:=by
 refine cast (congrArg (λz=>d δ S z) ?_) h;funext l j;refine congrArg (λz=>g δ j z) ?_;funext e i;refine propext ⟨?_,?_⟩
 ·rintro⟨n,ks,h1,h2⟩;refine⟨n,ks,rfl,h1,h2⟩
 ·rintro⟨n,ks,_,h1,h2⟩;refine⟨n,ks,h1,h2⟩
def qI(h:g δ S λj l=>q δ l λi e=>∃ks ds k d,aP e j.d=.dct ks ds/\keyOf i.d=some k/\gh ks ds k=some d/\r (.dat d) e):kB g q δ S r:=h
def Hg(h:g∈putN d k):g∈d∨g=k:=by
 unfold putN at h;grind
def Hx(ks:List D)(k:D):(putN ks k).length<=ks.length+1:=by
 unfold putN;split
 ·lia
 simp
def cV.wQ{ts:List Ti}{l:List D}(X:cV d W g L S n m r J T Z ts)(v:i∈T)(u:S[i]? =some (some (nO W l)))(y:∀j∈l,cO j)(H:l.length<=L)(x:cO k):
  cV d W g (L+1) (S.set i (some (nO W (putN l k)))) n m r J T Z ts:=by
 let⟨Y,U,Q,P,O,G,F,E⟩:=X.dist;have ne:∀{a:Nat},a ∉ T->i≠a:=λh z=>h (z▸v);refine⟨by rw[zaB (ne G)];exact X.at_,by rw[zaB (ne F)];exact X.yC,by rw[zaB (ne X.tn)];exact X.ti,by rw[zaB (ne E)];exact X.ne,X.len,X.me,X.tn,λs q=>?_,X.lo,X.EF,X.RU,X.kb,X.mb⟩;by_cases z:i=s
 ·subst z;refine⟨putN l k,aX u,λj h=>?_,zcF (Hx l k) (by lia)⟩;obtain h|h:=Hg h
  ·exact y j h
  ·rw[h];exact x
 ·let⟨o,h1,h2,I⟩:=X.near s q;refine⟨o,by simp_all,h2,by lia⟩
def cV.mono(X:cV d W g L S n m q r z F J)(h:L<=k):cV d W g k S n m q r z F J:=
 ⟨X.at_,X.yC,X.ti,X.ne,X.len,X.me,X.tn,λi l=>by let⟨j,h1,h2,o⟩:=X.near i l;refine⟨j,h1,h2,by lia⟩,X.lo,X.EF,X.RU,X.kb,X.mb⟩
theorem cV.wR(X:cV k W q L S n m r F J O T)(o:x∈nms O):
  ∃i h,gh (cD O) (J.map D.loc) (.inr x)=some (.loc i)/\i∈J/\S[i]? =some (some (nO W h))/\(∀j∈h,cO j)/\h.length<=L:=by
 let⟨i,d,h1,h2,_⟩:=z9 (ds:=J.map D.loc) (by rw[zbR];exact X.len) o;rw[zbh] at h2;cases z:J[i]? with
 |none=>rw[z] at h2;cases h2
 |some a=>
  have:D.loc a=d:=by simp_all
  subst this;have l:=zaC z;let⟨h,g⟩:=X.near a l;refine⟨a,h,h1,l,g⟩
def QV(T:Txt K mg C fi)(F:qW K C "lay_knot" "Web.lay_knot" l6 F5):fS P w K mg base 1 C "lay_knot" l6 (Fj C w):=by
 refine lH F OO (λds S Q h=>?_) (λf cdv A outer s H E u=>?_)
 ·let⟨n,x,ms,b,ks,O,rfl,_⟩:=h;rfl
 ·refine⟨_,(W7 (Yc (bV u) (XG (W5 0) T.cl T.n_marked) (W5 1) (XI (M.uM u) T.dict (W6 (XE ["mark"] [none] (Xr (W5 2)) (λ_ _ _ _=>XF) (λ_ _ _ _=>(Xg (W6 (W5 0) (W8 XH))))) Xa)) rfl) (W9 (Yc (bV u) (XG (W5 0) T.cl T.n_near) (W5 1) (Xu M.kY) rfl))),λds S Q h=>?_⟩;let⟨n,x,ms,b,ks,O,rfl,⟨m,t,e,ns,X⟩,I,hkl,v,W,o,q⟩:=h;let⟨L,d2,d3,d4,d5,d6,d7,d8⟩:=X.dist;refine⟨_,rfl,?_⟩;refine comp_map (λd=>.tup [d,.bl true]) trivial (ms.map D.str) [] _ rfl (λy hy Q' U=>⟨_,rfl,ySz 2,U⟩) (by rw[yaf];simp;lia) ?_;refine⟨_,JT ms,rfl,?_,by unfold JT;rw[zbR];lia,?_⟩
  ·rw[zcC];unfold JT;rw[zcC];rfl
  refine sS X rfl ⟨_,rfl,m,_,_,.inr x,rfl,rfl,X.yC,by rw[zbR];lia,?_⟩;rw[Gy I];generalize G:S.set m _=S1;have Y:S1.length=S.length:=by rw[<-G,zcb]
  have l:∀k,k≠m->S1[k]? =S[k]?:=λk a=>by rw[<-G,zaB (Ne.symm a)]
  have m1:S1[m]? =some (some (.dct (cD (ks++[(x,ms)])) ((ks.map λk=>Hf k.2)++[Hf ms]))):=by rw[<-G];exact aX X.yC
  have bS:b<=S.length:=by have:=cM X.yC;have:=X.lo.1;lia
  refine⟨_,rfl,n,_,_,_,rfl,je (by rw[l n L];exact X.at_),rfl,_,rfl,e,_,_,.inr x,rfl,rfl,je (by rw[l e (Ne.symm X.me)];exact X.ne),by rw[zbR,X.len];lia,?_⟩;rw[Gy I];have el:=cM X.ne;have tl:=cM X.ti;refine q _ ⟨m,t,e,ns++[S1.length],⟨?_,?_,?_,?_,by rw[zaR,zaR,X.len];rfl,X.me,?_,?_,⟨X.lo.1,X.lo.2.1,X.lo.2.2.1,?_⟩,X.EF,?_,by simp;lia,λk a=>?_⟩⟩ (λk a=>?_) ?_
  ·exact j4 d3 (by rw[l n L];exact X.at_)
  ·refine j4 X.me ?_;rw[m1,zbZ];rfl
  ·exact j4 (Ne.symm d5) (by rw[l t (Ne.symm d4)];exact X.ti)
  ·rw[zbZ];exact aX (je (by rw[l e (Ne.symm X.me)];exact X.ne))
  ·intro h;obtain h|h:=zbQ.mp h
   ·exact X.tn h
   simp_all
  ·intro i j;obtain j|j:=zbQ.mp j
   ·let⟨Z,g1,g2,g3⟩:=X.near i j;refine⟨Z,j4 (λz=>d8 (z▸j)) (by rw[l i (λz=>d7 (z▸j))];exact g1),g2,g3⟩
   ·have:=by simpa using j
    subst this;refine⟨[],uw (by lia) rfl,by simp,by simp⟩
  ·intro i j;obtain j|j:=zbQ.mp j
   ·exact X.lo.2.2.2 i j
   simp_all
  ·intro k a;obtain a|a:=zbQ.mp a
   ·exact X.RU k a
   simp_all
  ·obtain a|a:=zbQ.mp a
   ·exact X.mb k a
   simp_all
  ·have:=X.lo;rw[oE (by lia) (by lia),l k (by lia)]
  ·rw[zcb,zaR];lia
def Fi(C:Addr)(W:yak):AN:=λh S Q=>∃n x b ks a,h=[.loc n,.str x.1,.str x.2.1,.str x.2.2]/\cN C W b S n ks a/\x.1∈nms ks/\x.2.2∈nms ks/\x ∉ a/\a.length<=300/\BN x=true/\
 ∀e,cN C W b e n ks (a++[x])->(∀k,k<b->e[k]? =S[k]?)->e.length=S.length->Q (.dat .bx) e
def QU(T:Txt K mg C fi)(F:qW K C "lay_tie" "Web.lay_tie" lZ Bp):fS P w K mg base 1 C "lay_tie" lZ (Fi C w):=by
 refine lH F ON (λds S Q h=>?_) (λf cdv A outer s H E u=>?_)
 ·let⟨n,x,b,ks,G,rfl,_⟩:=h;rfl
 ·refine⟨_,(W7 (M.kT u (XG (W5 0) T.cl T.n_tied) (Xg (W6 (W5 1) (W6 (W5 2) (W8 (W5 3))))) XH rfl) (W7 (M.kT u (XM (bV u) (XG (W5 0) T.cl T.n_near) (W5 1) (λ_ _=>rfl)) (Xg (W6 Xe (W6 (W5 2) (W8 (W5 3))))) XH rfl) (W9 (M.kT u (XM (bV u) (XG (W5 0) T.cl T.n_near) (W5 3) (λ_ _=>rfl)) (Xg (W6 Xe (W6 (W5 2) (W8 (W5 1))))) XH rfl)))),λds S Q h=>?_⟩;let⟨n,x,b,ks,G,rfl,⟨m,t,e,ns,X⟩,hx1,hx2,hx,hkl,W,q⟩:=h;let⟨d1,d2,d3,d4,d5,d6,d7,d8⟩:=X.dist;have hw:(nv oZ P w K mg base vF "Web.lay_tie" (aj Bp) f cdv A outer s H E).w=w:=rfl;have a:=W;unfold BN at a;rw[zbN,zbN] at a;refine uN (Cb X rfl ?_);refine⟨_,rfl,_,rfl,_,rfl,ySz 3,t,G.map T3,rfl,X.ti,good3 W,(Fz X.EF).good,by rw[zbR];lia,?_⟩;rw[hw,show(R.dat (D.tup [(R.dat (D.str x.1)).d,(R.dat (D.str x.2.1)).d,(R.dat (D.str x.2.2)).d])).d=T3 x from rfl,put3 hx];generalize e1:S.set t _=S1;have j:∀k,k≠t->S1[k]? =S[k]?:=λk I=>by rw[<-e1,zaB (Ne.symm I)]
  have U:cV C w b (2*G.length) S1 n m t e ns ks (G++[x]):=by
   refine⟨by rw[j n d2];exact X.at_,by rw[j m d4];exact X.yC,by rw[<-e1];exact aX X.ti,by rw[j e d5];exact X.ne,X.len,X.me,X.tn,λi hi=>?_,X.lo,λy o=>?_,X.RU,X.kb,X.mb⟩
   ·let⟨Y,g1,O,L⟩:=X.near i hi;refine⟨Y,by rw[j i (λz=>X.tn (z▸hi))];exact g1,O,L⟩
   ·obtain o|o:=zbQ.mp o
    ·exact X.EF y o
    simp_all
  let⟨i,Y,g1,O,L,g4,g5⟩:=U.wR hx1;refine uN (qI (Ny U rfl ?_));refine⟨_,rfl,_,_,_,_,ju U.ne,rfl,g1,⟨_,rfl,_,rfl,ySz 3,i,Y,rfl,L,good3 (t:=("on",x.2.1,x.2.2)) ?_,g4,by lia,?_⟩⟩
  ·unfold BN;rw[zbN,zbN];exact⟨⟨show iu "on"=true by rfl,a.1.2⟩,a.2⟩
  have v:=U.wQ (k:=T3 ("on",x.2.1,x.2.2)) O L g4 g5 (good3 (by unfold BN;rw[zbN,zbN];exact⟨⟨show iu "on"=true by rfl,a.1.2⟩,a.2⟩));rw[show(R.dat (D.tup [(R.dat (D.str "on")).d,(R.dat (D.str x.2.1)).d,(R.dat (D.str x.2.2)).d])).d=T3 ("on",x.2.1,x.2.2) from rfl];generalize e2:S1.set i _=S2 at v;have o2:∀k,k≠i->S2[k]? =S1[k]?:=λk I=>by rw[<-e2,zaB (Ne.symm I)]
  let⟨Z,l,k1,k2,k3,k4,k5⟩:=v.wR hx2;have gb:BN ("back",x.2.1,x.1)=true:=by unfold BN;rw[zbN,zbN];exact⟨⟨show iu "back"=true by rfl,a.1.2⟩,a.1.1⟩
  refine uN (qI (Ny v rfl ?_));refine⟨_,rfl,_,_,_,_,ju v.ne,rfl,k1,⟨_,rfl,_,rfl,ySz 3,Z,l,rfl,k3,good3 gb,k4,by lia,?_⟩⟩;have X3:=v.wQ k2 k3 k4 k5 (good3 gb);refine q _ ⟨m,t,e,ns,X3.mono (by simp;lia)⟩ (λk I=>?_) ?_
  ·have:=X.lo;have b1:=X.lo.2.2.2 i O;have b2:=X.lo.2.2.2 Z k2;rw[zaB (by lia),o2 k (by lia),j k (by lia)]
  ·rw[zcb,<-e2,zcb,<-e1,zcb]
def yQ(C:Addr)(W:yak):AN:=λh S Q=>∃n x ms b ks e,h=[.loc n,.str x,.lst (ms.map D.str)]/\cN C W b S n ks e/\x ∉ nms ks/\ks.length<40/\ms.length<64/\iu x=true/\(∀m∈ms,iu m=true)/\
 ∀a,cN C W b a n (ks++[(x,ms)]) e->(∀k,k<b->a[k]? =S[k]?)->S.length<=a.length->Q (.dat .bx) a
def QM(T:Txt K mg C fi)(F:qW K C "put_knot" "Web.put_knot" lY FZ)(a:fS P w K mg base 1 C "lay_knot" l6 (Fj C w)):fS P w K mg base 2 C "put_knot" lY (yQ C w):=by
 refine lH F OL (λI S Q h=>?_) (λf L A outer s H E u=>?_)
 ·let⟨n,x,ms,b,ks,l,rfl,_⟩:=h;rfl
 ·refine⟨_,(W7 (Xk (Xi (M.TR u) (W5 1) (XG (W5 0) T.cl T.n_marked) rfl) (W9 M.fF) Xl) (W7 (Xk (Xi M.TU (Xo Xz T.len (W6 (XG (W5 0) T.cl T.n_marked) Xa)) T.rF (aF _)) (W9 M.fF) Xl) (W9 (Xv (XO (W5 0) T.cl a (u.mono (by decide)) (W6 (W5 1) (W8 (W5 2)))))))),λI S Q h=>?_⟩;let⟨n,x,ms,b,ks,l,rfl,⟨m,t,e,ns,X⟩,o,y,j,v,i,q⟩:=h;have G:aJ CP [.loc n,.str x,.lst (ms.map D.str)]=[some (.loc n),some (.str x),some (.lst (ms.map D.str))]:=rfl;rw[G];push_cast[true_and];refine sS X rfl (T9 X ⟨_,rfl,?_⟩);rw[yDf o,yIn (by decide)];refine sS X rfl ⟨ks.length,?_,?_⟩
  ·rw[pV,ju X.yC];show some (cD ks).length=_;unfold cD;rw[zbR]
  rw[yDf (by lia)];exact cY rfl X.at_ (by decide+kernel) ⟨_,rfl,_,rfl,n,x,ms,b,ks,l,rfl,⟨m,t,e,ns,X⟩,o,by lia,j,v,i,q⟩
def Ff(C:Addr)(W:yak):AN:=λh S Q=>∃n x b ks a,h=[.loc n,.str x.1,.str x.2.1,.str x.2.2]/\cN C W b S n ks a/\x.1∈nms ks/\x.2.2∈nms ks/\x ∉ a/\a.length<300/\BN x=true/\
 ∀e,cN C W b e n ks (a++[x])->(∀k,k<b->e[k]? =S[k]?)->e.length=S.length->Q (.dat .bx) e
def QL(T:Txt K mg C fi)(F:qW K C "put_tie" "Web.put_tie" lX FY)(a:fS P w K mg base 1 C "need_knot" jH (yR C w))(j:fS P w K mg base 1 C "has_tie" qZ (MZ C w))(i:fS P w K mg base 1 C "lay_tie" lZ (Fi C w)):fS P w K mg base 2 C "put_tie" lX (Ff C w):=by
 refine lH F OJ (λO S Q h=>?_) (λf U A outer s H E v=>?_)
 ·let⟨n,x,b,ks,l,rfl,_⟩:=h;rfl
 ·refine⟨_,(W7 (Xv (XO (W5 0) T.cl a (v.mono (by decide)) (W8 (W5 1)))) (W7 (Xv (XO (W5 0) T.cl a (v.mono (by decide)) (W8 (W5 3)))) (W7 (Xk (XU (XO (W5 0) T.cl j (v.mono (by decide)) (W6 (W5 1) (W6 (W5 2) (W8 (W5 3)))))) (W9 M.fF) Xl) (W7 (Xk (Xi M.TU (Xo M.Qc T.len (W6 (XG (W5 0) T.cl T.n_tied) Xa)) T.uJ (aF _)) (W9 M.fF) Xl) (W9 (Xv (XO (W5 0) T.cl i (v.mono (by decide)) (W6 (W5 1) (W6 (W5 2) (W8 (W5 3))))))))))),λO S Q h=>?_⟩;let⟨n,x,b,ks,l,rfl,⟨m,t,e,ns,X⟩,u,o,G,I,y,q⟩:=h;push_cast[true_and];refine cY rfl X.at_ (by decide+kernel) ⟨_,rfl,n,x.1,b,ks,l,rfl,⟨_,m,t,e,ns,X⟩,u,?_⟩;refine cY rfl X.at_ (by decide+kernel) ⟨_,rfl,n,x.2.2,b,ks,l,rfl,⟨_,m,t,e,ns,X⟩,o,?_⟩;refine cY rfl X.at_ (by decide+kernel) ⟨_,rfl,_,rfl,_,rfl,n,x,b,ks,l,rfl,⟨_,m,t,e,ns,X⟩,y,?_⟩;refine⟨false,by rw[yDf G];rfl,?_⟩;rw[yIn (by decide)];refine Cb X rfl ⟨t,l.map T3,rfl,X.ti,by rw[zbR];lia,?_⟩;refine⟨_,_,rfl,rfl,trivial,_,rfl,?_⟩;rw[zbR,yDf (by lia)];exact cY rfl X.at_ (by decide+kernel) ⟨_,rfl,_,rfl,_,rfl,n,x,b,ks,l,rfl,⟨m,t,e,ns,X⟩,u,o,G,by lia,y,q⟩
noncomputable def rB(l:List Str):List Str:=open Classical in if h:∃s:List Str,s.Perm l/\sortedS s=true then h.choose else []
def Fb(i:d.Nodup)(e:g.Perm d)(a:sortedS g=true):g=rB d:=by
 have h:∃g:List Str,g.Perm d/\sortedS g=true:=⟨g,e,a⟩
 unfold rB;rw[dif_pos h];exact Ka i e h.choose_spec.1 a h.choose_spec.2
noncomputable def yP(l:List Ti):List Ti:=open Classical in if h:∃s:List Ti,s.Perm l/\Og (s.map T3) then h.choose else []
def Kc(i:d.Nodup)(a:g.Perm d)(e:Og (g.map T3)):g=yP d:=by
 have h:∃g:List Ti,g.Perm d/\Og (g.map T3):=⟨g,a,e⟩
 unfold yP;rw[dif_pos h];exact AY (a.nodup_iff.mpr i) e h.choose_spec.2 (h.choose_spec.1.trans a.symm)
noncomputable def mk1(a:List Str)(m:Str):List Str:=if m∈a then a else a++[m]
noncomputable def rH(ms:List Str):List Str:=ms.foldl mk1 []
def Ih(a:List Str)(m:Str):lK (a.map Sum.inr) (.inr m)=decide (m∈a):=by
 unfold lK;grind
theorem qi:∀(ms a:List Str)(ds:List D),∃es,(JT ms).foldl yE (a.map Sum.inr,ds)=((ms.foldl mk1 a).map Sum.inr,es)
 |[],a,ds=>⟨ds,rfl⟩
 |m::ms,a,ds=>by
  show∃es,(JT ms).foldl yE (yE (a.map Sum.inr,ds) (.inr m,.bl true))=_;rw[zbX];unfold yE mk1;rw[Ih];by_cases h:m∈a
  ·rw[yDt h,yIp h];exact qi ms a _
  ·rw[yDf h,yIn h];have:=qi ms (a++[m]) (ds++[.bl true]);rw[zbZ] at this;exact this
def Qj(ms:List Str):∃es,Hf ms=.dct ((rH ms).map Sum.inr) es:=by
 let⟨es,h⟩:=qi ms [] [];unfold Hf oj rH;simp_all
theorem uP:∀(ms a:List Str),a.Nodup->(ms.foldl mk1 a).Nodup/\∀y∈ms.foldl mk1 a,y∈a∨y∈ms
 |[],a,h=>⟨h,λy i=>.inl i⟩
 |m::ms,a,h=>by
  by_cases j:m∈a
  ·have e:mk1 a m=a:=yIp j;let⟨h1,h2⟩:=uP ms a h;grind
  ·have e:mk1 a m=a++[m]:=yIn j;let⟨h1,h2⟩:=uP ms (a++[m]) (zbl.mpr ⟨h,by simp,λx l y i z=>by
    simp_all⟩)
   grind
def jD(ms:List Str):(rH ms).Nodup:=(uP ms [] .nil).1
def k8(h:y∈rH ms):y∈ms:=((uP ms [] .nil).2 y h).resolve_left (by simp)
theorem zI{k j:Kn}:∀{ks:List Kn},(nms ks).Nodup->k∈ks->j∈ks->k.1=j.1->k=j
 |[],_,h,_,_=>by simp at h
 |a::ks,i,h,h',e=>by
  have i:(a.1::nms ks).Nodup:=i;rw[zbT] at i;obtain z|g:=zcp.mp h
  ·simp_all
  ·obtain l|m:=zcp.mp h'
   ·grind
   ·exact zI i.2 g m e
noncomputable def aL(ks:List Kn)(x:Str):List Str:=((ks.find? λk=>decide (k.1=x)).map (·.2)).getD []
theorem dg:∀{ks:List Kn},d∈nms ks->(d,aL ks d)∈ks
 |[],h=>by simp at h
 |k::ks,h=>by
  unfold aL;rw[zbV];by_cases e:k.1=d
  ·rw[yDt e];subst e;exact zaP ..
  ·rw[yDf e];obtain z|z:=zcp.mp (show d∈k.1::nms ks from h)
   ·simp_all
   ·exact zaz _ (dg z)
noncomputable def S9(ks:List Kn)(x:Str):D:=.tup [.str x,.tup ((rB (rH (aL ks x))).map D.str)]
noncomputable def sr(ks:List Kn)(ts:List Ti):D:=.tup [.tup ((rB (nms ks)).map (S9 ks)),.tup ((yP ts).map T3)]
def Fe(C:Addr)(W:yak):AN:=λh S Q=>∃n b ks a k,h=[.loc n,.str k.1]/\(∃L m t e ns,cV C W b L S n m t e ns ks a)/\(nms ks).Nodup/\k∈ks/\((rB (rH k.2)).Perm (rH k.2)->Q (.new (.lst ((rB (rH k.2)).map D.str))) S)
def Uy(T:Txt K mg C fi)(F:qW K C "marks" "Web.marks" nD Pe)(a:fS P w K mg base 1 C "need_knot" jH (yR C w)):fS P w K mg base 2 C "marks" nD (Fe C w):=by
 refine lH F Sy (λds S Q h=>?_) (λf cdv A outer s H E o=>?_)
 ·let⟨n,b,ks,v,k,rfl,_⟩:=h;rfl
 ·refine⟨_,(W7 (Xv (XO (W5 0) T.cl a (o.mono (by decide)) (W8 (W5 1)))) (W9 (Xj (Xo (X9 o) T.sorted (W6 (XM (bV o) (XG (W5 0) T.cl T.n_marked) (W5 1) (λ_ _=>rfl)) Xa))))),λds S Q h=>?_⟩;let⟨n,b,ks,v,k,rfl,⟨L,m,t,e,ns,X⟩,U,u,q⟩:=h;push_cast[true_and];have l:k.1∈nms ks:=zcD.mpr ⟨k,u,rfl⟩;refine cY rfl X.at_ (by decide+kernel) ⟨_,rfl,n,k.1,b,ks,v,rfl,⟨_,m,t,e,ns,X⟩,l,?_⟩;let⟨i,d,h1,h2,j,G,W⟩:=z9 (ds:=ks.map λk=>Hf k.2) (by rw[zbR]) l;have ek:=zI U (zaC G) u W;subst ek;have ed:d=Hf j.2:=by
   simp_all
  subst ed;let⟨Y,Z⟩:=Qj j.2;refine qI (sS X rfl ⟨_,rfl,_,_,_,_,ju X.yC,rfl,h1,⟨_,Y,rH j.2,rfl,?_,Nat.lt_of_le_of_lt (L2.jC (jD _) λy I=>k8 I) (X.mb j u),λss x O=>?_⟩⟩)
  ·rw[Z];rfl
  ·have e:=Fb (jD _) x O;subst e;exact q x
end
open PySem L2 M M6
theorem zV:∀l:Lf,b8 (lD l)=true
 |.stay=>rfl
 |.step _ _=>rfl
 |.mk _ _=>rfl
def MH(h:d.length<=100):gn 1 (.lst (nL d))=true/\gn 1 (.tup (nL d))=true:=by
 have:(nL d).all (gn 0)=true:=by
  rw[zbC];intro x a;let⟨k,_,rfl⟩:=zcD.mp a;rfl
 simp only[gn,this];rw[nL];simp_all
theorem zX{k:Nat}:∀ns:List Nat,inD (.int (k:Int)) (nL ns)=decide (k∈ns)
 |[]=>rfl
 |n::ns=>by
  have a:=zX (k:=k) ns;unfold inD nL at a⊢;have e:PyData.eqv (py (.int n)) (py (.int k))=decide (k=n):=by
   simp only[py,PyData.eqv];lia
  simp_all
def HK{Q:AK}(e:aP S d=.lst (nL g)∨aP S d=.tup (nL g))(a:g.length<=100)(q:Q (.dat (.bl (neg != decide (k∈g)))) S):qV neg (.int (k:Int)) d S Q:=by
 unfold qV;obtain e|e:=e<;>rw[e]
 ·refine⟨eT (n:=0) rfl (by decide),eT (MH a).1 (by decide),by rw[show aP S (.int k)=.int k from rfl,zX];exact q⟩
 ·refine⟨eT (n:=0) rfl (by decide),eT (MH a).2 (by decide),by rw[show aP S (.int k)=.int k from rfl,zX];exact q⟩
noncomputable abbrev yu:List Str:=["leaf","marks"]
noncomputable abbrev jm:=yu
def Kw:aE yu jm (aj (top 4)):=L2.cy
noncomputable abbrev yl:List Str:=["leaf","side","word"]
noncomputable abbrev jh:=yl
def Ku:aE yl jh (aj (top 5)):=L2.cy
noncomputable abbrev NY:List Str:=["many","moves","near","one","leaf","other"]
noncomputable abbrev yi:=NY.take 2
def FQ:aE NY yi (aj (top 13)):=L2.cy
noncomputable abbrev C0:List Str:=["near","stands","marks","found","waiting","stand","leaf","other"]
noncomputable abbrev l8:=C0.take 3
def mV:aE C0 l8 (aj (top 14)):=L2.cy
noncomputable abbrev C1:List Str:=["near","stands","side","word","found","stand","leaf","other"]
noncomputable abbrev mj:=C1.take 4
def pM:aE C1 mj (aj (top 15)):=L2.cy
noncomputable def qD(ks:List Nat):List Key:=ks.map λk:Nat=>Sum.inl (k:Int)
noncomputable def qC(ks:List Nat):List D:=ks.map λ_=>D.bl true
noncomputable def fO(ks:List Nat):MO:=.dct (qD ks) (qC ks)
def Uq(ks:List Nat):(fO ks).d=.dct (qD ks) (qC ks):=rfl
noncomputable def ins(ks:List Nat)(k:Nat):List Nat:=if k∈ks then ks else ks++[k]
def uQ:g∈ins d k↔g∈d∨g=k:=by
 unfold ins;grind
def ng(h:d.Nodup):(ins d k).Nodup:=by
 unfold ins;grind
def B4{k:Nat}:lK (qD d) (.inl (k:Int))=decide (k∈d):=by
 unfold lK qD;grind
def Ig(ks:List Nat)(k:Nat):yE (qD ks,qC ks) (.inl (k:Int),.bl true)=(qD (ins ks k),qC (ins ks k)):=by
 unfold yE;rw[B4];by_cases h:k∈ks
 ·rw[yIp (yDt h)];have e:ins ks k=ks:=yIp h;rw[e];unfold qD qC;rw[List.zip_map'];simp
 ·rw[yIn (by lia)];have e:ins ks k=ks++[k]:=yIn h;rw[e];unfold qD qC;simp
def Gz(ks:List Nat)(k:Nat):ja (qD ks) (qC ks) (.inl (k:Int)) (.bl true)=fO (ins ks k):=by
 have:=Co (qD ks,qC ks) (.inl k,.bl true);rw[Ig] at this;exact this
noncomputable def gW(ks st:List Nat):List Nat:=st.foldl ins ks
theorem Cp:∀(st ks:List Nat),(st.map λs:Nat=>((Sum.inl (s:Int):Key),D.bl true)).foldl yE (qD ks,qC ks)=(qD (gW ks st),qC (gW ks st))
 |[],ks=>rfl
 |s::st,ks=>by
  rw[zcq,zbX,Ig];exact Cp st (ins ks s)
theorem qj:∀(st ks:List Nat),d∈gW ks st↔d∈ks∨d∈st
 |[],ks=>by simp[gW]
 |s::st,ks=>by
  show d∈gW (ins ks s) st↔_;rw[qj st,uQ,zcp,or_assoc]
theorem kZ:∀(st ks:List Nat),ks.Nodup->(gW ks st).Nodup
 |[],ks,h=>h
 |s::st,ks,h=>kZ st (ins ks s) (ng h)
noncomputable def rq(S:aA)(n:Nat)(g:Nat->Option MO)(d:Option MO):aA:=S++((zcX n).map g++[d])
section
variable {g g':Nat->Option MO}{d d' x:Option MO}
def Aq(h:i<n):(rq S n g d)[S.length+i]? =some (g i):=by
 unfold rq;rw[zab (by lia),zae (by simp_all)];simp[h]
def IB:(rq S n g d)[S.length+n]? =some d:=by
 unfold rq;simp
def Cv(h:i<n):(rq S n g d).set (S.length+i) x=rq S n (λj=>if j=i then x else g j) d:=by
 unfold rq;refine zbI (by simp) λj h1 h2=>?_;grind
def IA:(rq S n g d).set (S.length+n) x=rq S n g x:=by
 unfold rq;simp
def Iz:(rq S n g d).take S.length=S:=by unfold rq;simp
def nA(h:∀i,i<n->g i=g' i):rq S n g d=rq S n g' d:=by
 unfold rq;simp_all
end
def Gm(n:S.length<=m)(e:S'[m]? =some (some o))(a:S'.take S.length=S)(h:gZ S.length o=true)(q:d (.new o) S):XD S S' (.dat (.loc m)) d:=by
 refine⟨.new o,?_,λk l i j=>.inl ?_,by rw[a];exact q⟩
 ·simp only[out];simp_all
 grind
noncomputable def kN(n:Nat):List Key:=(zcX n).map λi:Nat=>Sum.inl (i:Int)
noncomputable def pD(m:Mv):D:=.tup [lD m.2.1,.int m.2.2]
noncomputable def fL(a:List Mv)(i:Nat):List D:=(a.filter λm=>decide (m.1=i)).map pD
noncomputable def eG(n:Nat)(a:List Mv):MO:=.dct (kN n) ((zcX n).map λi=>.lst (fL a i))
def L8:lK (kN n) (.inl (i:Int))=decide (i<n):=by
 unfold lK kN;grind
def vj(h:i<n):gh (kN n) ((zcX n).map d) (.inl (i:Int))=some (d i):=by
 unfold gh kN;have e:((zcX n).map (λi:Nat=>(Sum.inl i:Key))).zip ((zcX n).map d)=(zcX n).map λj:Nat=>((Sum.inl j:Key),d j):=by
  grind
 rw[e,List.find?_map];have:(zcX n).find? ((λp:Key×D=>decide (p.1=Sum.inl (i:Int))) ∘ λj:Nat=>(Sum.inl j,d j))=some i:=by
  simp;lia
 rw[this];rfl
def Ma:oj ((zcX n).map λi:Nat=>(Sum.inl (i:Int),d i))=(kN n,(zcX n).map d):=by
 induction n with
 |zero=>rfl
 |succ n ih=>
  unfold oj at ih⊢;rw[zcc,zbZ,List.foldl_append,ih];show yE (kN n,(zcX n).map d) (Sum.inl n,d n)=_;unfold yE;rw[yIn (by rw[L8];simp)];simp[kN,zcc]
def zL(a:List Mv)(r:Mv)(i:Nat):fL (a++[r]) i=if i=r.1 then fL a i++[pD r] else fL a i:=by
 unfold fL;grind
theorem B8{S:aA}{n:Nat}{f:Nat->List D}:∀(j k:Nat),k+j=n->AR (S.length+n) (kN n) ((zcX n).map λi=>if i<k then D.lst (f i) else .loc (S.length+i)) (rq S n (λi=>if i<k then none else some (.lst (f i))) (some (.dct (kN n) ((zcX n).map λi=>if i<k then D.lst (f i) else .loc (S.length+i)))))
  ((zcX n).map λi=>D.lst (f i)) (rq S n (λ_=>none) (some (.dct (kN n) ((zcX n).map λi=>D.lst (f i)))))
 |0,k,h=>by
  have e:((zcX n).map λi=>if i<k then D.lst (f i) else .loc (S.length+i))=(zcX n).map λi=>D.lst (f i):=zaK λi a=>by
   simp_all
  rw[e,nA (g':=λ_=>none) (λi a=>by simp_all)];exact .nil
 |j+1,k,h=>by
  have l:k<n:=by lia
  refine .step (m:=S.length+k) (es:=f k) ?_ (by lia) ?_
  ·rw[Aq l,yIn (by lia)]
  ·have q:(((zcX n).map λi=>if i<k then D.lst (f i) else .loc (S.length+i)).map (sb (S.length+k) (.lst (f k))))=(zcX n).map λi=>if i<k+1 then D.lst (f i) else .loc (S.length+i):=by
    rw[zcC];refine zaK λi a=>?_;show sb (S.length+k) (.lst (f k)) (if i<k then D.lst (f i) else .loc (S.length+i))=_;obtain h|h|h:=zbr i k
    ·rw[yIp h,yIp (by lia)];rfl
    ·subst h;rw[yIn (by lia)];show(if S.length+i=S.length+i then _ else _)=_;simp
    ·rw[yIn (by lia),yIn (by lia)];show(if S.length+i=S.length+k then _ else _)=_;rw[yIn (by lia)]
   rw[q,Cv l,IA];have o:=nA (S:=S) (n:=n) (d:=some (.dct (kN n) ((zcX n).map λi=>if i<k+1 then D.lst (f i) else .loc (S.length+i)))) (g:=λj=>if j=k then none else if j<k then none else some (MO.lst (f j))) (g':=λi=>if i<k+1 then none else some (.lst (f i))) (λi a=>by
    lia)
   rw[o];exact B8 j (k+1) (by lia)
theorem BD:∀{a:List Mv},(∀m∈a,N5 d m)->bQ (a.map pD)=true
 |[],_=>rfl
 |m::a,h=>by
  simp only[zcq,bQ,pD,b8,zV m.2.1,BD λk e=>h k (zaz _ e),zcx]
def ID(h:∀x∈d,N5 n x):gZ m (eG n d)=true:=by
 refine dJ m _ ?_;generalize zcX n=l
 induction l with
 |nil=>rfl
 |cons i l ih=>
  have h1:bQ (fL d i)=true:=BD λx e=>h x (zbP.mp e).1;simp only[zcq,bQ,b8,h1,ih,zcx]
section
variable {w:yak}
def Sv:AN:=λe S Q=>∃(n:Nat)(a:List Mv),e=[.int n,.lst (a.map vD)]/\n<=60/\(∀m∈a,N5 n m)/\a.length<=60/\Q (.new (eG n a)) S
def Ws(T:Txt K mg C fi)(F:Src K mg "by_stand" yi (top 13)):Def P w K mg base 1 "by_stand" yi (av K Sv):=by
 refine eU F FQ (λds S Q h=>?_) (λf cdv A outer s H E a=>?_)
 ·let⟨n,t,rfl,_⟩:=h;rfl
 ·refine⟨_,(W7 (Xd 2 FQ.nd (Xu (XI (M.uM a) T.dict (W6 (XE ["stand"] [none] (XY (by rfl) T.range (W8 (W5 0))) (λ_ _ _ _=>XF) (λ_ _ _ _=>(Xg (W6 (W5 0) (W6 (Xu (Xp Xa)) Xa))))) Xa)))) (W7 (Xw PassesOwn.never rfl (Xr (W5 1)) (Yd rfl (XA (Xn 3 FQ.nd) (XA (Xn 4 FQ.nd) (XA (Xn 5 FQ.nd) Ye)))) (W9 (Xv (XC PySem.F.plainAttrs_list PySem.F.slot_list_append PySem.F.type_list_append X7 (XM (bV a) (W5 2) (W5 3) (λ_ _=>rfl)) (W6 (Xg (W6 (W5 4) (W8 (W5 5)))) Xa))))) (W9 (Xj (M.Um (W5 2)))))),λds S Q h=>?_⟩;let⟨n,t,rfl,n6,L,hl,q⟩:=h;have e0:aJ NY [.int n,.lst (t.map vD)]=[some (.int n),some (.lst (t.map vD)),none,none,none,none]:=rfl;rw[e0];push_cast[cU,n8,bF];refine⟨by lia,by lia,?_⟩;refine lN (λrest y m G=>∃(k:Nat)(v:Option D),k<=n/\rest=((zcX n).drop k).map (λi:Nat=>D.int i)/\y=(zcX k).map (λi:Nat=>D.tup [.int i,.loc (S.length+i)])/\G=S++(zcX k).map (λ_=>some (MO.lst []))/\m=[v]) ?_ ?_ _ [] _ _ ⟨0,none,zcT _,by simp[fM],rfl,by simp,rfl⟩
  ·intro y m G z;let⟨k,v,hk,a,rfl,rfl,rfl⟩:=z;obtain rfl:k=n:=by
    have:=congrArg zcR a;simp at this;lia
   refine⟨trivial,_,(zcX k).map (λi:Nat=>(Sum.inl i,D.loc (S.length+i))),rfl,?_,by simp;lia,?_⟩
   ·rw[zcC];rfl
   ·rw[Ma];push_cast[fP,dP];have eb:∀o,S++(zcX k).map (λ_=>some (MO.lst []))++[some o]=rq S k (λi=>some (.lst (fL [] i))) (some o):=λo=>by
     rw[zbj];rfl
    rw[eb,show zcR (S++(zcX k).map (λ_=>some (MO.lst [])))=S.length+k by simp];refine aW (λrest m G=>∃(j l:List Mv)(W U O:Option D),rest=l.map vD/\j++l=t/\G=rq S k (λi=>some (.lst (fL j i))) (some (.dct (kN k) ((zcX k).map λi=>.loc (S.length+i))))/\m=[some (.int k),some (.lst (t.map vD)),some (.loc (S.length+k)),W,U,O]) ?_ ?_ _ _ _ ⟨[],t,none,none,none,rfl,rfl,rfl,rfl⟩
    ·intro m G z;let⟨j,l,W,U,O,a,I,rfl,rfl⟩:=z;have:l=[]:=by cases l with
      |nil=>rfl
      |cons _ _=>simp at a
     subst this;rw[zbS] at I;subst I;push_cast[IZ];refine⟨_,rfl,_,_,IB,_,_,B8 (S:=S) (n:=k) (f:=fL j) k 0 (by lia),?_⟩;exact Gm (by lia) IB Iz (ID L) q
    ·intro x rest m G N' z u;let⟨j,l,W,U,O,a,I,rfl,rfl⟩:=z;cases l with
     |nil=>simp at a
     |cons r l=>
      injection a with h1 h2;subst h1;subst h2;have hm:r∈t:=by rw[<-I];simp
      have ok:=L r hm;have hqs:j.length<=60:=by have:=congrArg zcR I;simp at this;lia
      refine⟨trivial,_,rfl,rfl,_,_,rfl,_,_,rfl,_,_,rfl,rfl,?_⟩;have sd:∀g,aP (rq S k g (some (.dct (kN k) ((zcX k).map λi=>D.loc (S.length+i))))) (.loc (S.length+k))=.dct (kN k) ((zcX k).map λi=>.loc (S.length+i)):=λg=>by simp only[aP,IB];rfl
      push_cast[CL,kB];refine⟨_,_,sd _,_,rfl,_,vj ok.1,?_⟩;have Z:aP (rq S k (λi=>some (.lst (fL j i))) (some (.dct (kN k) ((zcX k).map λi=>D.loc (S.length+i))))) (.loc (S.length+r.1))=.lst (fL j r.1):=by simp only[aP,Aq ok.1];rfl
      rw[Z];refine⟨rfl,sz rfl,S.length+r.1,_,_,rfl,rfl,Aq ok.1,?_,?_⟩
      ·have h1:(fL j r.1).length<=j.length:=by rw[fL,zbR];exact List.length_filter_le ..
       rw[yaf];lia
      ·rw[Cv ok.1];refine u _ _ ⟨j++[r],l,_,_,_,rfl,by simp_all,?_,rfl⟩;refine nA λi X=>?_;rw[zL];by_cases e:i=r.1
       ·rw[yIp e,yIp e,e];rfl
       simp_all
  ·intro x rest y m G N' z u;let⟨k,v,hk,a,rfl,rfl,rfl⟩:=z;have X:k<n:=by
    obtain h|h:=zcJ k n
    ·exact h
    ·rw[zaq (by simp_all)] at a;simp at a
   rw[zag (by simp_all)] at a;injection a with e1 e2;subst e1;subst e2;push_cast[bF];refine⟨zcT _,sz rfl,by rw[zbR,zbn,yaf];lia,u _ _ _ ⟨k+1,_,X,rfl,?_,?_,rfl⟩⟩
   ·rw[zcc];simp
   ·rw[zcc,zbZ,<-zbj];rfl
def Be:AN:=λa S Q=>∃(l:Lf)(ms:List Str),a=[lD l,.lst (ms.map D.str)]/\rV l/\texts ms/\Q (.dat (.bl (hold l ms))) S
def L6(T:Txt K mg C fi)(F:Src K mg "holds" jm (top 4)):Def P w K mg base 1 "holds" jm (av K Be):=by
 refine eU F Kw (λy S Q h=>?_) (λf G A outer s H E i=>?_)
 ·let⟨l,ms,rfl,_⟩:=h;rfl
 ·refine⟨_,(W7 (Xk (Xi (Xm i) (Xb (W5 0)) Xe (aF _)) (W9 (Xj (Xx (X6 i) (Xb (W5 0)) (W5 1) rfl))) Xl) (W7 (Xk (Xi (Xm i) (Xb (W5 0)) Xe (aF _)) (W9 (Xj (Xx (M.uK i) (Xb (W5 0)) (W5 1) rfl))) Xl) (W9 (Xj (Xx (Xm i) (Xb (W5 0)) Xe (aF _)))))),λy S Q h=>?_⟩;let⟨l,ms,rfl,t,o,q⟩:=h;have v:aJ yu [lD l,.lst (ms.map D.str)]=[some (lD l),some (.lst (ms.map D.str))]:=rfl;rw[v];have inl:∀{a:Bool}{m:Str}{j:AK},iu m=true->j (.dat (.bl (a != decide (m∈ms)))) S->qV a (.str m) (.lst (ms.map D.str)) S j:=λ{a m j} h1 u=>
   nq (n:=0) h1 (by decide) (zbC.mpr o.2) (by rw[oO];exact u) (by have:=o.1;lia)
  cases l with
  |stay=>
   push_cast[lD,bf,e7];exact q
  |step b x=>
   push_cast[lD,bf,e7];exact q
  |mk b m=>
   push_cast[lD,bf,e7,cS];cases b
   ·rw[yIn (by decide),yIp (by decide)];refine inl (Nm.ok t) (b6 rfl ?_);have e:(true != decide (m∈ms))=hold (.mk false m) ms:=by simp only[hold];simp
    rw[e];exact q
   ·rw[yIp (by decide)];refine inl (Nm.ok t) (b6 rfl ?_);have e:(false != decide (m∈ms))=hold (.mk true m) ms:=by simp only[hold];simp
    rw[e];exact q
def A7:AN:=λa S Q=>∃(l:Lf)(sd wd:Str),a=[lD l,.str sd,.str wd]/\rV l/\iu wd=true/\Q (.dat (.bl (take l sd wd))) S
def LY(T:Txt K mg C fi)(F:Src K mg "takes" jh (top 5)):Def P w K mg base 1 "takes" jh (av K A7):=by
 refine eU F Ku (λo S Q h=>?_) (λf t A outer s H E a=>?_)
 ·let⟨l,sd,wd,rfl,_⟩:=h;rfl
 ·refine⟨_,(W9 (Xj (M.m9 (Xx (Xm a) (Xb (W5 0)) Xe (aF _)) (M.m9 (Xx (Xm a) (Xb (W5 0)) (W5 1) (aF _)) (M.m6 (Xx (X6 a) (Xb (W5 0)) (Xg (W6 (W5 2) (W8 T.PN))) rfl)))))),λo S Q h=>?_⟩;let⟨l,sd,wd,rfl,i,hw,q⟩:=h;have j:aJ yl [lD l,.str sd,.str wd]=[some (lD l),some (.str sd),some (.str wd)]:=rfl;rw[j];cases l with
  |stay=>
   push_cast[lD,bf,e7];exact q
  |step b x=>
   push_cast[lD,bf,e7,cS,at2];rw[yIp (by decide)];refine gg (λh=>⟨sz rfl,iY (n:=0) (ss:=[wd,"*"]) (Nm.ok i) (by decide) (by simp only[zcs,hw];rfl) (b6 rfl ?_) (by simp)⟩) (λh=>?_)
   ·have e:(false != u5 (.str x) [wd,"*"])=take (.step b x) sd wd:=by
     simp only[take,h,decide_true,Bool.true_and,u5,zcr,List.any_nil,zcw,Np,Bool.false_bne]
    rw[e];exact q
   ·have e:take (.step b x) sd wd=false:=by simp only[take,yDf (λe=>h (yDt e)),Bool.false_and]
    rw[e] at q;exact q
  |mk b m=>
   push_cast[lD,bf,e7];rw[yIn (by cases b<;>decide)];exact q
end
def wj(h:gZ S.length o=true)(q:d (.new o) S):XD S (S++T) (.new o) d:=by
 refine⟨.new o,?_,λk i e a=>.inl ?_,by rw[List.take_left];exact q⟩
 ·simp only[out];rw[yIp h]
 ·rw[zae e] at a;exact a
def IE(m:Nat)(ns:List Nat):gZ m (.lst (nL ns))=true:=dJ m _ (BE ns)
def vV{a:List Int}(i:a.Perm (d.map λk:Nat=>(k:Int)))(e:a.Pairwise (· <=·)):∃rs:List Nat,rs.Perm d/\rs.Pairwise (· <=·)/\a.map D.int=nL rs:=by
 let⟨rs,h1,rfl⟩:=gC i;refine⟨rs,h1,?_,by rw[zcC];rfl⟩;rw[zbo] at e;simp_all
section
variable {w:yak}
def Fq:AN:=λi S Q=>∃(n:Nat)(h:List Mv)(a:List Nat)(ms:List Str),i=[(eG n h).d,.lst (nL a),.lst (ms.map D.str)]/\n<=60/\(∀m∈h,N5 n m)/\h.length<=60/\(∀s∈a,s<n)/\a.length<=60/\texts ms/\
 ∀e:List Nat,e.Pairwise (· <=·)->e.Nodup->(∀x,x∈e↔Reach h ms a x)->Q (.new (.lst (nL e))) S
def Q0(T:Txt K mg C fi)(F:Src K mg "gone_without_steps" l8 (top 14))(ab:Def P w K mg base 1 "holds" jm (av K Be)):Def P w K mg base 2 "gone_without_steps" l8 (av K Fq):=by
 refine eU F mV (λds S Q h=>?_) (λf cdv A outer s H E y=>?_)
 ·let⟨n,L,st,ms,rfl,_⟩:=h;rfl
 ·refine⟨_,(W7 (Xd 3 mV.nd (Xu (XI (M.uM y) T.dict (W6 (XE ["stand"] [none] (Xr (W5 1)) (λ_ _ _ _=>XF) (λ_ _ _ _=>(Xg (W6 (W5 0) (W8 XH))))) Xa)))) (W7 (Xd 4 mV.nd (Xu (XI (M.Lh y) T.list (W8 (W5 3))))) (W7 (M.kR PassesOwn.never (XU (W5 4)) (W7 (Xd 5 mV.nd (M.zC PySem.F.plainAttrs_list PySem.F.slot_list_pop PySem.F.type_list_pop M.T5 (W5 4))) (W9 (Xw PassesOwn.never rfl (Xr (XM (bV y) (W5 0) (W5 5) (λ_ _=>rfl))) (Yd rfl (XA (Xn 6 mV.nd) (XA (Xn 7 mV.nd) Ye))) (W9 (Xk (Yb (Yk (Xi (M.wM y) (W5 7) (W5 3) rfl) (Yt (XU (Xh ab y (W6 (W5 6) (W8 (W5 2)))))))) (W7 (Yc (bV y) (W5 3) (W5 7) XH rfl) (W9 (Xv (XC PySem.F.plainAttrs_list PySem.F.slot_list_append PySem.F.type_list_append X7 (W5 4) (W8 (W5 7)))))) Xl)))))) (W9 (Xj (Xo (M.BO y) T.sorted (W8 (W5 3)))))))),λds S Q h=>?_⟩;let⟨n,L,st,ms,rfl,n6,hmv,hl,hst,hsl,hms,q⟩:=h;have e0:aJ C0 [(eG n L).d,.lst (nL st),.lst (ms.map D.str)]=[some (eG n L).d,some (.lst (nL st)),some (.lst (ms.map D.str)),none,none,none,none,none]:=rfl;rw[e0];push_cast[bF,cU,dP];refine lN (λrest acc W t=>∃(u Y:List Nat)(v:Option D),rest=nL Y/\u++Y=st/\acc=u.map (λi:Nat=>D.tup [.int i,.bl true])/\t=S/\W=[v]) ?_ ?_ _ [] _ _ ⟨[],st,none,rfl,rfl,rfl,rfl,rfl⟩
  ·intro acc W t z;let⟨u,Y,v,y,Z,rfl,rfl,rfl⟩:=z;have:Y=[]:=by cases Y with
    |nil=>rfl
    |cons _ _=>simp[nL] at y
   subst this;rw[zbS] at Z;subst Z;refine⟨trivial,_,u.map (λi:Nat=>(Sum.inl i,D.bl true)),rfl,?_,by rw[zbR];lia,?_⟩
   ·rw[zcC];rfl
   ·have e1:oj (u.map (λi:Nat=>(Sum.inl i,D.bl true)))=(qD (gW [] u),qC (gW [] u)):=Cp u [];rw[e1];obtain⟨O,hk0⟩:∃O,O=gW [] u:=⟨_,rfl⟩
    rw[<-hk0];have hm0:∀x,x∈O↔x∈u:=λx=>by rw[hk0,qj];simp
    have hn0:O.Nodup:=by rw[hk0];exact kZ u [] .nil
    have at3:∀a b,(t++[some a,some b])[t.length]? =some (some a):=λa b=>by simp
    have at4:∀a b,(t++[some a,some b])[t.length+1]? =some (some b):=λa b=>by simp
    have VJ:∀a b c,(t++[some a,some b]).set t.length (some c)=t++[some c,some b]:=λa b c=>by simp
    have Kp:∀a b c,(t++[some a,some b]).set (t.length+1) (some c)=t++[some a,some c]:=λa b c=>by simp
    have FN:∀a b,aP (t++[some a,some b]) (.loc t.length)=a.d:=λa b=>by simp only[aP,at3]
    have FL:∀a b,aP (t++[some a,some b]) (.loc (t.length+1))=b.d:=λa b=>by simp only[aP,at4]
    refine⟨_,qD O,qC O,rfl,by simp only[aP,zab (zcS _),zcL];rfl,?_⟩;dsimp only;rw[show(qD O).map kD=nL O by unfold qD nL;rw[zcC];rfl,show t++[some (MO.dct (qD O) (qC O))]++[some (MO.lst (nL O))]=t++[some (fO O),some (.lst (nL O))] by rw[zbj];rfl,show zcR (t++[some (MO.dct (qD O) (qC O))])=t.length+1 by simp];refine⟨λμ W S2=>∃(ks ws:List Nat)(v5 v6 v7:Option D),W=[some (eG n L).d,some (.lst (nL u)),some (.lst (ms.map D.str)),some (.loc t.length),some (.loc (t.length+1)),v5,v6,v7]/\S2=t++[some (fO ks),some (.lst (nL ws))]/\μ=n - ks.length+ws.length/\ks.Nodup/\(∀s∈u,s∈ks)/\(∀k∈ks,Reach L ms u k)/\(∀k∈ws,k∈ks)/\(∀m∈L,m.1∈ks->m.1 ∉ ws->hold m.2.1 ms=true->m.2.2∈ks)/\ws.length<=ks.length,⟨_,O,O,none,none,none,rfl,rfl,rfl,hn0,λs hs=>(hm0 s).mpr hs,λk U=>.base ((hm0 k).mp U),λk U=>U,λm hm h1 h2=>absurd h1 h2,zcS _⟩,?_⟩;intro μ W S2 z;let⟨ks,ws,v5,v6,v7,rfl,rfl,rfl,hn,h1,h2,h3,h4,h5⟩:=z;have hlt:=λk U=>(h2 k U).lt hmv hst;have hkl:=dF n ks hn hlt;refine⟨_,rfl,!ws.isEmpty,by show e8 (aP _ (.loc (t.length+1)))=_;rw[FL];cases ws<;>rfl,gg (λhw=>?_) (λhw=>?_)⟩
    ·obtain⟨I,a,rfl⟩:∃I a,ws=I++[a]:=by
      obtain rfl|⟨l,a,rfl⟩:=List.eq_nil_or_concat ws
      ·simp at hw
      ·refine⟨l,a,by simp⟩
     have ha:=h3 a (by simp);obtain⟨N,hN⟩:∃N:bh->aA->Prop,N=λW S2=>∃(j o:List Nat)(v5 v6 v7:Option D),W=[some (eG n L).d,some (.lst (nL u)),some (.lst (ms.map D.str)),some (.loc t.length),some (.loc (t.length+1)),v5,v6,v7]/\S2=t++[some (fO j),some (.lst (nL o))]/\n - j.length+o.length<n - ks.length+(I++[a]).length/\
      j.Nodup/\(∀s∈u,s∈j)/\(∀k∈j,Reach L ms u k)/\(∀k∈o,k∈j)/\(∀m∈L,m.1∈j->m.1 ∉ o->hold m.2.1 ms=true->m.2.2∈j)/\o.length<=j.length:=⟨_,rfl⟩
     refine⟨N,?_,?_⟩
     ·rw[hN];intro δ' S3 z;let⟨j,o,w5,w6,w7,g1,g2,g3,g4⟩:=z;refine⟨_,g3,j,o,w5,w6,w7,g1,g2,rfl,g4⟩
     ·push_cast[Rx,UO];have et:nL (I++[a])=nL I++[.int a]:=by simp[nL]
      refine⟨by rw[FL];rfl,_,rfl,_,at4 _ _,.int a,by rw[et];simp,?_⟩;rw[Kp,show(nL (I++[a])).dropLast=nL I by grind];push_cast[fP,dP,kB];refine⟨kN n,_,rfl,_,rfl,_,vj (hlt a ha),?_⟩;refine aW (λrest W S3=>∃(qm X:List Mv)(j o:List Nat)(v6 v7:Option D),rest=X.map pD/\qm++X=L.filter (λm=>decide (m.1=a))/\W=[some (eG n L).d,some (.lst (nL u)),some (.lst (ms.map D.str)),some (.loc t.length),some (.loc (t.length+1)),some (.int a),v6,v7]/\S3=t++[some (fO j),some (.lst (nL o))]/\n - j.length+o.length=n - ks.length+I.length/\j.Nodup/\(∀s∈u,s∈j)/\(∀k∈j,Reach L ms u k)/\(∀k∈o,k∈j)/\(∀m∈L,m.1∈j->m.1 ∉ o->m.1≠a->hold m.2.1 ms=true->m.2.2∈j)/\(∀m∈qm,hold m.2.1 ms=true->m.2.2∈j)/\o.length<=j.length/\a∈j) ?_ ?_ _ _ _ ⟨[],L.filter (λm=>decide (m.1=a)),ks,I,v6,v7,rfl,rfl,rfl,rfl,rfl,hn,h1,h2,λk U=>h3 k (by simp[U]),λm hm g1 g2 g3=>h4 m hm g1 (by simp[g2,g3]),by simp,by simp at h5;lia,ha⟩
      ·intro W S3 z;let⟨qm,X,j,o,v6,v7,y,Z,rfl,rfl,hm,g1,g2,g3,g4,g5,g6,g7,g8⟩:=z;have:X=[]:=by simp_all
       refine⟨trivial,?_⟩;rw[hN];refine⟨j,o,_,_,_,rfl,rfl,by rw[zaR];show _<_+(_+1);lia,g1,g2,g3,g4,λm G k1 k2 k3=>?_,g7⟩;grind
      ·intro x rest W S3 N' z hN';let⟨qm,X,j,o,v6,v7,y,Z,rfl,rfl,hm,g1,g2,g3,g4,g5,g6,g7,g8⟩:=z;cases X with
       |nil=>simp at y
       |cons r X=>
        injection y with e1 e2;subst e1;subst e2;have y:r∈L.filter (λm=>decide (m.1=a)):=by rw[<-Z];simp
        have hrm:=(zbP.mp y).1;have he':(qm++[r])++X=L.filter (λm=>decide (m.1=a)):=by rw[zbj];exact Z
        refine⟨trivial,_,rfl,rfl,_,_,rfl,_,_,rfl,rfl,?_⟩;push_cast[Az,FN];refine⟨_,rfl,?_⟩;rw[B4];refine gg (λhb=>?_) (λhb=>?_)
        ·have hb:=by simpa using hb
         refine⟨r.2.1,ms,rfl,(hmv r hrm).2.1,hms,_,rfl,gg (λhh=>?_) (λhh=>?_)⟩
         ·push_cast[nC,CL];refine⟨_,rfl,qD j,qC j,_,rfl,at3 _ _,?_,?_⟩
          ·rw[qC,zbR];have:=dF n j g1 λk U=>(g3 k U).lt hmv hst;lia
          ·rw[VJ,Gz,show ins j r.2.2=j++[r.2.2] from yIn hb];have nd:=by
            have:=ng (k:=r.2.2) g1
            rwa [show ins j r.2.2=j++[r.2.2] from yIn hb] at this
           have rc:∀k∈j++[r.2.2],Reach L ms u k:=λk U=>by
            obtain h|h:=zbQ.mp U
            ·exact g3 k h
            ·rw[zaU.mp h];exact .go ((of_decide_eq_true (zbP.mp y).2)▸g3 a g8) hrm hh
           have hk1:=dF n _ nd λk U=>(rc k U).lt hmv hst;rw[zaR] at hk1;refine⟨by rw[FL];rfl,_,nL o,_,rfl,rfl,at4 _ _,by rw[nL,zbR,yaf];lia,?_⟩;rw[Kp,show nL o++[D.int (r.2.2:Int)]=nL (o++[r.2.2]) by simp[nL]];refine hN' _ _ ⟨qm++[r],X,j++[r.2.2],o++[r.2.2],_,_,rfl,he',rfl,rfl,by rw[zaR,zaR];lia,nd,λs hs=>zaA _ (g2 s hs),rc,λk U=>?_,λm G k1 k2 k3 k4=>?_,λm G k=>?_,by rw[zaR,zaR];lia,zaA _ g8⟩
           ·grind
           ·grind
           grind
         ·exact hN' _ _ ⟨qm++[r],X,j,o,_,_,rfl,he',rfl,rfl,hm,g1,g2,g3,g4,g5,λm G k=>by
           grind,g7,g8⟩
        ·exact hN' _ _ ⟨qm++[r],X,j,o,_,_,rfl,he',rfl,rfl,hm,g1,g2,g3,g4,g5,λm G k=>by
          grind,g7,g8⟩
    ·have:ws=[]:=by grind
     subst this;refine⟨_,rfl,_,qC ks,ks.map (λk:Nat=>k),rfl,?_,by rw[zbR];lia,λns' hp hs=>?_⟩
     ·show aP _ (.loc t.length)=_;rw[FN];rw[zcC];rfl
     ·let⟨Y,p1,p2,p3⟩:=vV hp hs;rw[p3];refine wj (IE _ _) (q Y p2 (p1.symm.nodup hn) λx=>?_);rw[p1.mem_iff];exact⟨h2 x,λhx=>hx.closed h1 λm hm U hh=>h4 m hm U (by simp) hh⟩
  ·intro x rest acc W t N' z hN';let⟨u,Y,v,y,Z,rfl,rfl,rfl⟩:=z;cases Y with
   |nil=>simp[nL] at y
   |cons r Y=>
    injection y with h1 h2;subst h1;subst h2;push_cast[lR];refine⟨sz rfl,by rw[zbR,yaf];have:=congrArg zcR Z;simp at this;lia,hN' _ _ _ ⟨u++[r],Y,_,rfl,by simp_all,by simp,rfl,rfl⟩⟩
def Ft:AN:=λi S Q=>∃(n:Nat)(e:List Mv)(h:List Nat)(sd wd:Str),i=[(eG n e).d,.lst (nL h),.str sd,.str wd]/\n<=60/\(∀m∈e,N5 n m)/\e.length<=60/\(∀s∈h,s<n)/\iu wd=true/\
 ∀a:List Nat,a.Pairwise (· <=·)->a.Nodup->(∀x,x∈a↔R0 e h sd wd x)->Q (.new (.lst (nL a))) S
def E7:R0 d (g++[k]) sd wd q↔R0 d g sd wd q∨∃m∈d.filter (λm=>decide (m.1=k)),take m.2.1 sd wd=true/\m.2.2=q:=by
 constructor
 ·rintro⟨m,h1,h2,e⟩;obtain h|h:=zbQ.mp h2
  ·exact .inl ⟨m,h1,h,e⟩
  ·exact .inr ⟨m,zbP.mpr ⟨h1,yDt (zaU.mp h)⟩,e⟩
 ·rintro(⟨m,h1,h2,e⟩|⟨m,h1,h2⟩)
  ·refine⟨m,h1,zaA _ h2,e⟩
  ·let⟨h1,e⟩:=zbP.mp h1;refine⟨m,h1,zau _ (by simp_all),h2⟩
def Q3(T:Txt K mg C fi)(F:Src K mg "gone_by_step" mj (top 15))(v:Def P w K mg base 1 "takes" jh (av K A7)):Def P w K mg base 2 "gone_by_step" mj (av K Ft):=by
 refine eU F pM (λds S Q h=>?_) (λf cdv A outer s H E i=>?_)
 ·let⟨n,o,U,sd,wd,rfl,_⟩:=h;rfl
 ·refine⟨_,(W7 (Xd 4 pM.nd (Xu M.fG)) (W7 (Xw PassesOwn.never rfl (Xr (W5 1)) (Xn 5 pM.nd) (W9 (Xw PassesOwn.never rfl (Xr (XM (bV i) (W5 0) (W5 5) (λ_ _=>rfl))) (Yd rfl (XA (Xn 6 pM.nd) (XA (Xn 7 pM.nd) Ye))) (W9 (Xk (XU (Xh v i (W6 (W5 6) (W6 (W5 2) (W8 (W5 3)))))) (W9 (Yc (bV i) (W5 4) (W5 7) XH rfl)) Xl))))) (W9 (Xj (Xo (M.BO i) T.sorted (W8 (W5 4))))))),λds S Q h=>?_⟩;let⟨n,o,U,sd,wd,rfl,n6,hmv,hl,hst,hwd,q⟩:=h;have e0:aJ C1 [(eG n o).d,.lst (nL U),.str sd,.str wd]=[some (eG n o).d,some (.lst (nL U)),some (.str sd),some (.str wd),none,none,none,none]:=rfl;rw[e0];have at4:∀a,(S++[some a])[S.length]? =some (some a):=λa=>by simp
  have Kp:∀a c,(S++[some a]).set S.length (some c)=S++[some c]:=λa c=>by simp
  have FL:∀a,aP (S++[some a]) (.loc S.length)=a.d:=λa=>by simp only[aP,at4]
  push_cast[fP,dP];refine aW (λrest O S2=>∃(Y y ks:List Nat)(v5 L I:Option D),rest=nL y/\Y++y=U/\O=[some (eG n o).d,some (.lst (nL U)),some (.str sd),some (.str wd),some (.loc S.length),v5,L,I]/\S2=S++[some (fO ks)]/\ks.Nodup/\(∀k∈ks,k<n)/\∀x,x∈ks↔R0 o Y sd wd x) ?_ ?_ _ _ _
   ⟨[],U,[],none,none,none,rfl,rfl,rfl,rfl,.nil,by simp,λx=>⟨λh=>by simp at h,λ⟨m,_,h,_⟩=>by simp at h⟩⟩
  ·intro O S2 z;let⟨Y,y,ks,v5,L,I,i,he,rfl,rfl,hn,X,hx⟩:=z;have:y=[]:=by cases y with
    |nil=>rfl
    |cons _ _=>simp[nL] at i
   subst this;rw[zbS] at he;subst he;have hkl:=dF n ks hn X;push_cast[true_and];refine⟨_,qC ks,ks.map (λk:Nat=>k),rfl,?_,by rw[zbR];lia,λns' hp hs=>?_⟩
   ·rw[FL];rw[zcC];rfl
   ·let⟨rs,p1,p2,p3⟩:=vV hp hs;rw[p3];refine wj (IE _ _) (q rs p2 (p1.symm.nodup hn) λx=>?_);rw[p1.mem_iff,hx]
  ·intro x rest O S2 N' z hN';let⟨Y,y,ks,v5,L,I,i,he,rfl,rfl,hn,X,hx⟩:=z;cases y with
   |nil=>simp[nL] at i
   |cons a y=>
    injection i with e1 e2;subst e1;subst e2;push_cast[fP,dP,kB];refine⟨kN n,_,rfl,_,rfl,_,vj (hst a (by rw[<-he];simp)),?_⟩;refine aW (λrest O S3=>∃(W l:List Mv)(e:List Nat)(L I:Option D),rest=l.map pD/\W++l=o.filter (λm=>decide (m.1=a))/\O=[some (eG n o).d,some (.lst (nL U)),some (.str sd),some (.str wd),some (.loc S.length),some (.int a),L,I]/\S3=S++[some (fO e)]/\e.Nodup/\(∀k∈e,k<n)/\∀x,x∈e↔R0 o Y sd wd x∨∃m∈W,take m.2.1 sd wd=true/\m.2.2=x) ?_ ?_ _ _ _ ⟨[],o.filter (λm=>decide (m.1=a)),ks,L,I,rfl,rfl,rfl,rfl,hn,X,λx=>by rw[hx];simp⟩
    ·intro O S3 z;let⟨W,l,e,L,I,i,u,rfl,rfl,t,j,G⟩:=z;have:l=[]:=by simp_all
     subst this;rw[zbS] at u;subst u;exact⟨trivial,hN' _ _ ⟨Y++[a],y,e,_,_,_,rfl,by rw[zbj];exact he,rfl,rfl,t,j,λx=>by rw[G,E7]⟩⟩
    ·intro x rest O S3 N2 z hN2;let⟨W,l,e,L,I,i,u,rfl,rfl,t,j,G⟩:=z;cases l with
     |nil=>simp at i
     |cons r l=>
      injection i with e1 e2;subst e1;subst e2;have i:r∈o.filter (λm=>decide (m.1=a)):=by rw[<-u];simp
      have ok:=hmv r ((zbP.mp i).1);have Z:(W++[r])++l=o.filter (λm=>decide (m.1=a)):=by rw[zbj];exact u
      refine⟨trivial,_,rfl,rfl,_,_,rfl,_,_,rfl,rfl,?_⟩;push_cast[true_and];refine⟨r.2.1,sd,wd,rfl,ok.2.1,hwd,_,rfl,gg (λhh=>?_) (λhh=>?_)⟩
      ·push_cast[nC];refine⟨_,rfl,qD e,qC e,_,rfl,at4 _,?_,?_⟩
       ·rw[qC,zbR];have:=dF n e t j;lia
       ·rw[Kp,Gz];refine hN2 _ _ ⟨W++[r],l,_,_,_,rfl,Z,rfl,rfl,ng t,λk hk=>?_,λx=>?_⟩
        ·obtain h|h:=uQ.mp hk
         ·exact j k h
         ·rw[h];exact ok.2.2
        ·rw[uQ,G,or_assoc];refine or_congr Iff.rfl ⟨?_,?_⟩
         ·rintro(⟨m,h1,h2⟩|rfl)
          ·refine⟨m,zaA _ h1,h2⟩
          ·refine⟨r,by simp,hh,rfl⟩
         grind
      ·refine hN2 _ _ ⟨W++[r],l,e,_,_,rfl,Z,rfl,rfl,t,j,λx=>?_⟩;rw[G];refine or_congr Iff.rfl ⟨?_,?_⟩
       ·rintro⟨m,h1,h2⟩;refine⟨m,zaA _ h1,h2⟩
       ·rintro⟨m,h1,h2⟩;obtain h|h:=zbQ.mp h1
        ·refine⟨m,h,h2⟩
        ·rw[zaU.mp h] at h2;exact absurd h2.1 hh
end
open PySem L2 M M6
noncomputable abbrev yv:List Str:=["web","near","begin","ends","way","stands","side","word","knot"]
noncomputable abbrev jn:=yv.take 5
def gP:aE yv jn (aj (top 16)):=L2.cy
noncomputable abbrev C2:List Str:=["web","pattern","way","laid"]
noncomputable abbrev mq:=C2.take 3
def FP:aE C2 mq (aj (top 18)):=L2.cy
abbrev Sp:=Bool×Str×Str
noncomputable def iB(s:Sp):D:=.tup [.str (side s.1),.str s.2.1,.str s.2.2]
noncomputable def fT(k:Str)(ss:List Sp):D:=.tup [.str k,.tup (ss.map iB)]
noncomputable def Wg(k:Str)(ss:List Sp):Nat->Str
 |0=>k
 |i+1=>(ss[i]?.map (·.2.2)).getD k
noncomputable def wr(mk:Str->List Str)(k:Str)(ss:List Sp):Wr:=⟨λi=>mk (Wg k ss i),λi=>(ss[i]?.map (side ·.1)).getD "",λi=>(ss[i]?.map (·.2.1)).getD ""⟩
theorem wW:∀(ms a:List Str),d∈a∨d∈ms->d∈ms.foldl mk1 a
 |[],a,h=>h.elim id λz=>by simp at z
 |m::ms,a,h=>by
  refine wW ms _ ?_;unfold mk1;grind
def Ln:y∈rH ms↔y∈ms:=⟨k8,λh=>wW ms [] (.inr h)⟩
def qA(h:∀y,y∈g↔y∈k):hold d g=hold d k:=by
 cases d with
 |mk c m=>unfold hold;simp_all
 |_=>rfl
def nP(h:∀y,y∈g↔y∈k):Reach d g q w↔Reach d k q w:=by
 constructor
 ·intro r
  induction r with
  |base z=>exact .base z
  |go _ h1 h2 ih=>exact .go ih h1 (qA h▸h2)
 ·intro r
  induction r with
  |base z=>exact .base z
  |go _ h1 h2 ih=>exact .go ih h1 ((qA h).trans h2)
def Mh(x:Nat):x∈[0]↔Bf W d 0 x:=by
 unfold Bf;simp
section
variable {w:yak}
def Jf(ks:List Kn)(k:Str)(ss:List Sp):Prop:=k∈nms ks/\∀s∈ss,s.2.2∈nms ks/\iu s.2.1=true
def Bg(C:Addr)(W:yak):AN:=λl S Q=>∃(a n b:Nat)(i:List Mv)(ks:List Kn)(j:List Ti)(k:Str)(h:List Sp),l=[.loc a,(eG n i).d,.int (0:Nat),.lst (nL [1]),fT k h]/\(∃L m t e ns,cV C W b L S a m t e ns ks j)/\(nms ks).Nodup/\Jf ks k h/\0<n/\n<=60/\(∀m∈i,N5 n m)/\i.length<=60/\
 (∀k∈ks,texts k.2)/\∀v:Bool,(v=true↔Rc (wr (aL ks) k h) i 1 h.length)->Q (.dat (.bl v)) S
def L7(T:Txt K mg C fi)(F:Src K mg "goes_along" jn (top 16))(i:Def P w K mg base 2 "gone_without_steps" l8 (av K Fq))(j:Def P w K mg base 2 "gone_by_step" mj (av K Ft))(l:fS P w K mg base 2 C "marks" nD (Fe C w)):Def P w K mg base 3 "goes_along" jn (av K (Bg C w)):=by
 refine eU F gP (λds S Q h=>?_) (λf cdv A outer s H E G=>?_)
 ·let⟨a,n,b,U,ks,ts,k,o,rfl,_⟩:=h;rfl
 ·refine⟨_,(W7 (Xd 5 gP.nd (Xh i G (W6 (W5 1) (W6 (Xp (W8 (W5 2))) (W6 (XO (W5 0) T.cl l (G.mono (by decide)) (W6 (Xb (W5 4)) Xa)) Xa))))) (W7 (Xw PassesOwn.never rfl (Xr (Xb (W5 4))) (Yd rfl (XA (Xn 6 gP.nd) (XA (Xn 7 gP.nd) (XA (Xn 8 gP.nd) Ye)))) (W7 (Xd 5 gP.nd (Xh j G (W6 (W5 1) (W6 (W5 5) (W6 (W5 6) (W8 (W5 7))))))) (W9 (Xd 5 gP.nd (Xh i G (W6 (W5 1) (W6 (W5 5) (W6 (XO (W5 0) T.cl l (G.mono (by decide)) (W8 (W5 8))) Xa)))))))) (W9 (Xj (Xx M.Li (M.m7 rfl (by rfl) T.len (by rfl) T.set (W5 5) (W5 3)) Xc (aF _)))))),λds S Q h=>?_⟩;let⟨a,n,b,U,ks,ts,k,o,rfl,⟨L,m,t,e,ns,X⟩,hn,hw,n0,n6,v,hl,htx,q⟩:=h;have e0:aJ yv [.loc a,(eG n U).d,.int (0:Nat),.lst (nL [1]),fT k o]=[some (.loc a),some (eG n U).d,some (.int (0:Nat)),some (.lst (nL [1])),some (fT k o),none,none,none,none]:=rfl;rw[e0];push_cast[fT];have tx:∀y,y∈nms ks->(rB (rH (aL ks y))).Perm (rH (aL ks y))->texts (rB (rH (aL ks y)))/\∀z,z∈rB (rH (aL ks y))↔z∈aL ks y:=λy hy Y=>by
   have h1:=htx _ (dg hy);have h2:∀z,z∈rB (rH (aL ks y))↔z∈aL ks y:=λz=>by rw[Y.mem_iff,Ln]
   refine⟨⟨?_,λz hz=>h1.2 z ((h2 z).mp hz)⟩,h2⟩;rw[Y.length_eq];exact zcF (L2.jC (jD _) λy hy=>k8 hy) h1.1
  refine⟨sz rfl,cY rfl X.at_ (by decide+kernel) ?_⟩;push_cast[bf,e7];refine⟨a,b,ks,ts,(k,aL ks k),rfl,⟨L,m,t,e,ns,X⟩,hn,dg hw.1,λY=>?_⟩;let⟨t1,t2⟩:=tx k hw.1 Y;refine⟨n,U,[0],_,rfl,n6,v,hl,by simp_all,by decide,t1,λrs r1 r2 r3=>?_⟩;push_cast[fP,dP,bf,cS];refine aW (λrest δ S2=>∃(O q2:List Sp)(I:List Nat)(v6 v7 v8:Option D),rest=q2.map iB/\O++q2=o/\S2=S/\δ=[some (.loc a),some (eG n U).d,some (.int (0:Nat)),some (.lst (nL [1])),some (.tup [.str k,.tup (o.map iB)]),some (.lst (nL I)),v6,v7,v8]/\I.Nodup/\(∀x∈I,x<n)/\∀x,x∈I↔Rc (wr (aL ks) k o) U x O.length) ?_ ?_ _ _ _ ⟨[],o,rs,none,none,none,rfl,rfl,rfl,rfl,r2,λx hx=>((r3 x).mp hx).lt v (by simp_all),λx=>?_⟩
  ·intro δ S2 V;let⟨O,q2,I,v6,v7,v8,G,Z,rfl,rfl,h1,h2,h3⟩:=V;have:q2=[]:=by simp_all
   subst this;rw[zbS] at Z;subst Z;push_cast[vC,LB];have hsl:=dF n I h1 h2;refine⟨I.map (λk:Nat=>k),.inr (by rw[zcC];rfl),by rw[zbR];lia,[1],.inr rfl,by decide,λu hu=>?_⟩;refine q _ ?_;rw[<-h3 1];constructor
   ·intro hlt;cases u with
    |nil=>simp at hlt
    |cons y u=>
     let⟨g1,g2⟩:=(hu y).mp (by simp);let⟨z,hz,rfl⟩:=zcD.mp g1;have:z=1:=by have:=zaU.mp g2;lia
     lia
   ·intro hm;have:=(hu 1).mpr ⟨zcD.mpr ⟨1,hm,rfl⟩,by simp⟩;have:=zap this;lia
  ·intro x rest δ S2 N' V hN';let⟨O,q2,I,v6,v7,v8,G,Z,rfl,rfl,h1,h2,h3⟩:=V;cases q2 with
   |nil=>simp at G
   |cons r q2=>
    injection G with e1 e2;subst e1;subst e2;have hrm:r∈o:=by rw[<-Z];simp
    let⟨o1,o2⟩:=hw.2 r hrm;have ai:o[O.length]? =some r:=by rw[<-Z];simp
    refine⟨trivial,_,rfl,rfl,_,_,rfl,_,_,rfl,_,_,rfl,rfl,?_⟩;push_cast[true_and];refine⟨n,U,I,side r.1,r.2.1,rfl,n6,v,hl,h2,o2,λt3 _ n3 m3=>?_⟩;refine cY rfl X.at_ (by decide+kernel) ?_;push_cast[true_and];refine⟨a,b,ks,ts,(r.2.2,aL ks r.2.2),rfl,⟨L,m,t,e,ns,X⟩,hn,dg o1,λY=>?_⟩;let⟨t1,t2⟩:=tx _ o1 Y;have l3:∀x∈t3,x<n:=λx hx=>by
     let⟨m',g1,g2,g3,rfl⟩:=(m3 x).mp hx;exact(v m' g1).2.2
    refine⟨n,U,t3,_,rfl,n6,v,hl,l3,by have:=dF n t3 n3 l3;lia,t1,λt4 _ n4 m4=>?_⟩;refine hN' _ _ ⟨O++[r],q2,t4,_,_,_,rfl,by simp_all,rfl,rfl,n4,λx hx=>((m4 x).mp hx).lt v l3,λx=>?_⟩;have w1:(wr (aL ks) k o).sd O.length=side r.1:=by simp[wr,ai]
    have w2:(wr (aL ks) k o).wd O.length=r.2.1:=by simp[wr,ai]
    have w3:(wr (aL ks) k o).ms (O.length+1)=aL ks r.2.2:=by simp[wr,Wg,ai]
    rw[m4,nP t2,<-w3,zaR];refine wB (λy=>?_) x;rw[m3,<-w1,<-w2];exact Ow h3 y
  ·rw[r3,nP t2];exact wB (W:=wr (aL ks) k o) Mh x
def Fv(C:Addr)(W:yak):AN:=λj S Q=>∃(a b:Nat)(p:Pt)(ks:List Kn)(i:List Ti)(k:Str)(h:List Sp),j=[.loc a,tD p,fT k h]/\(∃L m t e ns,cV C W b L S a m t e ns ks i)/\(nms ks).Nodup/\Jf ks k h/\fB p/\oc p<=50/\(∀k∈ks,texts k.2)/\
 ∀v:Bool,(v=true↔dh (wr (aL ks) k h) p 0 h.length)->Q (.dat (.bl v)) S
def Q4(T:Txt K mg C fi)(F:Src K mg "fits" mq (top 18))(i:Def P w K mg base 3 "laid_out" l7 (av K Fo))(j:Def P w K mg base 1 "by_stand" yi (av K Sv))(e:Def P w K mg base 3 "goes_along" jn (av K (Bg C w))):Def P w K mg base 4 "fits" mq (av K (Fv C w)):=by
 refine eU F FP (λds S Q h=>?_) (λf cdv A outer s H E y=>?_)
 ·let⟨a,b,p,ks,O,k,o,rfl,_⟩:=h;rfl
 ·refine⟨_,(W7 (Xd 3 FP.nd (Xh i y (W8 (W5 1)))) (W9 (Xj (Xh e y (W6 (W5 0) (W6 (Xh j y (W6 (Xb (W5 3)) (W6 (Xb (W5 3)) Xa))) (W6 T.wJ (W6 (Xp (W8 T.GQ)) (W8 (W5 2)))))))))),λds S Q h=>?_⟩;let⟨a,b,p,ks,O,k,o,rfl,Y,I,u,W,G,x,q⟩:=h;have Z:aJ C2 [.loc a,tD p,fT k o]=[some (.loc a),some (tD p),some (fT k o),none]:=rfl;rw[Z];push_cast[true_and];refine⟨p,rfl,W,G,λn t hR L hn hm X=>⟨_,e7,_,cS,?_⟩⟩;have l:∀m∈t,N5 n m:=λm h=>by
   have:=L.Lk (eM m) (zcD.mpr ⟨m,h,rfl⟩);refine⟨this.1,X m h,this.2⟩
  refine⟨n,t,rfl,by lia,l,by lia,sz rfl,a,n,b,t,ks,O,k,o,rfl,Y,I,u,by have:=L.two;lia,by lia,l,by lia,x,λv U=>b6 rfl (q v (U.trans (Pu L _)))⟩
end
open PySem L2 M M6
noncomputable abbrev C3:List Str:=["_law_cell"]
noncomputable abbrev mw:=C3
def OR:aE C3 mw (aj (top 30)):=L2.cy
noncomputable abbrev CS:List Str:=["_law_feed_here","_law_many","_law_found","_law_one","_law_two"]
noncomputable abbrev ck:=CS.take 2
def uq:aE CS ck (aj (top 31)):=L2.cy
noncomputable def yD:List Key:=[.inr "left",.inr "seed",.inr "drawn"]
def Fd(n:Nat)(o:MO):Prop:=∃(l s:Int)(d:Nat),o=.dct yD [.int l,.int s,.int d]/\0<=l/\0<=s/\s<1000003/\d<=n
def Fd.ia(h:Fd n o)(k:Nat):gZ k o=true:=by
 let⟨l,s,d,rfl,_⟩:=h;rfl
def Fd.mono(h:Fd n o)(e:n<=m):Fd m o:=by
 let⟨l,s,d,rfl,h1,h2,i,a⟩:=h;refine⟨l,s,d,rfl,h1,h2,i,zcF a e⟩
def lP(h:gZ S.length o=true):chg S (S.set d (some o)):=λk i j e=>by
 by_cases a:d=k
 ·simp_all
 ·rw[zaB a] at e;exact .inl e
def cQ(h:b8 d=true)(a:gZ S.length o=true)(q:k (.dat d) (S.set g (some o))):ret S (S.set g (some o)) (.dat d) k:=
 ⟨_,dW h,lP a,by rw[zao (by simp)];exact q⟩
def KP(h:gZ S.length o=true)(q:d (.new o) S):ret S (S++[some o]) (.dat (.loc S.length)) d:=by
 refine⟨.new o,?_,λk i a e=>.inl ?_,?_⟩
 ·simp only[out];simp_all
 ·rw[zae a] at e;exact e
 ·rw[show(S++[some o]).take S.length=S by simp];exact q
section
variable {w:yak}
def Fw:AN:=λa S Q=>∃z:Int,a=[.int z]/\∀o,Fd 0 o->Q (.new o) S
def Q5(T:Txt K mg C fi)(F:Src K mg "_law_feed" mw (top 30)):Def P w K mg base 1 "_law_feed" mw (av K Fw):=by
 refine eU F OR (λe S Q h=>?_) (λf i A outer s H E j=>?_)
 ·let⟨z,rfl,_⟩:=h;rfl
 ·refine⟨_,(W9 (Xj (M.uG (M.iP (Xo (M.G1 rfl) T.max (W6 Xc (W6 (Xf M.wL (W5 0) (Xf M.TL Xc Xc)) Xa))) (M.iP (Xf XS (W5 0) Xc) (M.iP Xc M.uB)))))),λe S Q h=>?_⟩;let⟨z,rfl,q⟩:=h;have a:aJ C3 [.int z]=[some (.int z)]:=rfl;rw[a];push_cast[I0,vA];refine⟨⟨by decide,by decide,by decide⟩,_,_,rfl,by decide,by simp,?_⟩;rw[zaw _ _ (zcS _),zcL];have fd:Fd 0 (.dct yD [.int (if z - 10 ^ Int.toNat 18> 0 then z - 10 ^ Int.toNat 18 else 0),.int (z % 1000003),.int (0:Nat)]):=⟨_,_,0,rfl,by split<;>lia,zcf _ (by decide),zaZ _ (by decide),zcS _⟩
  exact KP (fd.ia _) (q _ fd)
def cZ:AN:=λe S Q=>∃(p n m:Nat)(o:MO),e=[.loc p,.int m]/\S[p]? =some (some o)/\Fd n o/\n<1000000/\0<m/\m<1000/\∀(z:Nat)(a:MO),z<m->Fd (n+1) a->Q (.dat (.int z)) (S.set p (some a))
def QO(T:Txt K mg C fi)(F:Src K mg "_law_next" ck (top 31)):Def P w K mg base 1 "_law_next" ck (av K cZ):=by
 refine eU F uq (λds S Q h=>?_) (λf cdv A outer s H E a=>?_)
 ·let⟨p,n,m,o,rfl,_⟩:=h;rfl
 ·refine⟨_,(W7 (M.kU (bV a) (W5 0) Xe (Xf Xq (X8 (bV a) (W5 0) Xe (λ_ _=>rfl)) Xc) rfl) (W7 (Xk (Xi M.Li (X8 (bV a) (W5 0) Xe (λ_ _=>rfl)) Xc (aF _)) (W7 (Xd 2 uq.nd (Xf XS (X8 (bV a) (W5 0) Xe (λ_ _=>rfl)) (W5 1))) (W7 (M.kU (bV a) (W5 0) Xe (Xf M.Qe (X8 (bV a) (W5 0) Xe (λ_ _=>rfl)) (W5 1)) rfl) (W9 (Xj (W5 2))))) Xl) (W7 (Xd 3 uq.nd (Xf XS (Xf XT (Xf Xq (X8 (bV a) (W5 0) Xe (λ_ _=>rfl)) Xc) (Xf Xq (Xf XT (X8 (bV a) (W5 0) Xe (λ_ _=>rfl)) (X8 (bV a) (W5 0) Xe (λ_ _=>rfl))) Xc)) Xc)) (W7 (Xd 4 uq.nd (Xf XS (Xf Xq (Xf XT (W5 3) (W5 3)) (Xf XT Xc (X8 (bV a) (W5 0) Xe (λ_ _=>rfl)))) Xc)) (W9 (Xj (Xf XS (Xf XS (Xf Xq (Xf XT (W5 4) (W5 4)) (Xf XT Xc (W5 3))) Xc) (W5 1)))))))),λds S Q h=>?_⟩;let⟨p,n,m,o,rfl,U,⟨l,sd,d,rfl,Y,X,u,hd⟩,hn,m0,m1,q⟩:=h;have e0:aJ CS [.loc p,.int m]=[some (.loc p),some (.int m),none,none,none]:=rfl;rw[e0];have Z:aP S (.loc p)=.dct yD [.int l,.int sd,.int d]:=by simp only[aP,U];rfl
  have W:∀x y z,gh yD [x,y,z] (.inr "left")=some x:=λx y z=>rfl;have g2:∀x y z,gh yD [x,y,z] (.inr "seed")=some y:=λx y z=>rfl;have L:∀x y z,gh yD [x,y,z] (.inr "drawn")=some z:=λx y z=>rfl;have p3:∀x y z d,ja yD [x,y,z] (.inr "drawn") d=.dct yD [x,y,d]:=λx y z d=>rfl;push_cast[Jc,Ja,Z,D.dct.injEq];refine⟨_,L _ _ _,?_⟩;push_cast[true_and];refine⟨p,rfl,_,_,U,by simp,?_⟩;rw[p3];have e1:d+1=((d+1:Nat):Int):=by lia
  rw[e1];have j:=aX (o':=some (.dct yD [.int l,.int sd,.int ((d+1:Nat):Int)])) U;have fd:Fd (n+1) (.dct yD [.int l,.int sd,.int ((d+1:Nat):Int)]):=⟨_,_,_,rfl,Y,X,u,by lia⟩
  have e:aP (S.set p (some (.dct yD [.int l,.int sd,.int ((d+1:Nat):Int)]))) (.loc p)=.dct yD [.int l,.int sd,.int ((d+1:Nat):Int)]:=by simp only[aP,j];rfl
  generalize G:S.set p (some (.dct yD [.int l,.int sd,.int ((d+1:Nat):Int)]))=S1 at j e⊢;refine⟨_,_,e,_,W _ _ _,?_⟩;push_cast[true_and];have v:∀t:Int,∃y:Nat,t % m=y/\y<m:=λt=>⟨(t % m).toNat,by have:=zcf t (show(m:Int)≠0 by lia);lia,by have:=zaZ t (show 0<(m:Int) by lia);lia⟩
  refine gg (λh=>?_) (λh=>?_)
  ·refine⟨_,_,e,_,W _ _ _,?_⟩;push_cast[true_and];refine⟨by lia,_,_,e,_,W _ _ _,?_⟩;push_cast[true_and];refine⟨⟨by lia,by lia⟩,p,rfl,_,_,j,by simp,?_⟩;rw[<-G,zcB];let⟨y,O,i⟩:=v l;rw[O];have I:Fd (n+1) (.dct yD [.int (l / m),.int sd,.int ((d+1:Nat):Int)]):=⟨_,_,_,rfl,Int.ediv_nonneg Y (by lia),X,u,by lia⟩
   exact cQ rfl (I.ia _) (q y _ i I)
  ·refine⟨_,_,e,_,g2 _ _ _,?_⟩;refine⟨_,_,e,_,L _ _ _,_,_,e,_,L _ _ _,?_⟩;push_cast[k7];have b0:=zcf ((sd+1)*(((d+1:Nat):Int)*((d+1:Nat):Int)+48271)) (show(65537:Int)≠0 by decide);have b1:=zaZ ((sd+1)*(((d+1:Nat):Int)*((d+1:Nat):Int)+48271)) (show(0:Int)<65537 by decide);refine⟨.inl ⟨by lia,by lia⟩,.inl ⟨by lia,by lia⟩,by decide,?_⟩;generalize ((sd+1)*(((d+1:Nat):Int)*((d+1:Nat):Int)+48271)) % 65537=one at b0 b1⊢;refine⟨.inl ⟨by lia,by lia⟩,_,_,e,_,L _ _ _,?_⟩;push_cast[k7];refine⟨.inl ⟨by decide,by decide⟩,by decide,?_⟩;have c0:=zcf (one*one+30269*((d+1:Nat):Int)) (show(65521:Int)≠0 by decide);have c1:=zaZ (one*one+30269*((d+1:Nat):Int)) (show(0:Int)<65521 by decide);generalize (one*one+30269*((d+1:Nat):Int)) % 65521=two at c0 c1⊢;refine⟨.inl ⟨by lia,by lia⟩,.inl ⟨by decide,by decide⟩,by decide,by lia,?_⟩;let⟨y,O,i⟩:=v ((two*two+40503*one) % 65519);rw[O,<-G];exact cQ rfl (fd.ia S.length) (q y _ i fd)
end
open PySem L2 M M6
noncomputable abbrev yo:List Str:=["_law_feed_here","_law_many","_law_letters","_law_word","_law_way","_law_turn","_law_names_here","_law_place","_law_start","_law_k","_law_sign"]
noncomputable abbrev ji:=yo.take 2
def cW:aE yo ji (aj (top 32)):=L2.cy
noncomputable def xx(c:Nat):Bool:=(decide (97<=c)&&decide (c<=122))||decide (c=42)
def rj(x:Str):Prop:=∀c∈x.cps.toList,xx c=true
def rj.append(h:rj x)(g:rj y):rj (x++y):=λc a=>by
 have e:(x++y).cps.toList=x.cps.toList++y.cps.toList:=by show(x.cps++y.cps).toList=_;simp
 rw[e,zbQ] at a;exact a.elim (h c) (g c)
noncomputable def We(x:Str):Bool:=x.cps.toList.all xx
def gf(h:We x=true):rj x:=λc a=>zbC.mp h c a
def yT(h:rj y):rj (Txt.slice y d g):=by
 unfold Txt.slice;split
 ·exact h
 ·intro c a;let⟨i,_,e⟩:=zaQ.mp a;exact h c (by
   have:y.cps.toList[i]? =some c:=by simp_all
   exact zaC this)
theorem BX:∀a:List Str,(∀y∈a,y.length=1/\rj y)->(Str.join "" a).length=a.length/\rj (Str.join "" a)
 |[],_=>⟨rfl,λc j=>absurd j (by simp[Str.join,Str.empty])⟩
 |[y],h=>⟨(h y (by simp)).1,(h y (by simp)).2⟩
 |y::z::r,h=>by
  let⟨h1,h2⟩:=BX (z::r) λx i=>h x (zaz _ i);let⟨m,l⟩:=h y (by simp);have e:Str.join "" (y::z::r)=y++""++Str.join "" (z::r):=rfl;rw[e];refine⟨?_,(l.append (gf (by rfl))).append h2⟩;rw[strLen_append,strLen_append,h1,m];show 1+0+_=_;simp;lia
def GU(h:xx g=true):(⟨#[g]⟩:Str).length=1/\rj ⟨#[g]⟩:=⟨rfl,λd hd=>by
 simp_all⟩
theorem A5:∀a:List Str,(∀y∈a,y.length=1/\rj y)->(a.map (·.length)).sum=a.length
 |[],_=>rfl
 |y::r,h=>by
  rw[zcq,List.sum_cons,A5 r λx e=>h x (zaz _ e),(h y (by simp)).1,zby];lia
noncomputable abbrev RL:Str:="abcdefghijklmnopqrstuvwxyz"
def Lq:RL.length=26:=by rfl
def Lr:rj RL:=gf (by rfl)
def Hw(h:k<26):∃c,RL.cps.toList[k]? =some c/\xx c=true:=by
 have a:RL.cps.toList.length=26:=by rfl
 refine⟨RL.cps.toList[k]'(by lia),zak _,Lr _ (zbJ _)⟩
def yS(i:d<=g)(j:g<=x.length):(Txt.slice x (some (d:Int)) (some (g:Int))).length=g - d:=by
 unfold Txt.slice;have l:(Builtin.Str.strSliceIndices (some d) (some g) 1 x.length).length=g - d:=by rw[PySem.StrLaws.strSliceIndices_plain i j];simp
 split
 ·simp_all
 ·show((Builtin.Str.strSliceIndices (some d) (some g) 1 x.length).filterMap (x.cps[·]?)).toArray.size=_;rw[zbf,PySem.StrLaws.sliced_plain x i j,zbz,zbA,zaN];have:x.cps.size=x.length:=rfl;lia
def Bh:Txt.slice x none (some d)=Txt.slice x (some ((0:Nat):Int)) (some d):=by
 rfl
def Nm.mk(h:rj x)(l:x.length<=8):Nm x:=by
 unfold Nm Qg;rw[zbN,zbC];exact⟨h,yDt l⟩
theorem kL(h:k<=n):HT.cC n d (some (k:Int))=k:=by
 rw[HT.kL];lia
def Ij{e:Type}{a:List e}(h:k<=a.length):cutD a (some (k:Int)) none=a.drop k:=by
 unfold M.cutD;rw[kL h];show(a.drop k).take (a.length - k)=_;rw[zao (by simp)]
def qJ{e:Type}{a:List e}(h:k<=a.length):cutD a none (some (k:Int))=a.take k:=by
 unfold M.cutD;rw[kL h];rfl
theorem Cr{e:AE}{R:D->Prop}{c p N:Nat}{S:aA}{Q:List D->aA->Prop}{δ:bh}:∀(j a:List D)(i:bh)(n:Nat)(o:MO),i.set 0 none=δ.set 0 none->
  (∀x∈j,∀(n:Nat)(o:MO)(Q:AK),Fd n o->n+c<=N->(∀(d:D)(o':MO),R d->Fd (n+c) o'->Q (.dat d) (S.set p (some o')))->e (δ.set 0 (some x)) (S.set p (some o)) Q)->
  Fd n o->n+c*j.length<=N->(∀d∈a,R d)->a.length+j.length<=yag->
  (∀(ds:List D)(o':MO),ds.length=a.length+j.length->(∀d∈ds,R d)->Fd (n+c*j.length) o'->Q ds (S.set p (some o')))->
  bM (λ_=>True) (bE 0) lR e j a i (S.set p (some o)) Q
 |[],a,i,n,o,_,_,ho,_,ha,_,q=>⟨trivial,q _ _ rfl ha (by simpa using ho)⟩
 |x::j,a,i,n,o,hd,h,ho,hn,ha,hl,q=>by
  refine⟨trivial,?_⟩;have E:=by
   have:=congrArg (λl=>l.set 0 (some x)) hd;simpa[zcB] using this
  simp only[bE];rw[E];rw[zby] at hn;simp only[zby] at hl;refine h x (by simp) n o _ ho (by lia) λd o' v t=>⟨by lia,?_⟩
  refine Cr j _ _ (n+c) o' (by simp) (λy u=>h y (by simp[u])) t (by lia) (λz hz=>?_) (by simp only[zaR,List.length_singleton];lia) (λds s h1 h2 C=>q ds s (by simp only[zaR,List.length_singleton] at h1;simp only[zby];lia) h2 (by rw[zby];exact C.mono (by lia)));obtain m|m:=zbQ.mp hz
  ·exact ha z m
  ·rw[zaU.mp m];exact v
theorem sI:∀ns:List Str,bQ (ns.map D.str)=true
 |[]=>rfl
 |n::ns=>by simp only[zcq,bQ,b8,sI ns,zcx]
def oJ{S':aA}{p:Nat}{r:R}{Q:AK}(h:out S.length S' r=some r)(m:Fd n o)(i:S'.take S.length=S.set p (some o))(q:Q r (S.set p (some o))):ret S S' r Q:=by
 refine⟨r,h,λk a j e=>?_,by rw[i];exact q⟩;have l:(S'.take S.length)[k]? =some (some a):=by rw[zaS,yIp j];exact e
 rw[i] at l;exact lP (m.ia _) k a j l
def La(h:bQ ds=true):out n S (.new (.lst ds))=some (.new (.lst ds)):=by
 simp only[out];rw[yIp (show gZ n (.lst ds)=true from dJ n ds h)]
def set_same(h:S[d]? =some g):S.set d g=S:=by
 refine zbm λi=>?_;by_cases e:d=i
 ·subst e;rw[aX h,h]
 ·rw[zaB e]
def ny{e:AE}{R:D->Prop}{c p N:Nat}{Q:List D->aA->Prop}{a:List D}(m:S[p]? =some (some o))(i:Fd n o)(j:n+c*a.length<=N)(l:a.length<=yag)(h:∀x∈a,∀(n:Nat)(o:MO)(Q:AK),Fd n o->n+c<=N->(∀(d:D)(o':MO),R d->Fd (n+c) o'->Q (.dat d) (S.set p (some o')))->e (δ.set 0 (some x)) (S.set p (some o)) Q)(q:∀(ds:List D)(o':MO),ds.length=a.length->(∀d∈ds,R d)->Fd (n+c*a.length) o'->Q ds (S.set p (some o'))):bM (λ_=>True) (bE 0) lR e a [] δ S Q:=by
 have:=Cr a [] δ n o rfl h i j (by simp) (by simp_all) (λds o' h1=>q ds o' (by simp_all));rw[set_same m] at this;exact this
theorem gK{P:Str->Prop}:∀{ds:List D},(∀d∈ds,∃y,d=.str y/\P y)->∃a:List Str,ds=a.map D.str/\∀y∈a,P y
 |[],_=>⟨[],rfl,by simp⟩
 |d::ds,h=>by
  let⟨a,e,i⟩:=gK λx j=>h x (zaz _ j);let⟨y,rfl,py⟩:=h d (by simp);refine⟨y::a,by rw[e];rfl,λz hz=>(zcp.mp hz).elim (λe=>e▸py) (i z)⟩
def dX(j:S[d]? =some g)(h:Fd n o)(i:n<1000000)(h0:0<m)(h1:m<1000)(k:∀(z:Nat)(o':MO),z<m->Fd (n+1) o'->q (.dat (.int z)) (S.set d (some o'))):cZ [.loc d,.int m] (S.set d (some o)) q:=
 ⟨d,n,m,o,rfl,aX j,h,i,h0,h1,λz o' a b=>by rw[zcB];exact k z o' a b⟩
section
variable {w:yak}
def A8:AN:=λh S Q=>∃(p n m:Nat)(o:MO),h=[.loc p,.int m]/\S[p]? =some (some o)/\Fd n o/\n<900000/\m<=8/\∀(a:List Str)(e:MO),a.length=m->(∀y∈a,Nm y)->Fd (n+12) e->Q (.new (.lst (a.map D.str))) (S.set p (some e))
def L0(T:Txt K mg C fi)(F:Src K mg "_law_names" ji (top 32))(a:Def P w K mg base 1 "_law_next" ck (av K cZ)):Def P w K mg base 2 "_law_names" ji (av K A8):=by
 refine eU F cW (λds S Q h=>?_) (λf cdv A outer s H E l=>?_)
 ·let⟨p,n,m,o,rfl,_⟩:=h;rfl
 ·refine⟨_,(W7 (Xd 2 cW.nd Xe) (W7 (Xd 3 cW.nd (XC PySem.F.plainAttrs_str PySem.F.slot_str_join PySem.F.type_str_join M.Ql Xe (W6 (XE ["_law_k","_law_letters","_law_feed_here"] [none,some 2,some 0] (XY (by rfl) T.range (W8 Xc)) (λ_ _ _ _=>XF) (λ_ _ _ _=>(Xs (W5 1) (Xh a l (W6 (W5 2) (W8 Xc)))))) Xa))) (W7 (Xd 4 cW.nd (Xh a l (W6 (W5 0) (W8 Xc)))) (W7 (Xd 5 cW.nd (Xh a l (W6 (W5 0) (W8 Xc)))) (W7 (Xk (Xi (Xm l) (W5 4) Xc (aF _)) (W9 (M.iO (i:=6) cW.nd rfl rfl (caps:=[none,some 3]) (qP (by rfl)) (by rfl) (by rfl) rfl (XY (by rfl) T.range (W8 Xc)) (λ_ _ _ _=>(M.fj (i:=0) (by decide+kernel:List.Nodup (["_law_k","_law_word"]:List Str)) rfl (Or.inl rfl))) (λ_ _ _ _=>XF) (λ_ _ _ _=>(XW XX (W5 1) XZ (XJ (Xf Xq (W5 0) Xc)))))) (W9 (Xk (Xi (Xm l) (W5 4) Xc (aF _)) (W9 (Xd 6 cW.nd (Xu (Xp (W6 Xe (W6 Xe (W6 Xe (W6 Xe (W6 Xe (W6 Xe (W6 Xe (W8 Xe)))))))))))) (W7 (Xd 7 cW.nd (Xh a l (W6 (W5 0) (W6 (Xf Xq (W5 5) Xc) Xa)))) (W7 (Xd 8 cW.nd (Xh a l (W6 (W5 0) (W8 Xc)))) (W7 (Xd 6 cW.nd (Xu (Xp Xa))) (W9 (Xw PassesOwn.never rfl (XY (by rfl) T.range (W8 Xc)) (Xn 9 cW.nd) (W7 (Xd 10 cW.nd (Xs (W5 2) (Xf XS (Xf Xq (W5 8) (Xf XT Xc (W5 9))) Xc))) (W9 (Xv (XC PySem.F.plainAttrs_list PySem.F.slot_list_append PySem.F.type_list_append X7 (W5 6) (W6 (Xf Xq (Xf Xq (XW XX (W5 3) XZ (XJ (W5 7))) (W5 10)) (XW XX (W5 3) (XJ (Xf Xq (W5 7) Xc)) (XJ (Xf Xq (W5 5) Xc)))) Xa))))))))))))) (W9 (Xj (XW XX (Xf Xq (XW XX (W5 6) (XJ (W5 5)) XZ) (XW XX (W5 6) XZ (XJ (W5 5)))) XZ (XJ (W5 1)))))))))),λds S Q h=>?_⟩;let⟨p,n,m,o,rfl,U,ho,hn,m8,q⟩:=h;have e0:aJ yo [.loc p,.int m]=[some (.loc p),some (.int m),none,none,none,none,none,none,none,none,none]:=rfl;rw[e0];push_cast[CL,cU,n8];refine⟨rfl,by decide,by decide,?_⟩;show bM _ _ _ _ ((zcX 8).map λk:Nat=>D.int (0+k)) _ [none,some (.str RL),some (.loc p)] _ _;refine ny (N:=999990) (R:=λd=>∃y:Str,d=.str y/\y.length=1/\rj y) U ho (by show n+1*8<=_;lia) (by rw[yaf];show 8<=_;lia) (λx hx n o Q ho hn q=>?_) (λds o1 G I ho1=>?_)
  ·push_cast[zaW];refine dX U ho (by lia) (by decide) (by decide) λz o' hz ho'=>?_;let⟨c,hc,v⟩:=Hw hz;refine⟨by show 26<=_;rw[yaf];lia,c,cL hc,q _ _ ⟨_,rfl,GU v⟩ ho'⟩
  let⟨W,rfl,Z⟩:=gK I;have G:W.length=8:=by rw[zbR] at G;exact G
  have ho1:Fd (n+8) o1:=ho1;let⟨w1,w2⟩:=BX W Z;refine⟨_,_,W,rfl,rfl,rfl,by rw[A5 W Z,G];decide,?_⟩;have ej:Txt.join "" W=Str.join "" W:=PySem.StrLaws.glued_eq_join _ _;rw[ej];generalize Str.join "" W=wd at w1 w2;refine dX U ho1 (by lia) (by decide) (by decide) λwy o2 hwy ho2=>?_;refine dX U ho2 (by lia) (by decide) (by decide) λtn o3 htn ho3=>?_;push_cast[true_and];have FN:∀(o:MO)(L:List D),aP (S.set p (some o)++[some (.lst L)]) (.loc S.length)=.lst L:=λo L=>by
   have h:(S.set p (some o)++[some (.lst L)])[S.length]? =some (some (.lst L)):=by simp
   simp only[aP,h];rfl
  have fin:∀(Y:MO)(e:List Str)(n4:Nat),Fd n4 Y->n4<=n+12->e.length=8->(∀y∈e,Nm y)->yc (.loc S.length) (some tn) none (S.set p (some Y)++[some (.lst (e.map D.str))]) (λx S1=>yc (.loc S.length) none (some tn) S1 λy S2=>rQ x.d y.d S2 λx S1=>yc x.d none (some m) S1 λr S'=>XD S S' r Q):=by
   intro Y e n4 u hn4 G hz;unfold yc;simp only[FN];push_cast[true_and];have hl2:(e.map D.str).length=8:=by rw[zbR,G]
   rw[Ij (by lia),qJ (by lia)];refine⟨by rw[zbA,zbz,yaf];lia,?_⟩;have e4:(e.map D.str).drop tn++(e.map D.str).take tn=(e.drop tn++e.take tn).map D.str:=by simp
   have O:(e.drop tn++e.take tn).length=8:=by rw[zaR,zbA,zbz];lia
   rw[e4,qJ (by rw[zbR];lia),<-zct];refine oJ (La (sI _)) u (by simp) (q _ Y (by rw[zbz];lia) (λy j=>?_) (u.mono hn4));have j:=zaF j;obtain j|j:=zbQ.mp j
   ·exact hz y (List.mem_of_mem_drop j)
   ·exact hz y (zaF j)
  refine gg (λh=>?_) (λh=>gg (λh=>?_) (λh=>?_))
  ·push_cast[bF,cU,n8];refine⟨by decide,by decide,?_⟩;show bM _ _ _ _ ((zcX 8).map λk:Nat=>D.int (0+k)) _ [none,some (.str wd)] _ _;refine ny (c:=0) (N:=999990) (R:=λd=>∃y:Str,d=.str y/\Nm y) (aX U) ho3 (by lia) (by rw[yaf];show 8<=_;lia) (λx hx n o Q ho hn q=>?_) (λds Y G I u=>?_)
   ·let⟨k,hk,rfl⟩:=zcD.mp hx;have hk:=zcj.mp hk;push_cast[zaW];rw[show(0+k+1)=((k+1:Nat):Int) by lia];exact⟨by rw[yaf];lia,q _ _ ⟨_,rfl,Nm.mk (yT w2) (by rw[Bh,yS (zcT _) (by lia)];lia)⟩ ho⟩
   ·let⟨e,rfl,hz⟩:=gK I;rw[zbR] at G;rw[zcB,zcb];exact fin Y e _ u (by lia) G hz
  ·push_cast[bF];refine⟨sz rfl,?_⟩;rw[zcb];exact fin o3 ["on","back","at","off","stay","many","then","either"] _ ho3 (by lia) rfl (by
    have:(["on","back","at","off","stay","many","then","either"]:List Str).all Qg=true:=by rfl
    exact λy j=>zbC.mp this y j)
  ·refine dX U ho3 (by lia) (by lia) (by lia) λpl Y hpl u=>?_;refine dX U u (by lia) (by decide) (by decide) λst o5 hst ho5=>?_;push_cast[fP,n8];refine⟨zcT _,by decide,by decide,?_⟩;rw[zcb];refine aW (λrest δ S'=>∃(e:List Str)(v9 X:Option D),δ=[some (.loc p),some (.int m),some (.str RL),some (.str wd),some (.int wy),some (.int tn),some (.loc S.length),some (.int pl),some (.int st),v9,X]/\S'=S.set p (some o5)++[some (.lst (e.map D.str))]/\rest=((zcX 8).drop e.length).map (λk:Nat=>D.int (0+k))/\e.length<=8/\∀y∈e,Nm y) ?_ ?_ _ _ _ ⟨[],none,none,rfl,rfl,rfl,by decide,by simp⟩
   ·intro δ S' V;let⟨e,v9,X,rfl,rfl,l,hle,hz⟩:=V;have O:e.length=8:=by
     have:=congrArg zcR l;simp at this;lia
    push_cast[true_and];exact fin o5 e _ ho5 (by lia) O hz
   ·intro t rest δ S' N' V hN';let⟨e,v9,X,rfl,rfl,l,hle,hz⟩:=V;have hi:e.length<8:=by
     grind
    rw[zag (by simp_all),zaV] at l;injection l with e1 e2;subst e1;subst e2;push_cast[CL,k7];rw[show(st+5*(0+e.length)) % 26=(((st+5*e.length) % 26:Nat):Int) by lia];let⟨c,hc,v⟩:=Hw (zcY (st+5*e.length) (show 0<26 by decide));refine⟨.inl ⟨by decide,by decide⟩,by decide,by show 26<=_;rw[yaf];lia,c,cL hc,?_⟩;refine⟨by rw[FN];rfl,by rw[yaf];lia,?_⟩;have l1:(Txt.slice wd none (some pl)).length=pl:=by rw[Bh,yS (zcT _) (by lia)];rfl
    have l2:(Txt.slice wd (some ((pl+1:Nat):Int)) (some ((tn+1:Nat):Int))).length=tn+1 - (pl+1):=yS (by lia) (by lia);have l3:((Txt.slice wd none (some pl)++(⟨#[c]⟩:Str))++Txt.slice wd (some ((pl+1:Nat):Int)) (some ((tn+1:Nat):Int))).length<=8:=by
     rw[strLen_append,strLen_append,l1];show pl+1+_<=8;lia
    refine⟨by rw[l1];show pl+1<=_;rw[yaf];lia,by rw[yaf];lia,by rw[<-strLen_append,yaf];lia,S.length,e.map D.str,_,rfl,rfl,by simp,by rw[zbR,yaf];lia,?_⟩;rw[zaw _ _ (by simp),zcb,zcL];refine hN' _ _ ⟨e++[(Txt.slice wd none (some pl)++(⟨#[c]⟩:Str))++Txt.slice wd (some ((pl+1:Nat):Int)) (some ((tn+1:Nat):Int))],_,_,rfl,by rw[zbZ];rfl,by rw[zaR];rfl,by rw[zaR];exact hi,λy j=>?_⟩;obtain j|j:=zbQ.mp j
    ·exact hz y j
    ·rw[zaU.mp j];exact Nm.mk (((yT w2).append (GU v).2).append (yT w2)) l3
end
open PySem L2 M M6
noncomputable abbrev yr:List Str:=["_law_feed_here","_law_names_here","_law_way","_law_word"]
noncomputable abbrev fQ:=yr.take 2
def uv:aE yr fQ (aj (top 33)):=L2.cy
noncomputable abbrev vZ:Stmt:=top 34
noncomputable abbrev CQ:List Str:=["_law_feed_here","_law_names_here","_law_deep","_law_way","_law_many","_law_parts"]
noncomputable abbrev ee:=CQ.take 3
def pL:aE CQ ee (aj vZ):=L2.cy
structure JH where
 ks:List Str
 ws:List Str
 ms:List Str
 k5:ks.length=5
 w3:ws.length=3
 m3:ms.length=3
 nk:∀y∈ks,Nm y
 nw:∀y∈ws,Nm y
 nm:∀y∈ms,Nm y
noncomputable def JH.d(n:JH):D:=.lst [.lst (n.ks.map D.str),.lst (n.ws.map D.str),.lst (n.ms.map D.str)]
noncomputable def Ce:Nat->Nat
 |0=>4
 |k+1=>2+3*Ce k
noncomputable def cap:Nat->Nat
 |0=>1
 |k+1=>3*cap k+1
theorem Cu:∀k,1<=cap k
 |0=>zcS _
 |k+1=>by simp only[cap];lia
theorem Uv:∀k,4<=Ce k
 |0=>zcS _
 |k+1=>by have:=Uv k;simp only[Ce];lia
def p7(h:z<ss.length)(k:∀e∈ss,d (.dat (.str e)) S):mH (.lst (ss.map D.str)) (.int z) S d:=
 pick (by rwa [zbR]) λe i=>by
  let⟨y,a,rfl⟩:=zcD.mp i;exact k y a
theorem uU{i:Type}{f:i->D}{P:i->Prop}:∀{ds:List D},(∀d∈ds,∃y,d=f y/\P y)->∃a:List i,ds=a.map f/\∀y∈a,P y
 |[],_=>⟨[],rfl,by simp⟩
 |d::ds,h=>by
  let⟨a,e,j⟩:=uU λx l=>h x (zaz _ l);let⟨y,rfl,py⟩:=h d (by simp);refine⟨y::a,by rw[e];rfl,λz hz=>(zcp.mp hz).elim (λe=>e▸py) (j z)⟩
theorem GY:∀{ps:List Pt},(∀x∈ps,oc x<=d)->iT ps<=ps.length*d
 |[],_=>by simp[iT]
 |p::ps,h=>by
  have h1:=h p (by simp);have h2:=GY λx a=>h x (zaz _ a);simp only[iT,zby];lia
theorem HZ:∀{ps:List Pt}{j:Nat},(∀x∈ps,dp x<=j)->xK ps<=j
 |[],j,_=>zcT _
 |p::ps,j,h=>by
  have h1:=h p zaP;have h2:=HZ λx a=>h x (zaz _ a);simp only[xK];lia
theorem BL:∀{ps:List Pt},(∀x∈ps,fB x)->mF ps
 |[],_=>trivial
 |p::ps,h=>⟨h p (by simp),BL λx a=>h x (zaz _ a)⟩
section
variable {w:yak}
def kH:AN:=λe S Q=>∃(p n:Nat)(N:JH)(o:MO),e=[.loc p,N.d]/\S[p]? =some (some o)/\Fd n o/\n<900000/\∀(l:Lf)(a:MO),rV l->Fd (n+3) a->Q (.dat (lD l)) (S.set p (some a))
def L4(T:Txt K mg C fi)(F:Src K mg "_law_leaf" fQ (top 33))(a:Def P w K mg base 1 "_law_next" ck (av K cZ)):Def P w K mg base 2 "_law_leaf" fQ (av K kH):=by
 refine eU F uv (λds S Q h=>?_) (λf cdv A outer s H E u=>?_)
 ·let⟨p,n,N,o,rfl,_⟩:=h;rfl
 ·refine⟨_,(W7 (Xd 2 uv.nd (Xh a u (W6 (W5 0) (W8 Xc)))) (W7 (Xk (Xi (Xm u) (W5 2) Xc (aF _)) (W9 (Xj (Xg (W8 Xe)))) Xl) (W7 (Xk (Xi M.G2 (W5 2) Xc (aF _)) (W9 (Xj (Xg (W6 (Xs (Xp (W6 Xe (W8 Xe))) (Xf M.wL (W5 2) Xc)) (W6 (Xs (Xb (W5 1)) (Xh a u (W6 (W5 0) (W6 (Xo Xz T.len (W6 (Xb (W5 1)) Xa)) Xa)))) Xa))))) Xl) (W7 (Xd 3 uv.nd (Xs (Xf Xq (Xp (W8 Xe)) (Xb (W5 1))) (Xh a u (W6 (W5 0) (W6 (Xf Xq Xc (Xo Xz T.len (W6 (Xb (W5 1)) Xa))) Xa))))) (W9 (Xj (Xg (W6 Xe (W6 (Xs (Xp (W6 Xe (W6 Xe (W8 Xe)))) (Xh a u (W6 (W5 0) (W8 Xc)))) (W8 (W5 3))))))))))),λds S Q h=>?_⟩;let⟨p,n,N,o,rfl,I,ho,hn,q⟩:=h;have e0:aJ yr [.loc p,N.d]=[some (.loc p),some N.d,none,none]:=rfl;rw[e0];push_cast[true_and];have t:∀(l:Lf)(L:MO)(O:Nat),rV l->Fd O L->O<=n+3->XD S (S.set p (some L)) (.dat (lD l)) Q:=λl L O hl v X=>cQ (zV l) (v.ia _) (q l L hl (v.mono X));refine⟨p,n,8,o,rfl,I,ho,by lia,by decide,by decide,λz o1 hz j=>?_⟩;push_cast[true_and];refine gg (λ_=>⟨sz rfl,t .stay o1 _ trivial j (by lia)⟩) (λh0=>?_);refine gg (λh1=>?_) (λh1=>?_)
  ·rw[show z - 1=((z - 1:Nat):Int) by lia];refine⟨sz rfl,pick (by show z - 1<2;lia) λe G=>?_⟩;obtain⟨c,rfl⟩:∃c,e=.str (JS c):=by
    simp only[zcp,zbL,or_false] at G;obtain rfl|rfl:=G
    ·exact⟨true,rfl⟩
    ·exact⟨false,rfl⟩
   refine⟨_,at2,_,at2,N.ms.length,by show some _=_;rw[zbR],dX I j (by lia) (by rw[N.m3];decide) (by rw[N.m3];decide) λy Y Z i=>?_⟩;exact p7 Z λm hm=>⟨sz rfl,t (.mk c m) Y _ (N.nm m hm) i (by lia)⟩
  ·refine⟨sz rfl,_,cS,⟨by rw[zbR,N.w3];exact sz rfl,_,cS,N.ws.length,by show some _=_;rw[zbR],?_⟩⟩;refine dX I j (by lia) (by lia) (by rw[N.w3];decide) λy Y Z i=>?_;show mH (.lst ((("*":Str)::N.ws).map D.str)) _ _ _;refine p7 (by rw[zby];lia) λx U=>⟨sz rfl,dX I i (by lia) (by decide) (by decide) λz3 o3 hz3 W=>pick (by show z3<3;omega) λe G=>?_⟩
   obtain⟨c,rfl⟩:∃c,e=.str (side c):=by
    simp only[zcp,zbL,or_false] at G;obtain rfl|rfl|rfl:=G
    ·exact⟨true,rfl⟩
    ·exact⟨true,rfl⟩
    ·exact⟨false,rfl⟩
   refine⟨sz rfl,t (.step c x) o3 _ ?_ W (by lia)⟩;obtain rfl|U:=zcp.mp U
   ·rfl
   ·exact N.nw x U
def t8(k:Nat):AN:=λe S Q=>∃(p n:Nat)(N:JH)(o:MO),e=[.loc p,N.d,.int k]/\S[p]? =some (some o)/\Fd n o/\n+Ce k<900000/\∀(x:Pt)(a:MO),fB x->oc x<=cap k->dp x<=k->Fd (n+Ce k) a->Q (.dat (tD x)) (S.set p (some a))
def Ck(T:Txt K mg C fi)(F:Src K mg "_law_pattern" ee vZ)(i:Def P w K mg base 1 "_law_next" ck (av K cZ))(dc:Def P w K mg base 2 "_law_leaf" fQ (av K kH))(k:Nat)(hk:k<=4)(e:Def P w K mg base (k+2) "_law_pattern" ee (av K (λds S Q=>∃j,k=j+1/\t8 j ds S Q))):
  Def P w K mg base (k+3) "_law_pattern" ee (av K (t8 k)):=by
 refine eU F pL (λds S Q h=>?_) (λf cdv A outer s H E X=>?_)
 ·let⟨p,n,N,o,rfl,_⟩:=h;rfl
 ·refine⟨_,(W7 (Xd 3 pL.nd (Xy i (X.mono (by lia)) (by rfl) (W6 (W5 0) (W8 Xc)))) (W7 (Xk (Yb (YD (Xi (Xm X) (W5 2) Xc (aF _)) (YE (Xi M.G2 (W5 3) Xc (aF _))))) (W9 (Xj (Xy dc (X.mono (by lia)) (by rfl) (W6 (W5 0) (W8 (W5 1)))))) Xl) (W7 (Xk (Xi M.G2 (W5 3) Xc (aF _)) (W9 (Xj (Xg (W6 Xe (W6 (Xy e (X.mono (by lia)) (by rfl) (W6 (W5 0) (W6 (W5 1) (W6 (Xf M.wL (W5 2) Xc) Xa)))) Xa))))) Xl) (W7 (Xd 4 pL.nd (Xs (Xp (W6 Xc (W6 Xc (W6 Xc (W6 Xc (W6 Xc (W8 Xc))))))) (Xy i (X.mono (by lia)) (by rfl) (W6 (W5 0) (W8 Xc))))) (W7 (Xd 5 pL.nd (XI M.jB T.tuple (W6 (XE ["_law_k","_law_feed_here","_law_names_here","_law_deep"] [none,some 0,some 1,some 2] (XY (by rfl) T.range (W8 (W5 4))) (λ_ _ _ _=>XF) (λ_ _ _ _=>(Xy e (X.mono (by lia)) (by rfl) (W6 (W5 1) (W6 (W5 2) (W6 (Xf M.wL (W5 3) Xc) Xa)))))) Xa))) (W9 (Xj (Xg (W6 (Xs (Xp (W6 Xe (W8 Xe))) (Xf XS (W5 3) Xc)) (W8 (W5 5))))))))))),λds S Q h=>?_⟩;let⟨p,n,N,o,rfl,Y,ho,hn,q⟩:=h;have e0:aJ CQ [.loc p,N.d,.int k]=[some (.loc p),some N.d,some (.int k),none,none,none]:=rfl;rw[e0];have d4:=Uv k;have u:∀(x:Pt)(v:MO)(n':Nat),fB x->oc x<=cap k->dp x<=k->Fd n' v->n'<=n+Ce k->XD S (S.set p (some v)) (.dat (tD x)) Q:=λx v n' L hc hd t hn'=>cQ (mL x) (t.ia _) (q x v L hc hd (t.mono hn'));push_cast[true_and];refine⟨p,n,8,o,rfl,Y,ho,by lia,by decide,by decide,λz o1 hz W=>?_⟩;have I:kH [D.loc p,N.d] (S.set p (some o1)) λr S'=>XD S S' r Q:=by
   refine⟨p,n+1,N,o1,rfl,aX Y,W,by lia,λl v L t=>?_⟩;rw[zcB];exact u (.lf l) v _ L (Cu k) (zcT _) t (by lia)
  push_cast[true_and];refine gg (λ_=>I) (λhk0=>gg (λ_=>I) (λ_=>?_));obtain⟨j,rfl⟩:∃j,k=j+1:=⟨k - 1,by lia⟩
  have ed:Ce (j+1)=2+3*Ce j:=rfl;have ec:cap (j+1)=3*cap j+1:=rfl;have c2:=Cu j;rw[show(((j+1:Nat):Int) - 1)=j by lia];refine gg (λ_=>?_) (λ_=>?_)
  ·refine⟨j,rfl,p,n+1,N,o1,rfl,aX Y,W,by lia,λx v G hc hd t=>⟨sz rfl,?_⟩⟩;rw[zcB];exact u (.many x) v _ G (by simp only[oc];lia) (by simp only[dp];lia) t (by lia)
  ·push_cast[cU,n8,yb];refine⟨sz rfl,dX Y W (by lia) (by decide) (by decide) λy o2 hy ho2=>pick (by show y<6;omega) λm hm=>?_⟩;obtain⟨mm,rfl,Z⟩:∃mm:Nat,m=.int mm/\mm<=3:=by
    simp only[zcp,zbL,or_false] at hm;obtain rfl|rfl|rfl|rfl|rfl|rfl:=hm
    ·refine⟨2,rfl,by decide⟩
    ·refine⟨1,rfl,by decide⟩
    ·refine⟨3,rfl,by decide⟩
    ·refine⟨0,rfl,by decide⟩
    ·refine⟨2,rfl,by decide⟩
    ·refine⟨2,rfl,by decide⟩
   refine⟨mm,rfl,by lia,by lia,?_⟩;show bM _ _ _ _ ((zcX mm).map λk:Nat=>D.int (0+k)) _ [none,some (.loc p),some N.d,some (.int ((j+1:Nat):Int))] _ _;have L:((zcX mm).map λk:Nat=>D.int (0+k)).length=mm:=by simp
   have hmd:Ce j*mm<=Ce j*3:=Nat.mul_le_mul_left _ Z;refine ny (c:=Ce j) (N:=n+2+3*Ce j) (R:=λd=>∃x:Pt,d=tD x/\fB x/\oc x<=cap j/\dp x<=j) (aX Y) ho2 (by lia) (by rw[yaf];lia) (λx G n o Q ho hn q=>?_) (λds o3 hl2 hds U=>?_)
   ·push_cast[zaW];rw[show(((j+1:Nat):Int) - 1)=j by lia];refine⟨j,rfl,p,n,N,o,rfl,aX (aX Y),ho,by lia,λx v G hc hd t=>?_⟩;rw[zcB];exact q _ v ⟨x,rfl,G,hc,hd⟩ t
   ·let⟨ps,rfl,O⟩:=uU hds;rw[zcB];have hoc:iT ps<=mm*cap j:=by have:=GY λx G=>(O x G).2.1;simp_all
    have hm3:mm*cap j<=3*cap j:=zaG _ Z;have hdp:=HZ λx G=>(O x G).2.2;have hok:=BL λx G=>(O x G).1;refine⟨sz rfl,by decide,pick (by show z % 2<2;lia) λa ha=>⟨sz rfl,?_⟩⟩;simp only[zcp,zbL,or_false] at ha;obtain rfl|rfl:=ha
    ·have:=u (.seq ps) o3 _ hok (by simp only[oc];lia) (by simp only[dp];lia) U (by lia);rw[tD,cF] at this;exact this
    ·have:=u (.alt ps) o3 _ hok (by simp only[oc];lia) (by simp only[dp];lia) U (by lia);rw[tD,cF] at this;exact this
def LU(F:Src K mg "_law_pattern" ee vZ)(h:∀ds S Q,¬sp ds S Q):Def P w K mg base (k+1) "_law_pattern" ee (av K sp):=
 F.def pL (λvs H Q E z=>by let⟨_,_,_,_,_,_,q,_⟩:=z;simp_all) λf a A outer s H vs Q E e z=>by let⟨_,_,_,_,_,_,q,_⟩:=z;exact(h _ _ _ q).elim
def QN(T:Txt K mg C fi)(F:Src K mg "_law_pattern" ee vZ)(a:Def P w K mg base 1 "_law_next" ck (av K cZ))(l:Def P w K mg base 2 "_law_leaf" fQ (av K kH))(k:Nat)(h:k<=4):Def P w K mg base (k+3) "_law_pattern" ee (av K (t8 k)):=by
 induction k with
 |zero=>exact Ck T F a l 0 h (LU F λi S Q ⟨j,e,_⟩=>by lia)
 |succ k ih=>exact Ck T F a l (k+1) h ((ih (by lia)).imp λvs H Q E z=>by
   let⟨w,i,S,m,ok,rep,⟨j,e,q⟩,bk⟩:=z;obtain rfl:j=k:=by lia
   refine⟨w,i,S,m,ok,rep,q,bk⟩)
end
open PySem L2 M M6
noncomputable abbrev wc:Stmt:=top 35
noncomputable abbrev CU:List Str:=["_law_feed_here","_law_pattern_here","_law_found","_law_k","_law_part"]
noncomputable abbrev ef:=CU.take 3
def ur:aE CU ef (aj wc):=L2.cy
mutual
noncomputable def rJ:Pt->Nat
 |.lf _=>0
 |.many p=>1+3*rJ p
 |.seq ps=>ql ps
 |.alt ps=>1+ql ps
noncomputable def ql:List Pt->Nat
 |[]=>0
 |p::ps=>rJ p+ql ps
end
theorem k9:∀{ps:List Pt}{p:Pt},p∈ps->rJ p<=ql ps
 |q::ps,p,h=>by
  simp only[ql];obtain rfl|h:=zcp.mp h
  ·lia
  ·have:=k9 h;lia
noncomputable def T2(S:aA)(p q:Nat)(o:MO)(a:List Lf):aA:=(S.set p (some o)).set q (some (.lst (a.map lD)))
def T2l:(T2 S d q o g).length=S.length:=by simp[T2]
def WD{p q:Nat}{c:List Lf}(h:q<S.length):(T2 S p q o c)[q]? =some (some (.lst (c.map lD))):=by
 unfold T2;simp_all
def WE{p q:Nat}{c:List Lf}(h:p<S.length)(a:p≠q):(T2 S p q o c)[p]? =some (some o):=by
 unfold T2;grind
def RA(a:d≠q):(T2 S d q o g).set d (some o')=T2 S d q o' g:=by
 unfold T2;rw[List.set_comm _ _ (λe=>a e.symm),zcB]
def WC:(T2 S d q o g).set q (some (.lst (k.map lD)))=T2 S d q o k:=by
 unfold T2;rw[zcB]
def RB(a:d≠q):T2 (T2 S d q o g) d q o' k=T2 S d q o' k:=by
 rw[T2,RA a,WC]
def T2s(h:S[d]? =some (some o))(g:S[q]? =some (some (.lst (k.map lD)))):T2 S d q o k=S:=by
 unfold T2;rw[set_same h,set_same g]
theorem BF:∀a:List Lf,bQ (a.map lD)=true
 |[]=>rfl
 |l::a=>by simp only[zcq,bQ,zV,BF a,zcx]
def mY(l:Fd n o)(k:r (.dat .bx) (T2 S d q o g)):ret S (T2 S d q o g) (.dat .bx) r:=by
 refine⟨_,dW rfl,λi a j e=>?_,by rw[zao (by rw[T2l];simp)];exact k⟩;have s:chg S (S.set d (some o)):=lP (l.ia _);have m:chg (S.set d (some o)) (T2 S d q o g):=lP (show gZ _ (.lst (g.map lD))=true from dJ _ _ (BF g));obtain h|h:=m i a (by simp_all) e
 ·exact s i a j h
 simp_all
def eK(h:∀Q:Bool->aA->Prop,Q false S->d δ S Q)(k:q r δ S):yf d g q r δ S:=h _ (by exact k)
def ki(h:∀Q:Bool->aA->Prop,Q true S->d δ S Q)(k:g r δ S):yf d g q r δ S:=h _ (by exact k)
noncomputable def hdL:Lf->Str
 |.stay=>"stay"
 |.step _ _=>"step"
 |.mk b _=>JS b
noncomputable def hdS:Pt->Str
 |.lf l=>hdL l
 |.many _=>"many"
 |.seq _=>"then"
 |.alt _=>"either"
def B3(x:Pt):∃r,tD x=.tup (.str (hdS x)::r):=by
 cases x with
 |lf l=>cases l<;>exact⟨_,rfl⟩
 |_=>exact⟨_,rfl⟩
def aZ{x:Pt}(h:δ[i]? =some (some (tD x)))(q:g (decide (hdS x=y)) S):aB (lT NS (lT mH (cT i) (aC (.int 0))) (aC (.str y))) δ S g:=by
 let⟨r,e⟩:=B3 x;rw[e] at h;refine⟨_,h,_,e7,_,rfl,q⟩
def Hv(l:Lf):hdL l≠"many"/\hdL l≠"then"/\hdL l≠"either":=by
 cases l with
 |stay=>decide+kernel
 |step=>exact(by decide+kernel:("step":Str)≠"many"/\("step":Str)≠"then"/\("step":Str)≠"either")
 |mk b _=>
  cases b with
  |true=>exact(by decide+kernel:("at":Str)≠"many"/\("at":Str)≠"then"/\("at":Str)≠"either")
  |false=>exact(by decide+kernel:("off":Str)≠"many"/\("off":Str)≠"then"/\("off":Str)≠"either")
def Bj(b:Bool):iu (side b)=true:=by cases b<;>decide+kernel
def G9(b:Bool):iu (JS b)=true:=by cases b<;>decide+kernel
def tU(a:ds.length<=100)(h:∀d∈ds,gn n d=true):gn (n+1) (.tup ds)=true:=by
 simp only[gn,zbN,zbC];exact⟨yDt a,h⟩
def mK(h:iu x=true):gn n (.str x)=true:=by cases n<;>exact h
def tT(h:iu x=true)(g:gn n d=true):gn (n+1) (.tup [.str x,d])=true:=tU (by simp) λe a=>by
 simp only[zcp,zbL,or_false] at a;obtain rfl|rfl:=a
 ·exact mK h
 ·exact g
def Oq(h:iu x=true):gn 1 (.tup [.str x])=true:=tU (by simp) λe a=>by
 simp only[zcp,zbL,or_false] at a;subst a;exact mK h
def vM(h:iu x=true)(h2:iu y=true)(i:iu z=true):gn 1 (.tup [.str x,.str y,.str z])=true:=tU (by simp) λe a=>by
 simp only[zcp,zbL,or_false] at a;obtain rfl|rfl|rfl:=a
 ·exact mK h
 ·exact mK h2
 ·exact mK i
def MI(h:rV d):gn 1 (lD d)=true:=by
 cases d with
 |stay=>rfl
 |step b x=>exact vM (by rfl) (Bj b) h.ok
 |mk b m=>exact tT (G9 b) (mK h.ok)
def MG:∀(k:Nat)(p:Pt),dp p<=k->fB p->oc p<=100->gn (2*k+1) (tD p)=true:=by
 have e:∀k,(∀p,dp p<=k->fB p->oc p<=100->gn (2*k+1) (tD p)=true)->∀a,xK a+1<=k+1->mF a->iT a+1<=100->gn (2*k+2) (.tup (iA a))=true:=λk j a h1 h2 s=>by
  refine tU (by rw[cF,zbR];have:=fW a;lia) λd hd=>?_;rw[cF] at hd;let⟨q,o,rfl⟩:=zcD.mp hd;exact j q (by have:=dZ q o;lia) (eE h2 q o) (by have:=jA q o;lia)
 intro k
 induction k with
 |zero=>
  intro p h i m;cases p with
  |lf l=>exact MI i
  |many p=>simp[dp] at h
  |seq a=>simp[dp] at h
  |alt a=>simp[dp] at h
 |succ k j=>
  intro p h i m;cases p with
  |lf l=>exact vN (MI i) (by lia)
  |many p=>exact vN (tT (by rfl) (j p (by simp only[dp] at h;lia) i (by simp only[oc] at m;lia))) (by lia)
  |seq a=>exact tT (by rfl) (e k j a (by simp only[dp] at h;omega) i (by simp only[oc] at m;omega))
  |alt a=>exact tT (by rfl) (e k j a (by simp only[dp] at h;omega) i (by simp only[oc] at m;omega))
section
variable {w:yak}
def ua(k:Nat):AN:=λi S Q=>∃(p q n:Nat)(x:Pt)(o:MO)(e:List Lf),i=[.loc p,tD x,.loc q]/\p≠q/\S[p]? =some (some o)/\S[q]? =some (some (.lst (e.map lD)))/\Fd n o/\n+rJ x<900000/\fB x/\dp x<=k/\oc x<=50/\e.length<=9/\(∀l∈e,rV l)/\
 ∀(a:List Lf)(h:MO),a.length<=9->(∀l∈a,rV l)->Fd (n+rJ x) h->Q (.dat .bx) (T2 S p q h a)
def Cm(T:Txt K mg C fi)(F:Src K mg "_law_made" ef wc)(e:Def P w K mg base 1 "_law_next" ck (av K cZ))(k:Nat)(hk:k<=4)(a:Def P w K mg base (k+2) "_law_made" ef (av K (λds S Q=>∃j,k=j+1/\ua j ds S Q))):
  Def P w K mg base (k+3) "_law_made" ef (av K (ua k)):=by
 refine eU F ur (λds S Q h=>?_) (λf cdv A outer s H E L=>?_)
 ·let⟨p,q,n,x,o,v,rfl,_⟩:=h;rfl
 ·refine⟨_,(W9 (Xk (Xi (Xm L) (Xb (W5 1)) Xe (aF _)) (W9 (Xw PassesOwn.never rfl (XY (by rfl) T.range (W6 (Xy e (L.mono (by lia)) (by rfl) (W6 (W5 0) (W8 Xc))) Xa)) (Xn 3 ur.nd) (W9 (Xv (Xy a (L.mono (by lia)) (by rfl) (W6 (W5 0) (W6 (Xb (W5 1)) (W8 (W5 2))))))))) (W9 (Xk (Xi (Xm L) (Xb (W5 1)) Xe (aF _)) (W9 (Xw PassesOwn.never rfl (Xr (Xb (W5 1))) (Xn 4 ur.nd) (W9 (Xv (Xy a (L.mono (by lia)) (by rfl) (W6 (W5 0) (W6 (W5 4) (W8 (W5 2))))))))) (W9 (Xk (Xi (Xm L) (Xb (W5 1)) Xe (aF _)) (W9 (Xk (Xi (M.G0 L) (Xb (W5 1)) (Xg Xa) (aF _)) (W9 (Xv (Xy a (L.mono (by lia)) (by rfl) (W6 (W5 0) (W6 (Xs (Xb (W5 1)) (Xy e (L.mono (by lia)) (by rfl) (W6 (W5 0) (W6 (Xo Xz T.len (W6 (Xb (W5 1)) Xa)) Xa)))) (W8 (W5 2))))))) Xl)) (W9 (Xk (Xi M.G2 (Xo Xz T.len (W8 (W5 2))) Xc (aF _)) (W9 (Xv (XC PySem.F.plainAttrs_list PySem.F.slot_list_append PySem.F.type_list_append X7 (W5 2) (W8 (W5 1))))) Xl)))))))),λds S Q h=>?_⟩;let⟨p,q,n,x,o,v,rfl,i,hS,hQ,Z,hn,hx,hd,hc,hl,X,Y⟩:=h;have e0:aJ CU [.loc p,tD x,.loc q]=[some (.loc p),some (tD x),some (.loc q),none,none]:=rfl;rw[e0];have hp:=cM hS;have hq:=cM hQ;have e1:=T2s hS hQ;have n1:("then":Str)≠"many":=by decide+kernel
  have U:("either":Str)≠"many":=by decide+kernel
  have n3:("either":Str)≠"then":=by decide+kernel
  cases x with
  |lf l=>
   have nl:=Hv l;refine eK (λQ q=>aZ rfl (qF nl.1 q)) (eK (λQ q=>aZ rfl (qF nl.2.1 q)) (eK (λQ q=>aZ rfl (qF nl.2.2 q)) ?_));have sq:aP S (.loc q)=.lst (v.map lD):=by simp only[aP,hQ];rfl
   push_cast[CL,sq];refine⟨v.length,by show some _=_;rw[zbR],gg (λh=>?_) (λh=>?_)⟩
   ·have h:v.length<9:=by lia
    refine⟨rfl,q,v.map lD,_,rfl,rfl,hQ,by rw[zbR,yaf];lia,?_⟩;have e2:S.set q (some (.lst (v.map lD++[tD (.lf l)])))=T2 S p q o (v++[l]):=by unfold T2;rw[set_same hS,zbZ];rfl
    rw[e2];refine mY Z (Y _ o (by rw[zaR];exact h) (λy u=>?_) Z);obtain u|u:=zbQ.mp u
    ·exact X y u
    ·rw[zaU.mp u];exact hx
   ·have:=mY Z (Y v o hl X Z);rw[e1] at this;exact this
  |many x=>
   refine ki (λQ q=>aZ rfl (qT rfl q)) ?_;simp only[rJ,oc,dp] at hn hd hc Y;obtain⟨j,rfl⟩:∃j,k=j+1:=⟨k - 1,by lia⟩
   push_cast[fP,n8];refine⟨p,n,4,o,rfl,hS,Z,by lia,by decide,by decide,λz o1 hz ho1=>⟨z,rfl,by lia,by lia,?_⟩⟩;rw[show S.set p (some o1)=T2 S p q o1 v by rw[<-RA i,e1]];have hz3:z*rJ x<=3*rJ x:=zaG _ (by lia);refine aW (λrest δ S'=>∃(U:Nat)(O:MO)(c:List Lf)(v3:Option D),δ=[some (.loc p),some (tD (.many x)),some (.loc q),v3,none]/\S'=T2 S p q O c/\Fd U O/\U+rest.length*rJ x<=n+1+z*rJ x/\c.length<=9/\∀l∈c,rV l) ?_ ?_ _ _ _ ⟨n+1,o1,v,none,rfl,rfl,ho1,by simp[fM],hl,X⟩
   ·intro δ S' V;let⟨U,O,c,v3,rfl,rfl,m,W,I,G⟩:=V;exact⟨trivial,mY m (Y c O I G (m.mono (by lia)))⟩
   ·intro t rest δ S' N' V hN';let⟨U,O,c,v3,rfl,rfl,m,W,I,G⟩:=V;rw[zby] at W;push_cast[true_and];refine⟨_,cS,j,rfl,p,q,U,x,O,c,rfl,i,WE hp i,WD hq,m,by lia,hx,by lia,by lia,I,G,λc' o' a1 a2 a3=>?_⟩;rw[RB i];exact hN' _ _ ⟨_,o',c',_,rfl,rfl,a3,by lia,a1,a2⟩
  |seq ps=>
   refine eK (λQ q=>aZ rfl (qF n1 q)) (ki (λQ q=>aZ rfl (qT rfl q)) ?_);simp only[rJ,oc,dp] at hn hd hc Y;obtain⟨j,rfl⟩:∃j,k=j+1:=⟨k - 1,by lia⟩
   push_cast[fP,dP];refine⟨_,cS,?_⟩;rw[cF];refine aW (λrest δ S'=>∃(qs:List Pt)(U:Nat)(O:MO)(c:List Lf)(v4:Option D),rest=qs.map tD/\(∀y∈qs,y∈ps)/\δ=[some (.loc p),some (tD (.seq ps)),some (.loc q),none,v4]/\S'=T2 S p q O c/\Fd U O/\U+ql qs<=n+ql ps/\c.length<=9/\∀l∈c,rV l) ?_ ?_ _ _ _ ⟨ps,n,o,v,none,rfl,λ_ h=>h,rfl,e1.symm,Z,zcS _,hl,X⟩
   ·intro δ S' V;let⟨qs,U,O,c,v4,L,hqs,rfl,rfl,m,W,I,G⟩:=V;exact⟨trivial,mY m (Y c O I G (m.mono (by lia)))⟩
   ·intro t rest δ S' N' V hN';let⟨qs,U,O,c,v4,L,hqs,rfl,rfl,m,W,I,G⟩:=V;cases qs with
    |nil=>simp at L
    |cons y qs=>
     obtain⟨rfl,rfl⟩:=L;have u:=hqs y (by simp);simp only[ql] at W;push_cast[true_and];refine⟨j,rfl,p,q,U,y,O,c,rfl,i,WE hp i,WD hq,m,by lia,eE hx y u,by have:=dZ y u;lia,by have:=jA y u;lia,I,G,λc' o' a1 a2 a3=>?_⟩;rw[RB i];exact hN' _ _ ⟨qs,_,o',c',_,rfl,λz hz=>hqs z (zaz _ hz),rfl,rfl,a3,by lia,a1,a2⟩
  |alt ps=>
   refine eK (λQ q=>aZ rfl (qF U q)) (eK (λQ q=>aZ rfl (qF n3 q)) (ki (λQ q=>aZ rfl (qT rfl q)) ?_));have ft:fit (.tup (iA ps))=true:=by
    exact eT (J7 (MG _ (.alt ps) (zcS _) hx (by lia)) (by simp)) (by lia)
   simp only[rJ,oc,dp] at hn hd hc Y;obtain⟨j,rfl⟩:∃j,k=j+1:=⟨k - 1,by lia⟩
   push_cast[true_and];refine⟨_,cS,zcT _,ft,rfl,?_⟩;push_cast[true_and];have em:(!PyData.eqv (py (.tup (iA ps))) (py (.tup [])))=decide (ps≠[]):=by cases ps<;>rfl
   rw[em];refine gg (λh=>?_) (λh=>?_)
   ·have hl5:=fW ps;refine⟨_,cS,_,cS,ps.length,by show some _=_;rw[cF,zbR],p,n,ps.length,o,rfl,hS,Z,by lia,List.length_pos_iff.mpr (of_decide_eq_true h),by lia,λz o1 hz ho1=>?_⟩;have u:=zbJ hz;refine⟨tD ps[z],cL (by rw[cF,zbh,zak hz];rfl),j,rfl,p,q,n+1,ps[z],o1,v,rfl,i,aX hS,by rw[zaB i];exact hQ,ho1,by have:=k9 u;lia,eE hx _ u,by have:=dZ _ u;lia,by have:=jA _ u;lia,hl,X,λc' o' a1 a2 a3=>?_⟩;rw[show S.set p (some o1)=T2 S p q o1 v by rw[<-RA i,e1],RB i];exact mY a3 (Y c' o' a1 a2 (a3.mono (by have:=k9 u;lia)))
   ·have:=mY Z (Y v o hl X (Z.mono (by lia)));rw[e1] at this;exact this
def LV(F:Src K mg "_law_made" ef wc)(h:∀ds S Q,¬sp ds S Q):Def P w K mg base (k+1) "_law_made" ef (av K sp):=
 F.def ur (λvs H Q E z=>by let⟨_,_,_,_,_,_,q,_⟩:=z;simp_all) λf a A outer s H vs Q E e z=>by let⟨_,_,_,_,_,_,q,_⟩:=z;exact(h _ _ _ q).elim
def QT(T:Txt K mg C fi)(F:Src K mg "_law_made" ef wc)(a:Def P w K mg base 1 "_law_next" ck (av K cZ))(k:Nat)(h:k<=4):Def P w K mg base (k+3) "_law_made" ef (av K (ua k)):=by
 induction k with
 |zero=>exact Cm T F a 0 h (LV F λi S Q ⟨j,e,_⟩=>by lia)
 |succ k ih=>exact Cm T F a (k+1) h ((ih (by lia)).imp λvs H Q E z=>by
   let⟨w,i,S,l,ok,rep,⟨j,e,q⟩,bk⟩:=z;obtain rfl:j=k:=by lia
   refine⟨w,i,S,l,ok,rep,q,bk⟩)
end
open PySem L2 M M6
noncomputable abbrev JC:List Str:=["_law_feed_here","_law_names_here","_law_leaves","_law_marks","_law_ties","_law_name","_law_knots","_law_here","_law_way","_law_leaf_here","_law_word","_law_other","_law_both"]
noncomputable abbrev qY:=JC.take 3
def gx:aE JC qY (aj (top 36)):=L2.cy
abbrev Ke:=List (Str×Nat)
noncomputable def uX(a:Ke):List Key:=a.map λk=>Sum.inr k.1
noncomputable def ri(L:Nat)(a:Ke):List D:=a.map λk=>.loc (L+2+k.2)
noncomputable def RS(a:Ke)(x:Str)(i:Nat):Ke:=if x∈a.map (·.1) then a.map (λk=>if k.1=x then(x,i) else k) else a++[(x,i)]
def PC:ja (uX d) (ri L d) (.inr x) (.loc (L+2+i))=.dct (uX (RS d x i)) (ri L (RS d x i)):=by
 have e:(uX d).any (λj=>decide (j=Sum.inr x))=decide (x∈d.map (·.1)):=by
  unfold uX;grind
 unfold ja RS;rw[e];by_cases h:x∈d.map (·.1)
 ·rw[yDt h,yIp rfl,yIp h];unfold uX ri;rw[List.zip_map',zcC,zcC,zcC];congr 1
  ·refine zaK λk _=>?_;lia
  ·refine zaK λk _=>?_;by_cases l:k.1=x<;>simp[l]
 ·rw[yDf h,yIn h];simp[uX,ri]
structure JJ(kk:Ke)(b:Nat):Prop where
 pw:kk.Pairwise λa b=>a.1≠b.1/\a.2≠b.2
 lt:∀k∈kk,k.2<b
 nm:∀k∈kk,Nm k.1
 ln:kk.length<=b
def JJ.put(h:JJ d r)(o:Nm x):JJ (RS d x r) (r+1)/\0<(RS d x r).length:=by
 unfold RS;by_cases g:x∈d.map (·.1)
 ·rw[yIp g];refine⟨⟨zbo.mpr (h.pw.imp_of_mem λ{u v} i n e=>?_),λk a=>?_,λk a=>?_,by rw[zbR];have:=h.ln;lia⟩,?_⟩
  ·have s:=h.lt u i;have q:=h.lt v n;lia
  ·let⟨u,i,rfl⟩:=zcD.mp a;have:=h.lt u i;split
   ·simp
   ·lia
  ·let⟨u,i,rfl⟩:=zcD.mp a;have:=h.nm u i;split
   ·exact o
   ·exact this
  grind
 ·rw[yIn g];refine⟨⟨List.pairwise_append.mpr ⟨h.pw,by simp,λu i v n=>?_⟩,λk a=>?_,λk a=>?_,by have:=h.ln;simp;omega⟩,by simp⟩
  ·rw[zaU.mp n];exact⟨λe=>g (zcD.mpr ⟨u,i,e⟩),by have:=h.lt u i;lia⟩
  ·obtain a|a:=zbQ.mp a
   ·have:=h.lt k a;lia
   simp_all
  ·obtain a|a:=zbQ.mp a
   ·exact h.nm k a
   ·rw[zaU.mp a];exact o
noncomputable def gJ(S:aA)(p:Nat)(o:MO)(a:Ke)(ts:List Ti)(ms:List (List Str)):aA:=
 S.set p (some o)++(some (.dct (uX a) (ri S.length a))::some (.lst (ts.map T3))::ms.map λm=>some (.lst (m.map D.str)))
section
variable {p:Nat}{o':MO}{kk:Ke}{ts:List Ti}{ms:List (List Str)}
def U1(h:p<S.length):(gJ S p o kk ts ms)[p]? =some (some o):=by
 unfold gJ;rw[zae (by simp_all),zbk,yIp rfl,yIp h]
def Rz(i:Nat):(gJ S p o kk ts ms)[S.length+i]? =(some (.dct (uX kk) (ri S.length kk))::some (.lst (ts.map T3))::ms.map λm=>some (.lst (m.map D.str)))[i]?:=by
 unfold gJ;rw[zab (by simp),zcb,zan]
def Vx:(gJ S p o kk ts ms)[S.length]? =some (some (.dct (uX kk) (ri S.length kk))):=Rz 0
def Wz:(gJ S p o kk ts ms)[S.length+1]? =some (some (.lst (ts.map T3))):=Rz 1
def U3(h:ms[i]? =some d):(gJ S p o kk ts ms)[S.length+2+i]? =some (some (.lst (d.map D.str))):=by
 rw[zcv,Rz,Nat.add_comm 2 i];simp_all
def Jh(h:p<S.length):(gJ S p o kk ts ms).set p (some o')=gJ S p o' kk ts ms:=by
 unfold gJ;simp_all
def Ji(i:Nat)(x:Option MO):(gJ S p o kk ts ms).set (S.length+i) x=S.set p (some o)++(some (.dct (uX kk) (ri S.length kk))::some (.lst (ts.map T3))::ms.map λm=>some (.lst (m.map D.str))).set i x:=by
 unfold gJ;simp
def WB:(gJ S p o kk ts ms).set S.length (some (.dct (uX d) (ri S.length d)))=gJ S p o d ts ms:=Ji 0 _
def WA:(gJ S p o kk ts ms).set (S.length+1) (some (.lst (d.map T3)))=gJ S p o kk d ms:=Ji 1 _
def U0:(gJ S p o kk ts ms).set (S.length+2+i) (some (.lst (d.map D.str)))=gJ S p o kk ts (ms.set i d):=by
 rw[zcv,Nat.add_comm 2 i];unfold gJ;simp
def U4:gJ S p o kk ts ms++[some (.lst (d.map D.str))]=gJ S p o kk ts (ms++[d]):=by
 unfold gJ;simp
def WZ:(gJ S p o kk ts ms).length=S.length+2+ms.length:=by unfold gJ;simp;lia
end
theorem kj{p:Nat}{U:MO->aA}{Q:List D->aA->Prop}(u:∀o,(U o)[p]? =some (some o))(m:∀o o',(U o).set p (some o')=U o'):∀(h a:List Str)(t:Option D)(n:Nat)(o:MO),Fd n o->n+h.length<999990->a.length+h.length<=100->(∀y∈a,Nm y)->(∀y∈h,Nm y)->
  (∀(j:List Str)(o':MO),j.length<=a.length+h.length->(∀y∈j,Nm y)->Fd (n+h.length) o'->Q (j.map D.str) (U o'))->
  bM (λ_=>True) (bE 0) (aB (lT NS (aCall cZ (eL (cT 1) (eL (aC (.int 4)) b4))) (aC (.int 0)))) (cT 0) (h.map D.str) (a.map D.str) [t,some (.loc p)] (U o) Q
 |[],a,t,n,o,ho,_,_,ha,_,q=>⟨trivial,q a o (zcS _) ha ho⟩
 |x::h,a,t,n,o,ho,hn,hl,ha,hx,q=>by
  simp only[zby] at hn hl q;refine⟨trivial,?_⟩;refine⟨_,rfl,⟨p,n,4,o,rfl,u o,ho,by lia,by decide,by decide,λz o' hz s=>?_⟩⟩;rw[m];refine⟨_,rfl,?_⟩;by_cases C:(z:Int)=0
  ·rw[yDt C];refine⟨_,rfl,by rw[zbR,yaf];lia,?_⟩;have e:a.map D.str++[D.str x]=(a++[x]).map D.str:=by simp
   show bM _ _ _ _ _ (a.map D.str++[D.str x]) _ _ _;rw[e];refine kj u m h (a++[x]) _ (n+1) o' s (by lia) (by simp;lia) (λy i=>?_) (λy i=>hx y (zaz _ i)) (λj l h1 h2 v=>q j l (by simp at h1;lia) h2 (v.mono (by lia)));obtain i|i:=zbQ.mp i
   ·exact ha y i
   ·rw[zaU.mp i];exact hx x (by simp)
  ·rw[yDf C];exact kj u m h a _ (n+1) o' s (by lia) (by lia) ha (λy i=>hx y (zaz _ i)) (λj l h1 h2 v=>q j l (by lia) h2 (v.mono (by lia)))
def IQ:yh (.int d) (.int g) S k=k (.dat (.int (d+g))) S:=rfl
def ic(h:∀k:Bool->aA->Prop,k false S->d δ S k)(q:k false S):Je d g δ S k:=h _ (by exact q)
def jG(h:∀k:Bool->aA->Prop,k true S->d δ S k)(q:g δ S k):Je d g δ S k:=h _ (by exact q)
theorem HS:∀{a:Ke},d∈a.map (·.1)->∃i,(d,i)∈a/\gh (uX a) (ri L a) (.inr d)=some (.loc (L+2+i))
 |k::a,h=>by
  unfold gh uX ri;rw[zcq,zcq,zaT,zbV];by_cases e:k.1=d
  ·subst e;refine⟨k.2,by simp,by simp⟩
  ·have h2:d∈a.map (·.1):=by
    grind
   obtain⟨i,l,j⟩:=HS h2;rw[yDf (by simp_all)];refine⟨i,zaz _ l,j⟩
def Qy(e:aP S g=.lst ds)(q:qV neg d (.lst ds) S k):qV neg d g S k:=by
 unfold qV at q⊢;rw[e];exact q
theorem xF:∀{m:List Str},d∈m->∃j:Nat,m[j]? =some d/\∀(i:Nat)(y:Str),i<j->m[i]? =some y->y≠d
 |y::m,h=>by
  by_cases e:y=d
  ·subst e;refine⟨0,rfl,λi _ a=>by lia⟩
  ·let⟨j,h1,h2⟩:=xF (by obtain z|z:=zcp.mp h;exact absurd z.symm e;exact z);refine⟨j+1,h1,λi z a hz=>?_⟩;cases i with
   |zero=>simp_all
   |succ i=>exact h2 i z (by lia) (by simpa using hz)
def HW{m:List Str}(h:∀y∈m,Nm y)(e:m.length<=100):fit (.lst (m.map D.str))=true:=eT (n:=1) (by
 simp only[gn,zbN,zbC];refine⟨yDt (by simp_all),λd hd=>?_⟩;let⟨y,a,rfl⟩:=zcD.mp hd;exact(h y a).ok) (by decide)
theorem lg{e h:Type}{f:e->h}:∀(l:List e)(i:Nat),(l.eraseIdx i).map f=(l.map f).eraseIdx i
 |[],_=>rfl
 |a::l,0=>rfl
 |a::l,i+1=>by simp only[List.eraseIdx_cons_succ,zcq,lg l i]
def KZ{m:List Str}(v:S[d]? =some (some (.lst (m.map D.str))))(o:x∈m)(h:∀y∈m,Nm y)(t:m.length<=100)(q:∀m':List Str,m'.length<=m.length->(∀y∈m',y∈m)->g (.dat .bx) (S.set d (some (.lst (m'.map D.str))))):CI (.loc d) [.str x] S g:=by
 let⟨j,h1,h2⟩:=xF o;refine⟨d,m.map D.str,.str x,j,.str x,rfl,rfl,v,eT (n:=0) (h x o).ok (by decide),HW h t,by simp_all,by exact(vg (x:=.str x) rfl).trans (yDt rfl),λi c u l=>?_,?_⟩
 ·cases hz:m[i]? with
  |none=>simp_all
  |some y=>
   have l:D.str y=c:=by simp_all
   subst l;exact(vg rfl).trans (yDf λe=>h2 i y u hz e.symm)
 ·have:=q (m.eraseIdx j) (List.length_eraseIdx_le ..) λy s=>List.mem_of_mem_eraseIdx s
  rwa [show(m.eraseIdx j).map D.str=(m.map D.str).eraseIdx j from lg ..] at this
def Ko{a:Type}{P:a->Prop}{l:List a}{x:a}(h:∀y∈l,P y)(m:P x):∀y∈l.set i x,P y:=λy j=>(List.mem_or_eq_of_mem_set j).elim (h y) λe=>e▸m
def qU(h:d.length+g.length<=yag)(q:k (.dat (.tup (d++g))) S):yh (.tup d) (.tup g) S k:=by
 cases d with
 |nil=>exact q
 |cons x d=>refine⟨List.cons_ne_nil _ _,h,q⟩
noncomputable def HA(ms:List (List Str))(k:Str×Nat):D:=.lst ((ms.getD k.2 []).map D.str)
theorem HU{L:Nat}{ks:List Key}{ms:List (List Str)}:∀(b:Ke)(A:List (List D))(i:aA),b.Pairwise (λa b=>a.1≠b.1/\a.2≠b.2)->i[L]? =some (some (.dct ks (A.map D.lst++ri L b)))->(∀k∈b,i[L+2+k.2]? =some (some (.lst ((ms.getD k.2 []).map D.str))))->
  ∃l,AR L ks (A.map D.lst++ri L b) i (A.map D.lst++b.map (HA ms)) l/\l.take L=i.take L/\l[L]? =some (some (.dct ks (A.map D.lst++b.map (HA ms))))/\l[L+1]? =i[L+1]?
 |[],A,i,_,h,_=>⟨i,.nil,rfl,h,rfl⟩
 |k::b,A,i,hp,h,hk=>by
  have j:=zaX.mp hp;have e:(A.map D.lst++ri L (k::b)).map (sb (L+2+k.2) (.lst ((ms.getD k.2 []).map D.str)))=(A++[(ms.getD k.2 []).map D.str]).map D.lst++ri L b:=by
   rw[zbZ,zcC,zbZ,zbj];congr 1
   ·show sb _ _ (D.loc (L+2+k.2))::(ri L b).map _=_;rw[show sb (L+2+k.2) (.lst ((ms.getD k.2 []).map D.str)) (.loc (L+2+k.2))=.lst ((ms.getD k.2 []).map D.str) from yIp rfl];refine congrArg _ ?_;unfold ri;rw[zcC];refine zaK λx m=>yIn ?_;have:=(j.1 x m).2;lia
  have q:=cM h;let⟨l,h1,h2,n,s⟩:=HU b (A++[(ms.getD k.2 []).map D.str]) ((i.set (L+2+k.2) none).set L (some (.dct ks ((A++[(ms.getD k.2 []).map D.str]).map D.lst++ri L b)))) j.2 (by rw[zbk,yIp rfl,yIp (by simp_all)]) (λx m=>by
   rw[zaB (by lia),zaB (by have:=(j.1 x m).2;lia)];exact hk x (zaz _ m))
  have t:(A++[(ms.getD k.2 []).map D.str]).map D.lst++b.map (HA ms)=A.map D.lst++(k::b).map (HA ms):=by rw[zbZ,zbj];rfl
  rw[t] at h1 n;refine⟨l,.step (hk k (by simp)) (by lia) (by rw[e];exact h1),?_,n,?_⟩
  ·rw[h2,List.take_set_of_le (zcS _),List.take_set_of_le (by lia)]
  ·rw[s,zaB (by lia),zaB (by lia)]
section
variable {w:yak}
structure Lay(ks:List Kn)(ts:List Ti)(k:Str)(ss:List Sp):Prop where
 nd:(nms ks).Nodup
 pos:0<ks.length
 k5:ks.length<=5
 nk:∀x∈ks,Nm x.1
 mm:∀x∈ks,x.2.length<=20/\∀m∈x.2,Nm m
 t9:ts.length<=9
 ti:∀t∈ts,t.1∈nms ks/\Nm t.2.1/\t.2.2∈nms ks
 wk:k∈nms ks
 ws:∀s∈ss,s.2.2∈nms ks/\Nm s.2.1
 w9:ss.length<=30
noncomputable def dN(ks:List Kn):List D:=ks.map λk=>.lst (k.2.map D.str)
def MY:AN:=λm S Q=>∃(p n:Nat)(N:JH)(o:MO)(a:List Lf),m=[.loc p,N.d,.lst (a.map lD)]/\S[p]? =some (some o)/\Fd n o/\n<900000/\a.length<=9/\(∀l∈a,rV l)/\
 ∀(ks:List Kn)(h:List Ti)(k:Str)(i:List Sp)(j:MO)(e:aA),Lay ks h k i->Fd (n+50) j->e[S.length]? =some (some (.dct (cD ks) (dN ks)))->e.take S.length=S.set p (some j)->Q (.dat (.tup [.loc S.length,.lst (h.map T3),fT k i])) e
def UA(T:Txt K mg C fi)(F:Src K mg "_law_laid" qY (top 36))(j:Def P w K mg base 1 "_law_next" ck (av K cZ)):Def P w K mg base 2 "_law_laid" qY (av K MY):=by
 refine Uw F gx (λds S Q h=>?_) (λf cdv A outer s H E v=>?_)
 ·let⟨p,n,N,o,ls,rfl,_⟩:=h;rfl
 ·refine⟨_,(W7 (Xd 3 gx.nd (Xu M.fG)) (W7 (Xd 4 gx.nd (Xu (Xp Xa))) (W7 (Xw PassesOwn.never rfl (Xr (XW XX (Xb (W5 1)) XZ (XJ (Xf M.qf Xc (Xh j v (W6 (W5 0) (W8 Xc))))))) (Xn 5 gx.nd) (W9 (Yc (bV v) (W5 3) (W5 5) (Xu (XE ["_law_mark","_law_feed_here"] [none,some 0] (Xr (Xb (W5 1))) (λ_ _ _ _=>(M.gR (Xi (Xm v) (Xh j v (W6 (W5 1) (W8 Xc))) Xc (aF _)))) (λ_ _ _ _=>(W5 0)))) rfl))) (W7 (Xd 6 gx.nd (Xo (X9 v) T.sorted (W8 (W5 3)))) (W7 (Xd 7 gx.nd (Xs (W5 6) (Xh j v (W6 (W5 0) (W6 (Xo Xz T.len (W8 (W5 6))) Xa))))) (W7 (Xd 8 gx.nd (Xg (W6 (W5 7) (W8 (Xg Xa))))) (W7 (Xw PassesOwn.never rfl (Xr (W5 2)) (Xn 9 gx.nd) (W7 (Xk (Yb (Yk (Xi (Xm v) (Xb (W5 9)) Xe (aF _)) (Yt (Xi (M.uK v) (Xb (W5 9)) (XM (bV v) (W5 3) (W5 7) (λ_ _=>rfl)) rfl)))) (W9 (Xv (XC PySem.F.plainAttrs_list PySem.F.slot_list_append PySem.F.type_list_append X7 (XM (bV v) (W5 3) (W5 7) (λ_ _=>rfl)) (W6 (Xb (W5 9)) Xa)))) Xl) (W7 (Xk (Yb (Yk (Xi (Xm v) (Xb (W5 9)) Xe (aF _)) (Yk (Xi (X6 v) (Xb (W5 9)) (XM (bV v) (W5 3) (W5 7) (λ_ _=>rfl)) rfl) (Yt (Xi (Xm v) (Xh j v (W6 (W5 0) (W8 Xc))) Xc (aF _)))))) (W9 (Xv (XC PySem.F.plainAttrs_list PySem.F.slot_list_remove PySem.F.type_list_remove (M.Hj v) (XM (bV v) (W5 3) (W5 7) (λ_ _=>rfl)) (W6 (Xb (W5 9)) Xa)))) Xl) (W9 (Xk (Xi (Xm v) (Xb (W5 9)) Xe (aF _)) (W7 (Xd 10 gx.nd (Xs (Xp (W6 (Xb (W5 9)) (W6 (Xs (Xb (W5 1)) (Xh j v (W6 (W5 0) (W8 Xc)))) Xa))) (XI M.G3 T.int (W6 (Xx (Xm v) (Xb (W5 9)) Xe (aF _)) Xa)))) (W7 (Xd 11 gx.nd (Xs (W5 6) (Xh j v (W6 (W5 0) (W6 (Xo Xz T.len (W8 (W5 6))) Xa))))) (W7 (Xd 12 gx.nd (Xp (W6 (Xg (W6 (W5 7) (W6 (W5 10) (W8 (W5 11))))) (W6 (Xg (W6 (W5 11) (W6 (W5 10) (W8 (W5 7))))) Xa)))) (W7 (Xv (XC PySem.F.plainAttrs_list PySem.F.slot_list_append PySem.F.type_list_append X7 (W5 4) (W6 (Xs (W5 12) (XI M.G3 T.int (W6 (Xx (Xm v) (Xb (W5 9)) Xe (aF _)) Xa))) Xa))) (W7 (Xd 8 gx.nd (Xg (W6 (Xb (W5 8)) (W6 (Xf M.qf (Xb (W5 8)) (Xg (W6 (Xg (W6 (Xb (W5 9)) (W6 (W5 10) (W8 (W5 11))))) Xa))) Xa)))) (W9 (Xd 7 gx.nd (W5 11)))))))) Xl))))) (W9 (Xj (M.WX (Xg (W6 (M.Um (W5 3)) (W6 (W5 4) (W8 (W5 8))))))))))))))),λds S Q h=>?_⟩;let⟨p,n,N,o,ls,rfl,hS,ho,hn,hl,hls,q⟩:=h;have e0:aJ JC [.loc p,N.d,.lst (ls.map lD)]=[some (.loc p),some N.d,some (.lst (ls.map lD)),none,none,none,none,none,none,none,none,none,none]:=rfl;rw[e0];have hp:=cM hS;refine bB λN1 h1=>?_;push_cast[bF];refine h1 _ _ ?_;clear h1 N1;refine bB λN1 h1=>?_;push_cast[bF,gm,b4];refine⟨zcT _,h1 _ _ ?_⟩;clear h1 N1;refine bB λN1 h1=>?_;push_cast[fP,dP];refine⟨_,e7,?_⟩;have e1:∀o:MO,(S++[some (MO.dct [] [])]++[some (MO.lst [])]).set p (some o)=gJ S p o [] [] []:=λo=>by
   rw[zbj,zaE _ _ hp];rfl
  refine⟨p,n,5,o,rfl,by rw[zbj,zae hp];exact hS,ho,by lia,by decide,by decide,λz o1 hz ho1=>?_⟩;rw[e1];push_cast[IQ];rw[show(1:Int)+(z:Int)=((1+z:Nat):Int) by lia,show(S++[some (MO.dct [] [])]).length=S.length+1 by simp];show dO _ _ _ (cutD (N.ks.map D.str) none (some ((1+z:Nat):Int))) _ _ _;rw[qJ (by rw[zbR,N.k5];lia),<-zct];have hks:(N.ks.take (1+z)).length=1+z:=by rw[zbz,N.k5];lia
  have hkm:∀y∈N.ks.take (1+z),Nm y:=λy Z=>N.nk y (zaF Z);generalize N.ks.take (1+z)=kz at hks hkm;refine aW (λrest δ S'=>∃(rs:List Str)(n2:Nat)(o2:MO)(u:Ke)(ms:List (List Str))(v5:Option D),rest=rs.map D.str/\(∀y∈rs,Nm y)/\δ=[some (.loc p),some N.d,some (.lst (ls.map lD)),some (.loc S.length),some (.loc (S.length+1)),v5,none,none,none,none,none,none,none]/\S'=gJ S p o2 u [] ms/\Fd n2 o2/\n2+3*rs.length<=n+16/\ms.length+rs.length=1+z/\JJ u ms.length/\(0<rs.length∨0<u.length)/\∀m∈ms,m.length<=3/\∀y∈m,Nm y) ?_ ?_ _ _ _
   ⟨kz,n+1,o1,[],[],none,rfl,hkm,rfl,rfl,ho1,by lia,by rw[hks];simp,⟨.nil,by simp,by simp,by simp⟩,.inl (by lia),by simp⟩
  ·intro δ S' V;let⟨rs,n2,o2,u,ms,v5,v,hrs,rfl,rfl,ho2,hn2,hml,hkk,hk0,hms⟩:=V;obtain rfl:rs=[]:=by cases rs with|nil=>rfl|cons a b=>simp at v
   refine⟨trivial,h1 _ _ ?_⟩;have hk0:0<u.length:=by simpa using hk0
   have hml:ms.length<=5:=by simp at hml;lia
   clear h1 N1 v hrs hkm hks kz e1 ho1 o1;refine bB λN1 h1=>?_;push_cast[true_and];have hsd:∀o Y ms,aP (gJ S p o u Y ms) (.loc S.length)=.dct (uX u) (ri S.length u):=λo Y ms=>by simp only[aP,Vx];rfl
   have ekn:uX u=(u.map (·.1)).map Sum.inr:=by unfold uX;rw[zcC];rfl
   refine⟨_,ri S.length u,u.map (·.1),rfl,by rw[hsd,ekn],by rw[zbR];have:=hkk.ln;lia,λkn hpm hso=>h1 _ _ ?_⟩;clear h1 N1 hso;have hkl:kn.length=u.length:=by have:=hpm.length_eq;rwa [zbR] at this
   have hkm:∀y∈kn,y∈u.map (·.1):=λy Z=>hpm.mem_iff.mp Z;clear hpm;refine bB λN1 h1=>?_;push_cast[true_and];refine⟨kn.length,by show some _=_;rw[zbR],p,n2,kn.length,o2,rfl,U1 hp,ho2,by lia,by lia,by have:=hkk.ln;lia,λz2 o3 hz2 ho3=>?_⟩;rw[Jh hp];refine p7 hz2 λv hhr=>h1 _ _ ?_;clear h1 N1;refine bB λN1 h1=>?_;push_cast[iE,b4];refine⟨zcT _,sz rfl,h1 _ _ ?_⟩;clear h1 N1;refine bB λN1 h1=>?_;push_cast[fP,dP];show dO _ _ _ (ls.map lD) _ _ _;have hhk:=hkm v hhr;have pn1:("stay":Str)≠"at"/\("stay":Str)≠"off"/\("stay":Str)≠"step":=by decide+kernel
   have pn2:("at":Str)≠"off"/\("at":Str)≠"step"/\("off":Str)≠"at"/\("off":Str)≠"step"/\("step":Str)≠"at"/\("step":Str)≠"off":=by decide+kernel
   refine aW (λrest δ S'=>∃(rs:List Lf)(n2:Nat)(o2:MO)(Y:List Ti)(ms:List (List Str))(he:Str)(ss:List Sp)(v9 X O I:Option D),rest=rs.map lD/\(∀l∈rs,rV l)/\δ=[some (.loc p),some N.d,some (.lst (ls.map lD)),some (.loc S.length),some (.loc (S.length+1)),v5,some (.lst (kn.map D.str)),some (.str he),some (fT v ss),v9,X,O,I]/\S'=gJ S p o2 u Y ms/\Fd n2 o2/\n2+3*rs.length<=n+17+27/\he∈u.map (·.1)/\Y.length+rs.length<=9/\ss.length+rs.length<=9/\(∀t∈Y,t.1∈u.map (·.1)/\Nm t.2.1/\t.2.2∈u.map (·.1))/\(∀s∈ss,s.2.2∈u.map (·.1)/\Nm s.2.1)/\JJ u ms.length/\∀m∈ms,m.length+rs.length<=12/\∀y∈m,Nm y) ?_ ?_ _ _ _
    ⟨ls,n2+1,o3,[],ms,v,[],none,none,none,none,rfl,hls,rfl,rfl,ho3,by simp at hn2;lia,hhk,by simpa using hl,by simpa using hl,by simp,by simp,hkk,λm hm=>⟨by have:=(hms m hm).1;lia,(hms m hm).2⟩⟩
   ·intro δ S' V;let⟨rs,n3,o4,Y,mz,he,ss,v9,X,O,I,hr2,hrs,rfl,rfl,ho4,hn3,hhe,ht9,hs9,hts,hss,G,hmz⟩:=V;refine⟨trivial,h1 _ _ ?_⟩;clear h1 N1;let⟨S2,f1,f2,f3,f4⟩:=HU (ms:=mz) u [] (gJ S p o4 u Y mz) G.pw Vx λk hk=>U3 (by rw[List.getD_eq_getElem?_getD,zak (G.lt k hk)];rfl);refine⟨_,rfl,S.length,_,_,_,S2,rfl,Vx,f1,_,rfl,_,rfl,sz rfl,S.length+1,Y.map T3,_,rfl,f4.trans Wz,?_⟩;have en:cD (u.map λk=>(k.1,mz.getD k.2 []))=uX u:=by unfold cD uX;rw[zcC];rfl
    have ev:dN (u.map λk=>((k.1,mz.getD k.2 []):Kn))=u.map (HA mz):=by unfold dN;rw[zcC];rfl
    have e3:nms (u.map λk=>((k.1,mz.getD k.2 []):Kn))=u.map (·.1):=by unfold nms;rw[zcC];rfl
    have er:[D.loc S.length,.loc (S.length+1),fT v ss].map (sb (S.length+1) (.lst (Y.map T3)))=[.loc S.length,.lst (Y.map T3),fT v ss]:=by
     simp[sb,fT]
    show Q (.dat (.tup ([D.loc S.length,.loc (S.length+1),fT v ss].map (sb (S.length+1) (.lst (Y.map T3)))))) _;rw[er];have hg:∀k∈u,mz.getD k.2 []∈mz:=λk hk=>by
     rw[List.getD_eq_getElem?_getD,zak (G.lt k hk)];exact zbJ _
    obtain rfl:rs=[]:=by cases rs with|nil=>rfl|cons a b=>simp at hr2
    refine q (u.map λk=>(k.1,mz.getD k.2 [])) Y v ss o4 _ ⟨?_,?_,?_,?_,?_,?_,?_,?_,?_,?_⟩ (ho4.mono (by simp at hn3;lia)) (by rw[zaB (by lia),en,ev];exact f3) (by
     rw[List.take_set_of_le (by lia),f2];unfold gJ;rw[zcd (by rw[zcb])])
    ·rw[e3];exact zbo.mpr (G.pw.imp λh=>h.1)
    ·rw[zbR];exact hk0
    ·rw[zbR];have:=hkk.ln;lia
    ·intro x hx;let⟨k,hk,rfl⟩:=zcD.mp hx;exact G.nm k hk
    ·intro x hx;let⟨k,hk,rfl⟩:=zcD.mp hx;have:=hmz _ (hg k hk);exact⟨by show(mz.getD k.2 []).length<=20;lia,this.2⟩
    ·simpa using ht9
    ·rw[e3];exact hts
    ·rw[e3];exact hhk
    ·rw[e3];exact hss
    ·simp at hs9;lia
   ·intro t rest δ S' N' V hN';let⟨rs,n3,o4,Y,mz,he,ss,v9,X,O,I,hr2,hrs,rfl,rfl,ho4,hn3,hhe,ht9,hs9,hts,hss,G,hmz⟩:=V;cases rs with
    |nil=>simp at hr2
    |cons l rs=>
     simp only[zcq,zda.injEq] at hr2;let⟨rfl,rfl⟩:=hr2;simp only[zby] at hn3 ht9 hs9 hmz;have hlo:=hrs l (by simp);refine⟨trivial,?_⟩;let⟨ix,hix,ac⟩:=HS (L:=S.length) hhe;obtain⟨mh,hmh⟩:∃mh,mz[ix]? =some mh:=⟨_,zak (G.lt _ hix)⟩
     have hmm:=hmz mh (zaC hmh);have Nt:aP (gJ S p o4 u Y mz) (.loc (S.length+2+ix))=.lst (mh.map D.str):=by simp only[aP,U3 hmh];rfl
     have nxt:∀(o':MO)(n':Nat)(m':List Str)(X O I:Option D),Fd n' o'->n'<=n3+1->m'.length<=mh.length+1->(∀y∈m',Nm y)->N' [some (.loc p),some N.d,some (.lst (ls.map lD)),some (.loc S.length),some (.loc (S.length+1)),v5,some (.lst (kn.map D.str)),some (.str he),some (fT v ss),some (lD l),X,O,I] (gJ S p o' u Y (mz.set ix m')):=λo' n' m' X O I a1 a2 a3 a4=>
      hN' _ _ ⟨rs,n',o',Y,mz.set ix m',he,ss,_,X,O,I,rfl,λz hz=>hrs z (zaz _ hz),rfl,rfl,a1,by lia,hhe,by lia,by lia,hts,hss,by rw[zcb];exact G,Ko (λm hm=>⟨by have:=(hmz m hm).1;lia,(hmz m hm).2⟩) ⟨by lia,a4⟩⟩
     have G8:mz.set ix mh=mz:=by
      refine zbm λi=>?_;by_cases e:ix=i
      ·subst e;rw[zbk,yIp rfl,yIp (G.lt _ hix),hmh]
      ·rw[zaB e]
     cases l with
     |stay=>
      refine dI (λQ q=>ic (λQ q=>aZ (x:=.lf .stay) rfl (qF pn1.1 q)) q) (dI (λQ q=>ic (λQ q=>aZ (x:=.lf .stay) rfl (qF pn1.2.1 q)) q) (eK (λQ q=>aZ (x:=.lf .stay) rfl (qF pn1.2.2 q)) ?_));have:=nxt o4 n3 mh X O I ho4 (by lia) (by lia) hmm.2;rw[G8] at this;exact this
     |mk b m=>
      have hm:Nm m:=hlo;have hok:mh.all iu=true:=zbC.mpr λy Z=>(hmm.2 y Z).ok;have cnd:∀{neg:Bool}{Q:Bool->aA->Prop},Q (neg != decide (m∈mh)) (gJ S p o4 u Y mz)->aB (lT (qV neg) (lT mH (cT 9) (aC (.int 1))) (kB (cT 3) (cT 7))) [some (.loc p),some N.d,some (.lst (ls.map lD)),some (.loc S.length),some (.loc (S.length+1)),v5,some (.lst (kn.map D.str)),some (.str he),some (fT v ss),some (lD (.mk b m)),X,O,I] (gJ S p o4 u Y mz) Q:=λ{neg Q} q=>
       ⟨_,rfl,_,cS,_,rfl,_,rfl,_,_,_,_,hsd _ _ _,rfl,ac,Qy Nt (nq (n:=0) (ss:=mh) hm.ok (by decide) hok (by show∃b,(R.dat (.bl (neg != u5 (.str m) mh))).d=D.bl b/\_;rw[oO];refine⟨_,rfl,q⟩) (by lia))⟩
      have vf:N' [some (.loc p),some N.d,some (.lst (ls.map lD)),some (.loc S.length),some (.loc (S.length+1)),v5,some (.lst (kn.map D.str)),some (.str he),some (fT v ss),some (lD (.mk b m)),X,O,I] (gJ S p o4 u Y mz):=by
       have:=nxt o4 n3 mh X O I ho4 (by lia) (by lia) hmm.2;rw[G8] at this;exact this
      cases b with
      |true=>
       by_cases hin:m∈mh
       ·exact dI (λQ q=>jG (λQ q=>aZ (x:=.lf (.mk true m)) rfl (qT rfl q)) (cnd (by rw[yDt hin];exact q))) (dI (λQ q=>ic (λQ q=>aZ (x:=.lf (.mk true m)) rfl (qF pn2.1 q)) q) (eK (λQ q=>aZ (x:=.lf (.mk true m)) rfl (qF pn2.2.1 q)) vf))
       ·refine iZ (λQ q=>jG (λQ q=>aZ (x:=.lf (.mk true m)) rfl (qT rfl q)) (cnd (by rw[yDf hin];exact q))) ?_;refine⟨_,rfl,_,rfl,_,_,_,_,hsd _ _ _,rfl,ac,by show HH "list" (aP _ (.loc (S.length+2+ix)));rw[Nt];rfl,_,rfl,_,cS,_,_,_,rfl,rfl,U3 hmh,by rw[zbR,yaf];lia,?_⟩;rw[show mh.map D.str++[(R.dat (D.str m)).d]=(mh++[m]).map D.str by rw[zbZ];rfl,U0];refine dI (λQ q=>ic (λQ q=>aZ (x:=.lf (.mk true m)) rfl (qF pn2.1 q)) q) (eK (λQ q=>aZ (x:=.lf (.mk true m)) rfl (qF pn2.2.1 q)) ?_);refine nxt o4 n3 _ X O I ho4 (by lia) (by rw[zaR];exact zcS _) λy Z=>?_;obtain Z|Z:=zbQ.mp Z
        ·exact hmm.2 y Z
        ·rw[zaU.mp Z];exact hm
      |false=>
       refine dI (λQ q=>ic (λQ q=>aZ (x:=.lf (.mk false m)) rfl (qF pn2.2.2.1 q)) q) ?_;by_cases hin:m∈mh
       ·refine jG (λQ q=>aZ (x:=.lf (.mk false m)) rfl (qT rfl q)) (jG (λQ q=>cnd (by rw[yDt hin];exact q)) ⟨_,rfl,p,n3,2,o4,rfl,U1 hp,ho4,by lia,by decide,by decide,λz o5 hz ho5=>⟨_,rfl,?_⟩⟩);rw[Jh hp];have QB:aP (gJ S p o5 u Y mz) (.loc (S.length+2+ix))=.lst (mh.map D.str):=by simp only[aP,U3 hmh];rfl
        by_cases h0:(z:Int)=0
        ·rw[yDt h0];show if true=true then _ else _;rw[yIp rfl];refine⟨_,rfl,_,rfl,_,_,_,_,hsd _ _ _,rfl,ac,by show HH "list" (aP _ (.loc (S.length+2+ix)));rw[QB];rfl,_,rfl,_,cS,?_⟩;unfold b4;dsimp only;refine KZ (U3 hmh) hin hmm.2 (by lia) λm' h3 h4=>?_;rw[U0];exact eK (λQ q=>aZ (x:=.lf (.mk false m)) rfl (qF pn2.2.2.2.1 q)) (nxt o5 (n3+1) m' X O I ho5 (by lia) (by lia) λy Z=>hmm.2 y (h4 y Z))
        ·rw[yDf h0];show if false=true then _ else _;rw[yIn (by decide)];have:=nxt o5 (n3+1) mh X O I ho5 (by lia) (by lia) hmm.2;rw[G8] at this;exact eK (λQ q=>aZ (x:=.lf (.mk false m)) rfl (qF pn2.2.2.2.1 q)) this
       ·exact dI (λQ q=>jG (λQ q=>aZ (x:=.lf (.mk false m)) rfl (qT rfl q)) (ic (λQ q=>cnd (by rw[yDf hin];exact q)) q)) (eK (λQ q=>aZ (x:=.lf (.mk false m)) rfl (qF pn2.2.2.2.1 q)) vf)
     |step b x=>
      have hx:Nm x:=hlo;refine dI (λQ q=>ic (λQ q=>aZ (x:=.lf (.step b x)) rfl (qF pn2.2.2.2.2.1 q)) q) (dI (λQ q=>ic (λQ q=>aZ (x:=.lf (.step b x)) rfl (qF pn2.2.2.2.2.2 q)) q) (ki (λQ q=>aZ (x:=.lf (.step b x)) rfl (qT rfl q)) ?_));refine bB λN2 h2=>?_;push_cast[gm,b4,lD,bf,cS,at2];refine⟨_,cS,p,n3,3,o4,rfl,U1 hp,ho4,by lia,by decide,by decide,λz o5 hz ho5=>?_⟩;rw[Jh hp];refine p7 (by rw[N.w3];exact hz) λwd hwd=>⟨sz rfl,.inr ⟨_,rfl,?_⟩⟩
      have go:∀W:Str,Nm W->N2 [some (.loc p),some N.d,some (.lst (ls.map lD)),some (.loc S.length),some (.loc (S.length+1)),v5,some (.lst (kn.map D.str)),some (.str he),some (fT v ss),some (lD (.step b x)),some (.str W),O,I] (gJ S p o5 u Y mz):=λW ab=>h2 _ _ (by
       clear h2 N2;refine bB λN2 h2=>?_;push_cast[true_and];refine⟨kn.length,by show some _=_;rw[zbR],p,n3+1,kn.length,o5,rfl,U1 hp,ho5,by lia,by lia,by have:=hkk.ln;lia,λz3 o6 hz3 ho6=>?_⟩;rw[Jh hp];refine p7 hz3 λot hot=>h2 _ _ ?_;clear h2 N2;have LD:=hkm ot hot;refine bB λN2 h2=>?_;push_cast[iE,gm,b4];refine⟨sz rfl,sz rfl,sz rfl,h2 _ _ ?_⟩;clear h2 N2;refine bB λN2 h2=>?_;push_cast[CL,lD,bf,cS];have HL:aP (gJ S p o6 u Y mz) (.loc (S.length+1))=.lst (Y.map T3):=by simp only[aP,Wz];rfl
       have app:∀t:Ti,t.1∈u.map (·.1)/\Nm t.2.1/\t.2.2∈u.map (·.1)->CM (.loc (S.length+1)) [T3 t] (gJ S p o6 u Y mz) λ_ S1=>N2 [some (.loc p),some N.d,some (.lst (ls.map lD)),some (.loc S.length),some (.loc (S.length+1)),v5,some (.lst (kn.map D.str)),some (.str he),some (fT v ss),some (.tup [.str "step",.str (side b),.str x]),some (.str W),some (.str ot),some (.lst [.tup [.str he,.str W,.str ot],.tup [.str ot,.str W,.str he]])] S1:=λt ht=>by
        refine⟨_,Y.map T3,_,rfl,rfl,Wz,by rw[zbR,yaf];lia,?_⟩;rw[show Y.map T3++[T3 t]=(Y++[t]).map T3 by rw[zbZ];rfl,WA];refine h2 _ _ ?_;refine bB λN3 h3=>?_;push_cast[iE,b4,fT,bf,e7,cS];refine⟨sz rfl,sz rfl,qU (by rw[zbR,yaf];show ss.length+1<=_;lia) ⟨sz rfl,h3 _ _ ?_⟩⟩;clear h3 N3 h2 N2;push_cast[true_and];refine hN' _ _ ⟨rs,n3+2,o6,Y++[t],mz,ot,ss++[(b,W,ot)],_,_,_,_,rfl,λz hz=>hrs z (zaz _ hz),by rw[fT,zbZ];rfl,rfl,ho6,by lia,LD,by rw[zaR];simp;lia,by rw[zaR];simp;lia,λy Z=>?_,λy Z=>?_,G,λm hm=>⟨by have:=(hmz m hm).1;lia,(hmz m hm).2⟩⟩
        ·obtain Z|Z:=zbQ.mp Z
         ·exact hts y Z
         ·rw[zaU.mp Z];exact ht
        ·obtain Z|Z:=zbQ.mp Z
         ·exact hss y Z
         ·rw[zaU.mp Z];exact⟨LD,ab⟩
       refine⟨by rw[HL];rfl,.inr ⟨_,rfl,?_⟩⟩;by_cases hb:side b="back"
       ·rw[yDt hb];refine⟨_,cS,app (ot,W,he) ⟨LD,ab,hhe⟩⟩
       ·rw[yDf hb];refine⟨_,e7,app (he,W,ot) ⟨hhe,ab,LD⟩⟩)
      by_cases hst:x="*"
      ·rw[yDt hst];refine⟨_,cS,go wd (N.nw wd hwd)⟩
      ·rw[yDf hst];refine⟨_,e7,go x hx⟩
  ·intro t rest δ S' N' V hN';let⟨rs,n2,o2,u,ms,v5,v,hrs,rfl,rfl,ho2,hn2,hml,hkk,hk0,hms⟩:=V;cases rs with
   |nil=>simp at v
   |cons y rs=>
    simp only[zcq,zda.injEq] at v;let⟨rfl,rfl⟩:=v;simp only[zby] at hn2 hml;refine⟨trivial,?_⟩;push_cast[nC,bF,cU,dP];refine⟨_,at2,?_⟩;show bM _ _ _ _ (N.ms.map D.str) ([].map D.str) [none,some (.loc p)] _ _;refine kj (U:=λo=>gJ S p o u [] ms) (λo=>U1 hp) (λo o'=>Jh hp) N.ms [] none n2 o2 ho2 (by rw[N.m3];lia) (by rw[N.m3];decide) (by simp) N.nm λys o3 Z hyn ho3=>?_;rw[N.m3] at Z ho3;refine⟨S.length,rfl,uX u,ri S.length u,.inr y,rfl,by rw[zae (by rw[WZ];lia)];exact Vx,by unfold ri;rw[zbR];have:=hkk.ln;lia,?_⟩;rw[U4,WZ,PC,WB];let⟨a1,a2⟩:=hkk.put (hrs y (by simp));refine hN' _ _ ⟨rs,n2+3,o3,_,ms++[ys],_,rfl,λz hz=>hrs z (zaz _ hz),rfl,rfl,ho3,by lia,by rw[zaR];simp;lia,by rw[zaR];exact a1,.inr a2,λm hm=>?_⟩;obtain hm|hm:=zbQ.mp hm
    ·exact hms m hm
    ·rw[zaU.mp hm];exact⟨by simpa using Z,hyn⟩
end
open PySem L2 M M6
def aN(h:d i q)(g:rR d q j):rR d i j:=by
 induction g with
 |nil=>exact .snoc .nil h
 |snoc _ k ih=>exact .snoc ih k
def Dh(a:∀i j,d i j->i<=j)(h:rR d i j):i=j∨∃c,i<c/\c<=j/\d i c/\rR d c j:=by
 induction h with
 |nil=>simp
 |@snoc k j _ g ih=>
  obtain rfl|⟨c,h1,h2,l,e⟩:=ih
  ·obtain z|z:=zcJ i j
   ·exact .inr ⟨j,z,zcS _,g,.nil⟩
   ·exact .inl (Nat.le_antisymm (a _ _ g) z)
  ·exact .inr ⟨c,h1,zcF h2 (a _ _ g),l,.snoc e g⟩
mutual
theorem nu{W:Wr}:∀(p:Pt){i j:Nat},dh W p i j->i<=j
 |.lf l,i,j,h=>by
  simp only[dh] at h;rcases h with⟨_,rfl⟩|⟨_,rfl⟩<;>lia
 |.many p,i,j,h=>by
  simp only[dh] at h
  induction h with
  |nil=>exact zcS _
  |snoc _ g ih=>exact zcF ih (nu p g)
 |.seq ps,i,j,h=>by simp only[dh] at h;exact vd ps h
 |.alt ps,i,j,h=>by simp only[dh] at h;exact Cc ps h
theorem vd{W:Wr}:∀(ps:List Pt){i j:Nat},iG W ps i j->i<=j
 |[],i,j,h=>by simp only[iG] at h;lia
 |p::ps,i,j,h=>by
  simp only[iG] at h;obtain⟨k,h1,h2⟩:=h;exact zcF (nu p h1) (vd ps h2)
theorem Cc{W:Wr}:∀(ps:List Pt){i j:Nat},ou W ps i j->i<=j
 |[],i,j,h=>by simp only[ou] at h
 |p::ps,i,j,h=>by
  simp only[ou] at h;exact h.elim (nu p) (Cc ps)
end
def qE:dh W (.many d) i j↔i=j∨∃c,i<c/\c<=j/\dh W d i c/\dh W (.many d) c j:=by
 constructor
 ·exact Dh λ_ _=>nu d
 ·rintro(rfl|⟨c,_,_,h,g⟩)
  ·exact .nil
  ·exact aN h g
mutual
noncomputable def subs:Pt->List Pt
 |.lf l=>[.lf l]
 |.many p=>.many p::subs p
 |.seq ps=>.seq ps::dM ps
 |.alt ps=>.alt ps::dM ps
noncomputable def dM:List Pt->List Pt
 |[]=>[]
 |p::ps=>subs p++dM ps
end
mutual
theorem pC:∀p:Pt,(subs p).length<=oc p
 |.lf l=>by simp[subs,oc]
 |.many p=>by have:=pC p;simp only[subs,oc,zby];lia
 |.seq ps=>by have:=mQ ps;simp only[subs,oc,zby];lia
 |.alt ps=>by have:=mQ ps;simp only[subs,oc,zby];lia
theorem mQ:∀ps:List Pt,(dM ps).length<=iT ps
 |[]=>by simp[dM]
 |p::ps=>by have:=pC p;have:=mQ ps;simp only[dM,iT,zaR];lia
end
def mU(p:Pt):p∈subs p:=by cases p<;>simp[subs]
theorem mP:∀{ps:List Pt},q∈ps->q∈dM ps
 |p::ps,h=>by
  simp only[dM,zbQ];obtain rfl|h:=zcp.mp h
  ·exact .inl (mU q)
  ·exact .inr (mP h)
noncomputable def kids:Pt->List Pt
 |.lf _=>[]
 |.many p=>[p]
 |.seq ps|.alt ps=>ps
mutual
theorem iJ:∀(r:Pt){p q:Pt},p∈subs r->q∈kids p->q∈subs r
 |.lf l,p,q,h,hq=>by
  simp only[subs,zaU] at h;subst h;simp[kids] at hq
 |.many r,p,q,h,hq=>by
  simp only[subs,zcp] at h⊢;obtain rfl|h:=h
  ·simp only[kids,zaU] at hq;subst hq;exact .inr (mU _)
  ·exact .inr (iJ r h hq)
 |.seq ps,p,q,h,hq=>by
  simp only[subs,zcp] at h⊢;obtain rfl|h:=h
  ·exact .inr (mP hq)
  ·exact .inr (mR ps h hq)
 |.alt ps,p,q,h,hq=>by
  simp only[subs,zcp] at h⊢;obtain rfl|h:=h
  ·exact .inr (mP hq)
  ·exact .inr (mR ps h hq)
theorem mR:∀(rs:List Pt){p q:Pt},p∈dM rs->q∈kids p->q∈dM rs
 |[],p,q,h,_=>by simp[dM] at h
 |r::rs,p,q,h,hq=>by
  simp only[dM,zbQ] at h⊢;exact h.elim (λz=>.inl (iJ r z hq)) λz=>.inr (mR rs z hq)
end
noncomputable abbrev cs(x:Str):List Nat:=x.cps.toList
def gi(a b:Str):cs (a++b)=cs a++cs b:=by show(a.cps++b.cps).toList=_;simp
def Q8(h:cs d=cs g):d=g:=by
 let⟨d⟩:=d;simp_all
def Nm.low(h:Nm x):rj x:=by
 unfold Nm Qg at h;rw[zbN,zbC] at h;exact h.1
def Ct:∀c<123,xx c=true->Builtin.Str.reprChar 39 c=[c]/\c≠39:=by decide+kernel
def zT(h:xx d=true):d<123:=by
 unfold xx at h;lia
def zp(h:rj x):cs (reprText x)=39::(cs x++[39]):=by
 have j:reprQuote x=39:=by
  unfold reprQuote;rw[yIn];intro z;exact absurd (h 39 (by simp_all)) (by decide)
 unfold reprText;rw[j];show(Array.push _ 39).toList=_;rw[zbt,<-Array.foldl_toList];have key:∀(l:List Nat)(a:Array Nat),(∀c∈l,xx c=true)->(l.foldl (λout c=>out++(Builtin.Str.reprChar 39 c).toArray) a).toList=a.toList++l:=by
  intro l
  induction l with
  |nil=>simp
  |cons c l ih=>
   intro a e;have i:=e c (by simp);rw[zbX,ih _ λd hd=>e d (zaz _ hd),(Ct c (zT i) i).1];simp
 rw[key _ _ h];simp
def TY(h:rj x):39 ∉ cs x:=λz=>(Ct 39 (by decide) (h 39 z)).2 rfl
def oG(n:rj x)(j:rj y)(e:cs (reprText x)++d=cs (reprText y)++g):x=y/\d=g:=by
 rw[zp n,zp j] at e;simp only[zbH,zbj,zda.injEq,true_and,List.singleton_append] at e;have key:∀(l m:List Nat),39 ∉ l->39 ∉ m->l++39::d=m++39::g->l=m/\d=g:=by
  intro l
  induction l with
  |nil=>
   intro m _ i e;cases m with
   |nil=>simp at e;exact⟨rfl,e⟩
   |cons b m=>simp at e;exact absurd e.1 (λz=>i (by simp[z]))
  |cons a l ih=>
   intro m o i e;cases m with
   |nil=>simp at e;exact absurd e.1.symm (λz=>o (by simp[z]))
   |cons b m=>
    simp only[zbH,zda.injEq] at e;let⟨rfl,e⟩:=e;let⟨rfl,h⟩:=ih m (λz=>o (zaz _ z)) (λz=>i (zaz _ z)) e;exact⟨rfl,h⟩
 let⟨h1,h2⟩:=key _ _ (TY n) (TY j) e;exact⟨Q8 h1,h2⟩
noncomputable def sh(p:Pt):Str:=(py (tD p)).shown
noncomputable abbrev Ec(p:Pt):List Nat:=cs (sh p)
def kQ(ds:List D):di ds=ds.map py:=by
 induction ds with
 |nil=>rfl
 |cons d ds ih=>simp only[di,ih,zcq]
def lz(x:Str)(y:Str)(r:List Str):Str.join ", " (x::y::r)=x++", "++Str.join ", " (y::r):=rfl
def uh(ds:List D):cs (py (.tup ds)).shown=40::(cs (Str.join ", " (PyData.shownAll (di ds)))++if ds.length=1 then [44,41] else [41]):=by
 rw[show py (.tup ds)=.tuple (di ds) by simp[py],PyData.shown_tuple,gi,gi,kQ,zbR];by_cases h:ds.length=1
 ·rw[yIp h,show(ds.length==1)=true by simp[h]];rfl
 ·rw[yIn h,show(ds.length==1)=false by simp[h]];rfl
def um(d:D):PyData.shownAll (di [d])=[(py d).shown]:=by rfl
def Kh(d e:D):PyData.shownAll (di [d,e])=[(py d).shown,(py e).shown]:=by simp only[di,PyData.shownAll]
def Kg(d e f:D):PyData.shownAll (di [d,e,f])=[(py d).shown,(py e).shown,(py f).shown]:=by rfl
def Dk(x:Str):(py (.str x)).shown=reprText x:=by rfl
def ug(a:Str)(d:D):cs (py (.tup [.str a,d])).shown=40::(cs (reprText a)++44::32::(cs (py d).shown++[41])):=by
 rw[uh,Kh,lz,gi,gi,Dk];show 40::((_++[44,32]++cs (py d).shown)++[41])=_;simp
noncomputable def Rs:Pt->List Nat
 |.lf .stay=>[44,41]
 |.lf (.step b x)=>44::32::(cs (reprText (side b))++44::32::(cs (reprText x)++[41]))
 |.lf (.mk _ m)=>44::32::(cs (reprText m)++[41])
 |.many p=>44::32::(Ec p++[41])
 |.seq ps|.alt ps=>44::32::(cs (py (.tup (iA ps))).shown++[41])
def yz(p:Pt):Ec p=40::(cs (reprText (hdS p))++Rs p):=by
 cases p with
 |lf l=>
  cases l with
  |stay=>
   show cs (py (.tup [.str "stay"])).shown=_;rw[uh];rfl
  |step b x=>
   show cs (py (.tup [.str "step",.str (side b),.str x])).shown=_;rw[uh,Kg,lz,lz,gi,gi,gi,gi,Dk,Dk];show 40::((_++[44,32]++(_++[44,32]++cs (reprText x)))++[41])=40::(cs (reprText "step")++_);simp[Rs]
  |mk b m=>
   show cs (py (.tup [.str (JS b),.str m])).shown=_;rw[ug];rfl
 |many p=>exact ug _ _
 |seq ps=>exact ug _ _
 |alt ps=>exact ug _ _
noncomputable def b2:List Pt->List Nat
 |[]=>[]
 |[p]=>Ec p++[41]
 |p::q::r=>Ec p++44::32::b2 (q::r)
noncomputable def bT:List Pt->List Nat
 |[]=>[41]
 |[p]=>Ec p++[44,41]
 |p::q::r=>Ec p++44::32::b2 (q::r)
theorem NG:∀(p:Pt)(r:List Pt),cs (Str.join ", " (PyData.shownAll (di (iA (p::r)))))++[41]=b2 (p::r)
 |p,[]=>by
  rfl
 |p,q::r=>by
  have e:PyData.shownAll (di (iA (p::q::r)))=sh p::PyData.shownAll (di (iA (q::r))):=by rfl
  have a:PyData.shownAll (di (iA (q::r)))=sh q::PyData.shownAll (di (iA r)):=by rfl
  rw[e,a,lz,<-a,gi,gi];show((Ec p++[44,32])++_)++[41]=Ec p++44::32::b2 (q::r);rw[<-(NG q r)];simp
def CB(ps:List Pt):cs (py (.tup (iA ps))).shown=40::bT ps:=by
 rw[uh];cases ps with
 |nil=>rfl
 |cons p r=>
  cases r with
  |nil=>
   rfl
  |cons q r=>
   rw[yIn (by simp[iA])];have:=NG p (q::r);rw[this];rfl
def zY(p:Pt):rj (hdS p):=by
 cases p with
 |lf l=>
  cases l with
  |stay=>exact gf (by rfl)
  |step=>exact gf (by rfl)
  |mk b _=>
   cases b with
   |true=>exact gf (by rfl)
   |false=>exact gf (by rfl)
 |many=>exact gf (by rfl)
 |seq=>exact gf (by rfl)
 |alt=>exact gf (by rfl)
def pJ(b:Bool):rj (side b):=by cases b<;>exact gf (by rfl)
noncomputable def knd:Pt->Nat
 |.lf .stay=>0
 |.lf (.step _ _)=>1
 |.lf (.mk true _)=>2
 |.lf (.mk false _)=>3
 |.many _=>4
 |.seq _=>5
 |.alt _=>6
noncomputable def Vp:Nat->Str
 |0=>"stay"
 |1=>"step"
 |2=>"at"
 |3=>"off"
 |4=>"many"
 |5=>"then"
 |_=>"either"
def LH:∀i<7,∀j<7,Vp i=Vp j->i=j:=by decide+kernel
def ni(p:Pt):hdS p=Vp (knd p)/\knd p<7:=by
 cases p with
 |lf l=>
  cases l with
  |stay=>exact⟨rfl,by decide⟩
  |step=>exact⟨rfl,by simp[knd]⟩
  |mk b _=>cases b<;>exact⟨rfl,by simp[knd]⟩
 |_=>exact⟨rfl,by simp[knd]⟩
def FA(h:side d=side g):d=g:=by
 cases d<;>cases g<;>first|rfl|exact absurd h (by decide+kernel)
def jZ(h:∀{s t:List Nat},knd d=knd q->Rs d++s=Rs q++t->d=q/\s=t){s t:List Nat}(e:Ec d++s=Ec q++t):d=q/\s=t:=by
 rw[yz d,yz q] at e;simp only[zbH,zbj,zda.injEq,true_and] at e;let⟨h1,h2⟩:=oG (zY d) (zY q) e;rw[(ni d).1,(ni q).1] at h1;exact h (LH _ (ni d).2 _ (ni q).2 h1) h2
mutual
theorem d9:∀(p:Pt),fB p->∀(q:Pt),fB q->knd p=knd q->∀{s t:List Nat},Rs p++s=Rs q++t->p=q/\s=t
 |.lf .stay,hp,q,hq,a,s,t,e=>by
  cases q with
  |lf l=>
   cases l with
   |stay=>simp[Rs] at e;exact⟨rfl,e⟩
   |step=>simp[knd] at a
   |mk b _=>cases b<;>simp[knd] at a
  |_=>simp[knd] at a
 |.lf (.step b x),hp,q,hq,a,s,t,e=>by
  cases q with
  |lf l=>
   cases l with
   |stay=>simp[knd] at a
   |step b' x'=>
    simp only[Rs,zbH,zbj,zda.injEq,true_and] at e;obtain⟨h1,e⟩:=oG (pJ b) (pJ b') e;simp only[zda.injEq,true_and] at e;obtain⟨rfl,e⟩:=oG (Nm.low hp) (Nm.low hq) e;obtain rfl:=FA h1;simp at e;exact⟨rfl,e⟩
   |mk b _=>cases b<;>simp[knd] at a
  |_=>simp[knd] at a
 |.lf (.mk b m),hp,q,hq,a,s,t,e=>by
  cases q with
  |lf l=>
   cases l with
   |stay=>cases b<;>simp[knd] at a
   |step=>cases b<;>simp[knd] at a
   |mk b' m'=>
    simp only[Rs,zbH,zbj,zda.injEq,true_and] at e;obtain⟨rfl,e⟩:=oG (Nm.low hp) (Nm.low hq) e;simp at e;cases b<;>cases b'<;>first|exact⟨rfl,e⟩|simp[knd] at a
  |_=>cases b<;>simp[knd] at a
 |.many p,hp,q,hq,a,s,t,e=>by
  cases q with
  |many q=>
   simp only[Rs,zbH,zbj,zda.injEq,true_and] at e;obtain⟨rfl,e⟩:=jZ (λa e=>d9 p hp q hq a e) e;simp at e;exact⟨rfl,e⟩
  |lf l=>
   cases l with
   |mk b _=>cases b<;>simp[knd] at a
   |_=>simp[knd] at a
  |_=>simp[knd] at a
 |.seq ps,hp,q,hq,a,s,t,e=>by
  cases q with
  |seq qs=>
   simp only[Rs,CB,zbH,zbj,zda.injEq,true_and] at e;obtain⟨rfl,e⟩:=CA ps hp qs hq e;simp at e;exact⟨rfl,e⟩
  |lf l=>
   cases l with
   |mk b _=>cases b<;>simp[knd] at a
   |_=>simp[knd] at a
  |_=>simp[knd] at a
 |.alt ps,hp,q,hq,a,s,t,e=>by
  cases q with
  |alt qs=>
   simp only[Rs,CB,zbH,zbj,zda.injEq,true_and] at e;obtain⟨rfl,e⟩:=CA ps hp qs hq e;simp at e;exact⟨rfl,e⟩
  |lf l=>
   cases l with
   |mk b _=>cases b<;>simp[knd] at a
   |_=>simp[knd] at a
  |_=>simp[knd] at a
theorem CA:∀(ps:List Pt),mF ps->∀(i:List Pt),mF i->∀{s t:List Nat},bT ps++s=bT i++t->ps=i/\s=t
 |[],_,[],_,s,t,e=>by simp[bT] at e;exact⟨rfl,e⟩
 |[],_,q::r,_,s,t,e=>by
  cases r<;>·simp only[bT] at e;rw[yz q] at e;simp at e
 |p::r,hp,[],_,s,t,e=>by
  cases r<;>·simp only[bT] at e;rw[yz p] at e;simp at e
 |[p],hp,[q],hq,s,t,e=>by
  simp only[bT,zbj] at e;obtain⟨rfl,e⟩:=jZ (λa e=>d9 p hp.1 q hq.1 a e) e;simp at e;exact⟨rfl,e⟩
 |[p],hp,q::q2::r,hq,s,t,e=>by
  simp only[bT,zbj] at e;have:=(jZ (λa e=>d9 p hp.1 q hq.1 a e) e).2;simp at this
 |p::j::r,hp,[q],hq,s,t,e=>by
  simp only[bT,zbj] at e;have:=(jZ (λa e=>d9 p hp.1 q hq.1 a e) e).2;simp at this
 |p::j::r,hp,q::q2::r2,hq,s,t,e=>by
  simp only[bT,zbj] at e;obtain⟨m,l⟩:=jZ (λa e=>d9 p hp.1 q hq.1 a e) e;simp only[zbH,zda.injEq,true_and] at l;obtain⟨h,n⟩:=CC (j::r) hp.2 (q2::r2) hq.2 (by simp) (by simp) l;exact⟨by rw[m,h],n⟩
theorem CC:∀(ps:List Pt),mF ps->∀(i:List Pt),mF i->ps≠[]->i≠[]->∀{s t:List Nat},b2 ps++s=b2 i++t->ps=i/\s=t
 |[],_,_,_,h,_,_,_,_=>absurd rfl h
 |_::_,_,[],_,_,h,_,_,_=>absurd rfl h
 |[p],hp,[q],hq,_,_,s,t,e=>by
  simp only[b2,zbj] at e;obtain⟨rfl,e⟩:=jZ (λa e=>d9 p hp.1 q hq.1 a e) e;simp at e;exact⟨rfl,e⟩
 |[p],hp,q::q2::r,hq,_,_,s,t,e=>by
  simp only[b2,zbj] at e;have:=(jZ (λa e=>d9 p hp.1 q hq.1 a e) e).2;simp at this
 |p::j::r,hp,[q],hq,_,_,s,t,e=>by
  simp only[b2,zbj] at e;have:=(jZ (λa e=>d9 p hp.1 q hq.1 a e) e).2;simp at this
 |p::j::r,hp,q::q2::r2,hq,_,_,s,t,e=>by
  simp only[b2,zbj] at e;obtain⟨m,l⟩:=jZ (λa e=>d9 p hp.1 q hq.1 a e) e;simp only[zbH,zda.injEq,true_and] at l;obtain⟨h,n⟩:=CC (j::r) hp.2 (q2::r2) hq.2 (by simp) (by simp) l;exact⟨by rw[m,h],n⟩
end
def OG(i:fB d)(a:fB q)(h:sh d=sh q):d=q:=(jZ (λj e=>d9 d i q a j e) (s:=[]) (t:=[]) (by simp_all)).1
theorem sub_len{h:Type}[DecidableEq h]:∀(l L:List h),l.Nodup->(∀x∈l,x∈L)->l.length<=L.length
 |[],_,_,_=>zcT _
 |a::l,L,h1,h2=>by
  rw[zbT] at h1;have j:=h2 a (by simp);have:=sub_len l (L.erase a) h1.2 λx i=>(zaD (λe:x=a=>h1.1 (e▸i))).mpr (h2 x (zaz _ i));rw[zal j] at this;have:=zap j;rw[zby];lia
def Bd(l:List Nat)(n:Nat):Prop:=l.length<=n/\∀c∈l,c<128
def Bd.app{a b:Nat}(h:Bd d a)(g:Bd k b):Bd (d++k) (a+b):=⟨by rw[zaR];have:=h.1;have:=g.1;lia,λc e=>(zbQ.mp e).elim (h.2 c) (g.2 c)⟩
def Bd.cons{l:List Nat}{a c:Nat}(h:Bd l a)(i:c<128):Bd (c::l) (a+1):=⟨by rw[zby];have:=h.1;lia,λd hd=>(zcp.mp hd).elim (λe=>e▸i) (h.2 d)⟩
def Bd.nil:Bd [] 0:=⟨zcS _,by simp⟩
def Bd.le(h:Bd d g)(e:g<=k):Bd d k:=⟨zcF h.1 e,h.2⟩
def Bs(h:rj x)(e:x.length<=8):Bd (cs (reprText x)) 10:=by
 rw[zp h];refine((Bd.app (a:=8) ⟨?_,λc i=>by have:=zT (h c i);lia⟩ (Bd.nil.cons (by decide))).cons (by decide)).le (by decide);exact e
def QC(p:Pt):(hdS p).length<=8:=by
 have h:∀i<7,(Vp i).length<=8:=by decide+kernel
 rw[(ni p).1];exact h _ (ni p).2
def Nm.len(h:Nm x):x.length<=8:=by
 unfold Nm Qg at h;rw[zbN] at h;exact of_decide_eq_true h.2
def nI(h:Bd (Rs d) n):Bd (Ec d) (n+11):=by
 rw[yz];exact(((Bs (zY d) (QC d)).app h).cons (by decide)).le (by lia)
mutual
theorem tK:∀p:Pt,fB p->Bd (Rs p) (50*oc p - 13)
 |.lf .stay,_=>by simp only[Rs,oc];exact((Bd.nil.cons (by decide)).cons (by decide)).le (by decide)
 |.lf (.step b x),h=>by
  simp only[Rs,oc];exact((((Bs (pJ b) (by cases b<;>decide+kernel)).app (((((Bs (Nm.low h) (Nm.len h)).app (Bd.nil.cons (by decide))).cons (by decide)).cons (by decide)))).cons (by decide)).cons (by decide)).le (by decide)
 |.lf (.mk b m),h=>by
  simp only[Rs,oc];exact(((((Bs (Nm.low h) (Nm.len h)).app (Bd.nil.cons (by decide))).cons (by decide)).cons (by decide))).le (by decide)
 |.many p,h=>by
  simp only[Rs,oc];have:=dD p;exact((((nI (tK p h)).app (Bd.nil.cons (by decide))).cons (by decide)).cons (by decide)).le (by lia)
 |.seq ps,h=>by
  simp only[Rs,oc,CB];exact(((((NF ps h).cons (by decide)).app (Bd.nil.cons (by decide))).cons (by decide)).cons (by decide)).le (by lia)
 |.alt ps,h=>by
  simp only[Rs,oc,CB];exact(((((NF ps h).cons (by decide)).app (Bd.nil.cons (by decide))).cons (by decide)).cons (by decide)).le (by lia)
theorem NF:∀ps:List Pt,mF ps->Bd (bT ps) (50*iT ps+2)
 |[],_=>by simp only[bT];exact(Bd.nil.cons (by decide)).le (by decide)
 |[p],h=>by
  simp only[bT,iT];have:=dD p;exact((nI (tK p h.1)).app ((Bd.nil.cons (by decide)).cons (by decide))).le (by lia)
 |p::q::r,h=>by
  simp only[bT];have:=dD p;exact((nI (tK p h.1)).app (((NH (q::r) h.2).cons (by decide)).cons (by decide))).le (by simp only[iT];lia)
theorem NH:∀ps:List Pt,mF ps->Bd (b2 ps) (50*iT ps)
 |[],_=>by simp only[b2];exact Bd.nil
 |[p],h=>by
  simp only[b2,iT];have:=dD p;exact((nI (tK p h.1)).app (Bd.nil.cons (by decide))).le (by lia)
 |p::q::r,h=>by
  simp only[b2];have:=dD p;exact((nI (tK p h.1)).app (((NH (q::r) h.2).cons (by decide)).cons (by decide))).le (by simp only[iT];lia)
end
def N7(h:fB d):Bd (Ec d) (50*oc d):=by have:=dD d;exact(nI (tK d h)).le (by lia)
def FD(h:fB d):(PyData.str (sh d)).canLay0=true:=by
 show PyData.strOk (sh d)=true;unfold PyData.strOk;rw[<-Array.all_toList];exact zbC.mpr λc a=>yDt (by have:=(N7 h).2 c a;lia)
mutual
theorem uf:∀p:Pt,(py (tD p)).showable=true
 |.lf l=>by cases l<;>rfl
 |.many p=>by simp only[tD,py,di,PyData.showable,PyData.showableAll,uf p,zcx]
 |.seq ps=>by simp only[tD,py,di,PyData.showable,PyData.showableAll,pK ps,zcx]
 |.alt ps=>by simp only[tD,py,di,PyData.showable,PyData.showableAll,pK ps,zcx]
theorem pK:∀ps:List Pt,PyData.showableAll (di (iA ps))=true
 |[]=>rfl
 |p::ps=>by simp only[iA,di,PyData.showableAll,uf p,pK ps,zcx]
end
mutual
theorem H9:∀p:Pt,dp p<=oc p
 |.lf l=>by simp[dp,oc]
 |.many p=>by have:=H9 p;simp only[dp,oc];lia
 |.seq ps=>by have:=Ah ps;simp only[dp,oc];lia
 |.alt ps=>by have:=Ah ps;simp only[dp,oc];lia
theorem Ah:∀ps:List Pt,xK ps<=iT ps
 |[]=>zcS _
 |p::ps=>by have:=H9 p;have:=Ah ps;simp only[xK,iT];lia
end
def KU(h:fB d)(i:oc d<=48)(q:g (.dat (.str (sh d))) S):CH [tD d] S g:=by
 have a:=mL d;have hd:=H9 d;refine⟨tD d,rfl,?_⟩;rw[(kJ (S:=S) a)];refine⟨a,uf d,zcF (yN _ _ (MG _ d (zcS _) h (by lia))).2.2 (by lia),?_,q⟩;have:=(N7 h).1;rw[zaN] at this;rw[yaf];show(sh d).length<=_;exact zcF this (by lia)
open PySem L2 M M6
noncomputable abbrev S8:Stmt:=top 41
noncomputable abbrev NX:List Str:=["_law_known","_law_way","_law_pattern_here","_law_first","_law_last","_law_key"]
noncomputable abbrev fZ:=NX.take 5
def OP:aE NX fZ (aj S8):=L2.cy
noncomputable abbrev NZ:List Str:=["_law_known","_law_way","_law_pattern_here","_law_first","_law_last","_law_some"]
noncomputable abbrev tM:=NZ.take 5
def SD:aE NZ tM (aj (top 42)):=L2.cy
noncomputable abbrev CY:List Str:=["_law_known","_law_way","_law_pattern_here","_law_first","_law_last","_law_cut_here"]
noncomputable abbrev jI:=CY.take 5
def FO:aE CY jI (aj (top 39)):=L2.cy
noncomputable abbrev JG:List Str:=["_law_known","_law_way","_law_parts","_law_first","_law_last","_law_places","_law_part","_law_found","_law_one","_law_cut_here"]
noncomputable abbrev nG:=JG.take 5
def pN:aE JG nG (aj (top 40)):=L2.cy
noncomputable def oz(ss:List Sp)(a:List (List Str)):D:=.tup [.tup (ss.map iB),.lst (a.map λm=>.lst (m.map D.str))]
noncomputable def wq(ss:List Sp)(a:List (List Str)):Wr:=⟨λi=>a[i]?.getD (a.headD []),λi=>(ss[i]?.map (side ·.1)).getD "",λi=>(ss[i]?.map (·.2.1)).getD ""⟩
structure Cn(r:Pt)(ss:List Sp)(mss:List (List Str)):Prop where
 ok:fB r
 oc:oc r<=48
 Vk:ss.length<=30
 ml:mss.length=ss.length+1
 mm:∀m∈mss,m.length<=20/\∀y∈m,Nm y
 ws:∀s∈ss,Nm s.2.1
mutual
theorem cR:∀{r p:Pt},fB r->p∈subs r->fB p
 |.lf l,p,h,a=>by simp only[subs,zaU] at a;subst a;exact h
 |.many r,p,h,a=>by
  simp only[subs,zcp] at a;obtain rfl|a:=a
  ·exact h
  ·exact cR (r:=r) h a
 |.seq ps,p,h,a=>by
  simp only[subs,zcp] at a;obtain rfl|a:=a
  ·exact h
  ·exact nc (rs:=ps) h a
 |.alt ps,p,h,a=>by
  simp only[subs,zcp] at a;obtain rfl|a:=a
  ·exact h
  ·exact nc (rs:=ps) h a
theorem nc:∀{rs:List Pt}{p:Pt},mF rs->p∈dM rs->fB p
 |[],p,_,hp=>by simp[dM] at hp
 |r::rs,p,h,hp=>by
  simp only[dM,zbQ] at hp;exact hp.elim (cR (r:=r) h.1) (nc (rs:=rs) h.2)
end
mutual
theorem oM:∀{r p:Pt},p∈subs r->oc p<=oc r
 |.lf l,p,a=>by simp only[subs,zaU] at a;subst a;exact zcS _
 |.many r,p,a=>by
  simp only[subs,zcp] at a;obtain rfl|a:=a
  ·exact zcS _
  ·have:=oM (r:=r) a;simp only[oc];lia
 |.seq ps,p,a=>by
  simp only[subs,zcp] at a;obtain rfl|a:=a
  ·exact zcS _
  ·have:=qd (rs:=ps) a;simp only[oc];lia
 |.alt ps,p,a=>by
  simp only[subs,zcp] at a;obtain rfl|a:=a
  ·exact zcS _
  ·have:=qd (rs:=ps) a;simp only[oc];lia
theorem qd:∀{rs:List Pt}{p:Pt},p∈dM rs->oc p<=iT rs
 |[],p,hp=>by simp[dM] at hp
 |r::rs,p,hp=>by
  simp only[dM,zbQ] at hp;simp only[iT];obtain h|h:=hp
  ·have:=oM (r:=r) h;lia
  ·have:=qd (rs:=rs) h;lia
end
noncomputable def kD(q:Pt)(i j:Nat):D:=.tup [.str (sh q),.int i,.int j]
def ie(r:Pt)(W:Wr)(n:Nat)(es:List (D×D)):Prop:=(es.map (·.1)).Nodup/\∀e∈es,∃(q:Pt)(i j:Nat)(b:Bool),e=(kD q i j,.bl b)/\q∈subs r/\i<=n/\j<=n/\(b=true↔dh W q i j)
def HE(n:fB q)(e:fB d)(h:py (kD q i j)=py (kD d g k)):q=d/\i=g/\j=k:=by
 simp only[kD,py,di,PyData.tuple.injEq,zda.injEq,PyData.str.injEq] at h;refine⟨OG n e h.1,by lia,by lia⟩
def ie.put(h:ie r W n k)(t:fB r)(u:q∈subs r)(I:i<=n)(H:j<=n)(m:d=true↔dh W q i j):ie r W n (wG k (kD q i j) (.bl d))/\rL (wG k (kD q i j) (.bl d)) (kD q i j)=some (.bl d):=by
 unfold wG;by_cases g:n9 k (kD q i j)=true
 ·rw[yIp g];refine⟨⟨?_,λe l=>?_⟩,?_⟩
  ·rw[zcC,show((λx=>x.1) ∘ λe=>if py e.1=py (kD q i j) then(e.1,D.bl d) else e)=λe=>e.1 from funext λe=>by lia];exact h.1
  ·let⟨C,s,rfl⟩:=zcD.mp l;let⟨E,G,F,Q,rfl,h1,h2,y,O⟩:=h.2 C s;by_cases c:py (kD E G F)=py (kD q i j)
   ·let⟨rfl,rfl,rfl⟩:=HE (cR t h1) (cR t u) c;rw[yIp rfl];refine⟨_,_,_,d,rfl,h1,h2,y,m⟩
   ·rw[yIn c];refine⟨_,_,_,_,rfl,h1,h2,y,O⟩
  ·unfold rL;let⟨e,l,o⟩:=zbE.mp g;have P:((λe=>decide (py e.1=py (kD q i j))) ∘ λe=>if py e.1=py (kD q i j) then(e.1,D.bl d) else e)=λe=>decide (py e.1=py (kD q i j)):=funext λe=>by lia
   cases v:k.find? (λe=>decide (py e.1=py (kD q i j))) with
   |none=>exact absurd o (List.find?_eq_none.mp v e l)
   |some C=>
    grind
 ·rw[yIn g];have g:=λe l c=>g (zbE.mpr ⟨e,l,yDt c⟩);refine⟨⟨?_,λe l=>?_⟩,?_⟩
  ·rw[zbZ];refine zbl.mpr ⟨h.1,by simp,λa L d m=>?_⟩;grind
  ·obtain l|l:=zbQ.mp l
   ·exact h.2 e l
   ·rw[zaU.mp l];refine⟨_,_,_,_,rfl,u,I,H,m⟩
  ·unfold rL;rw[List.find?_append,List.find?_eq_none.mpr λe l=>by simpa using g e l];simp
def ie.get(h:ie r W n d)(m:fB r)(o:q∈subs r)(g:n9 d (kD q i j)=true):∃b,rL d (kD q i j)=some (.bl b)/\(b=true↔dh W q i j):=by
 unfold rL;let⟨e,t,a⟩:=zbE.mp g;cases l:d.find? (λe=>decide (py e.1=py (kD q i j))) with
 |none=>exact absurd a (List.find?_eq_none.mp l e t)
 |some e'=>
  let⟨x,C,y,v,rfl,h1,h2,E,u⟩:=h.2 e' (List.mem_of_find?_eq_some l);let⟨rfl,rfl,rfl⟩:=HE (cR m h1) (cR m o) (by have s:=List.find?_some l;exact of_decide_eq_true s);refine⟨v,rfl,u⟩
def ie.len(h:ie r W n d)(o:(subs r).length<=50)(s:n<=30):d.length<50000:=by
 have:=@sub_len D (λ_ _=>Classical.propDecidable _) (d.map (·.1)) ((subs r).flatMap λq=>(zcX 31).flatMap λi=>(zcX 31).map λj=>kD q i j) h.1 λk a=>by
  let⟨e,m,rfl⟩:=zcD.mp a;let⟨q,i,j,b,rfl,h1,h2,u,t⟩:=h.2 e m;exact List.mem_flatMap.mpr ⟨q,h1,List.mem_flatMap.mpr ⟨i,zcj.mpr (by lia),zcD.mpr ⟨j,zcj.mpr (by lia),rfl⟩⟩⟩
 rw[zbR] at this;have e:((subs r).flatMap λq=>(zcX 31).flatMap λi=>(zcX 31).map λj=>kD q i j).length=(subs r).length*961:=by
  generalize subs r=l
  induction l with
  |nil=>rfl
  |cons q l ih=>
   rw[List.flatMap_cons,zaR,zby];have:((zcX 31).flatMap λi=>(zcX 31).map λj=>kD q i j).length=961:=by rfl
   lia
 lia
def kc(h:ie r W n d)(k:Nat):gZ k (gO w none d)=true:=by
 refine dJ _ _ ?_;have:∀l,(∀e∈l,b8 e.1=true/\b8 e.2=true)->bQ (inter l)=true:=λl=>by
  induction l with
  |nil=>exact λ_=>rfl
  |cons e l ih=>
   intro h;simp only[inter,bQ,(h e (by simp)).1,(h e (by simp)).2,ih λx a=>h x (zaz _ a),zcx]
 exact this d λe m=>by
  let⟨q,i,j,b,rfl,_⟩:=h.2 e m;exact⟨rfl,rfl⟩
def BW(h:(PyData.str (sh q)).canLay0=true):cO (kD q i j):=by
 refine⟨rfl,?_,?_,_,rfl⟩
 ·simp only[kD,py,di,bP,eF,h,zcx]
 ·simp[kD,py,di,PyData.depth,PyData.depthAll]
section
variable {w:yak}
def OB(c:Pt->Prop)(W:yak)(t:Nat):AN:=λn S Q=>∃(a:Nat)(r p:Pt)(h:List Sp)(e:List (List Str))(i j:Nat)(m:List (D×D)),n=[.loc a,oz h e,tD p,.int i,.int j]/\S[a]? =some (some (gO W none m))/\ie r (wq h e) h.length m/\Cn r h e/\p∈subs r/\i<=j/\j<=h.length/\(j - i)+dp p<=t/\c p/\
 ∀(v:Bool)(l:List (D×D)),(v=true↔dh (wq h e) p i j)->ie r (wq h e) h.length l->Q (.dat (.bl v)) (S.set a (some (gO W none l)))
abbrev OC:=OB λ_=>True
def Wq(T:Txt K mg C fi)(F:Src K mg "_law_fits" fZ S8)(t:Nat)(ht:t<=60)(l:Def P w K mg base (3*t+3) "_law_fits_anew" tM (av K (OC w t))):Def P w K mg base (3*t+4) "_law_fits" fZ (av K (OC w t)):=by
 refine eU F OP (λds S Q h=>?_) (λf cdv A outer s H E L=>?_)
 ·let⟨a,r,p,y,n,i,j,m,rfl,_⟩:=h;rfl
 ·refine⟨_,(W7 (Xd 5 OP.nd (Xg (W6 (Xo (M.zH L) T.repr (W8 (W5 2))) (W6 (W5 3) (W8 (W5 4)))))) (W7 (Xk (Xi (M.G4 L) (W5 5) (W5 0) rfl) (W9 (M.uA L (W5 0) (W5 5) (Xy l (L.mono (by lia)) (by rfl) (W6 (W5 0) (W6 (W5 1) (W6 (W5 2) (W6 (W5 3) (W8 (W5 4))))))) rfl)) Xl) (W9 (Xj (M.uF L (W5 0) (W5 5) (λ_ _=>rfl)))))),λds S Q h=>?_⟩;let⟨a,r,p,y,n,i,j,m,rfl,G,X,o,O,U,hj,hd,_,q⟩:=h;have e0:aJ NX [.loc a,oz y n,tD p,.int i,.int j]=[some (.loc a),some (oz y n),some (tD p),some (.int i),some (.int j),none]:=rfl;rw[e0];push_cast[true_and];have hok:=cR o.ok O;have Y:cO (kD p i j):=BW (FD hok);have Z:∀{m:List (D×D)},ie r (wq y n) y.length m->yy m:=λ{m} h e he=>by
   let⟨q,i,j,b,rfl,h1,_⟩:=h.2 e he;exact BW (FD (cR o.ok h1))
  have I:(subs r).length<=50:=zcF (pC r) (zcF o.oc (by decide));refine KU hok (zcF (oM O) o.oc) ⟨sz rfl,a,none,m,rfl,G,Y,Z X,_,rfl,?_⟩;show if(true != n9 m (kD p i j))=true then _ else _;by_cases g:n9 m (kD p i j)=true
  ·rw[g];let⟨b,hg,hb⟩:=X.get o.ok O g;refine⟨_,rfl,_,rfl,a,none,m,_,rfl,G,Y,Z X,hg,b6 rfl ?_⟩;have:=q b m hb X
   rwa [set_same G] at this
  ·rw[show n9 m (kD p i j)=false by simp_all,yIp (by decide)];refine⟨_,rfl,_,rfl,_,rfl,_,rfl,_,rfl,a,r,p,y,n,i,j,m,rfl,G,X,o,O,U,hj,hd,trivial,λv x hv u=>?_⟩;let⟨k1,k2⟩:=u.put o.ok O (zcF U hj) hj hv;refine⟨_,rfl,_,rfl,a,x,rfl,aX G,Y,Z u,by have:=u.len I o.Vk;lia,?_⟩;refine⟨_,rfl,_,rfl,a,none,_,_,rfl,aX (aX G),Y,Z k1,k2,?_⟩;rw[zcB];exact cQ rfl (kc k1 _) (q v _ hv k1)
def Vi(W:yak)(t:Nat):AN:=λe S Q=>∃a,t=a+1/\OC W a e S Q
def HJ(p:Pt):Prop:=∃x,p=.many x
def QY(T:Txt K mg C fi)(F:Src K mg "_law_cut" jI (top 39))(t:Nat)(ht:t<=60)(l:Def P w K mg base (3*t+1) "_law_fits" fZ (av K (Vi w t))):Def P w K mg base (3*t+2) "_law_cut" jI (av K (OB HJ w t)):=by
 refine eU F FO (λds S Q h=>?_) (λf cdv A outer s H E G=>?_)
 ·let⟨a,r,p,n,e,i,j,es,rfl,_⟩:=h;rfl
 ·refine⟨_,(W7 (Xk (Xi (Xm G) (W5 3) (W5 4) (aF _)) (W9 (Xj XH)) Xl) (W7 (Xw PassesOwn.never rfl (M.jz (by rfl) T.range (W6 (Xf Xq (W5 3) Xc) (W6 (Xf Xq (W5 4) Xc) Xa))) (Xn 5 FO.nd) (W9 (Xk (XU (Xy l (G.mono (by lia)) (by rfl) (W6 (W5 0) (W6 (W5 1) (W6 (Xb (W5 2)) (W6 (W5 3) (W8 (W5 5)))))))) (W9 (Xk (XU (Xy l (G.mono (by lia)) (by rfl) (W6 (W5 0) (W6 (W5 1) (W6 (W5 2) (W6 (W5 5) (W8 (W5 4)))))))) (W9 (Xj XH)) Xl)) Xl))) (W9 (Xj XH)))),λds S Q h=>?_⟩;let⟨a,r,_,n,e,i,j,es,rfl,hS,hK,hC,hp,hij,hj,hd,⟨x,rfl⟩,q⟩:=h;have e0:aJ CY [.loc a,oz n e,tD (.many x),.int i,.int j]=[some (.loc a),some (oz n e),some (tD (.many x)),some (.int i),some (.int j),none]:=rfl;rw[e0];have hx:x∈subs r:=iJ r hp (by simp[kids]);simp only[dp] at hd;obtain⟨t,rfl⟩:∃t',t=t'+1:=⟨t - 1,by lia⟩
  have W:=set_same hS;push_cast[fP,M.qz];refine gg (λh=>?_) (λh=>?_)
  ·have h:i=j:=by have:=of_decide_eq_true h;lia
   have:=q true es ⟨λ_=>qE.mpr (.inl h),λ_=>rfl⟩ hK
   rwa [W] at this
  ·have h:i≠j:=by have:=of_decide_eq_false (by simpa using h:decide ((i:Int)=(j:Int))=false);lia
   have h30:=hC.Vk;refine⟨by lia,by lia,by lia,by lia,?_⟩;show dO _ _ _ ((zcX ((j:Int)+1 - ((i:Int)+1)).toNat).map λk:Nat=>D.int ((i:Int)+1+(k:Int))) _ _ _;rw[show((j:Int)+1 - ((i:Int)+1)).toNat=j - i by lia];refine aW (λrest Z S'=>∃(c:Nat)(u:List (D×D))(v5:Option D),rest=((zcX (j - i)).drop c).map (λk:Nat=>D.int ((i:Int)+1+(k:Int)))/\c<=j - i/\Z=[some (.loc a),some (oz n e),some (tD (.many x)),some (.int i),some (.int j),v5]/\S'=S.set a (some (gO w none u))/\ie r (wq n e) n.length u/\∀m,i<m->m<=i+c->¬(dh (wq n e) x i m/\dh (wq n e) (.many x) m j)) ?_ ?_ _ _ _ ⟨0,es,none,rfl,zcT _,rfl,W.symm,hK,λm h1 h2=>by lia⟩
   ·intro Z S' V;let⟨c,u,v5,G,hc,rfl,rfl,I,L⟩:=V;have U:c=j - i:=by
     have:=congrArg zcR G;simp at this;lia
    refine⟨trivial,cQ rfl (kc I _) (q false u ⟨λh=>by simp at h,λh=>?_⟩ I)⟩;obtain h|⟨m,h1,h2,h3,h4⟩:=qE.mp h
    ·lia
    ·exact absurd ⟨h3,h4⟩ (L m h1 (by lia))
   ·intro d rest Z S' N' V hN';let⟨c,u,v5,G,hc,rfl,rfl,I,L⟩:=V;have U:c<j - i:=by
     obtain h|h:=zcJ c (j - i)
     ·exact h
     ·rw[zaq (by simpa using h)] at G;simp at G
    rw[zag (by simpa using U),zcq,zaV] at G;injection G with e1 e2;subst e1;subst e2;rw[show(i:Int)+1+(c:Int)=((i+1+c:Nat):Int) by lia];refine⟨trivial,?_⟩;push_cast[true_and];refine⟨_,cS,t,rfl,a,r,x,n,e,i,i+1+c,u,rfl,aX hS,I,hC,hx,by lia,by lia,by lia,trivial,λv Y hv X=>?_⟩;rw[zcB];have nx:∀o,ie r (wq n e) n.length o->¬(dh (wq n e) x i (i+1+c)/\dh (wq n e) (.many x) (i+1+c) j)->N' [some (.loc a),some (oz n e),some (tD (.many x)),some (.int i),some (.int j),some (.int ((i+1+c:Nat):Int))] (S.set a (some (gO w none o))):=λo y hn4=>
     hN' _ _ ⟨c+1,o,_,rfl,by lia,rfl,rfl,y,λm h1 h2=>by
      obtain z|z:=zcJ m (i+1+c)
      ·exact L m h1 (by lia)
      ·obtain rfl:m=i+1+c:=by lia
       exact hn4⟩
    refine⟨v,rfl,?_⟩;cases v with
    |false=>
     rw[yIn (by decide)];exact nx Y X λh=>by simpa using hv.mpr h.1
    |true=>
     rw[yIp rfl];refine⟨t,rfl,a,r,.many x,n,e,i+1+c,j,Y,rfl,aX hS,X,hC,hp,by lia,by omega,by simp only[dp];lia,trivial,λv o O y=>⟨v,rfl,?_⟩⟩;rw[zcB];cases v with
     |false=>
      rw[yIn (by decide)];exact nx o y λh=>by simpa using O.mpr h.2
     |true=>
      rw[yIp rfl];exact cQ rfl (kc y _) (q true o ⟨λ_=>qE.mpr (.inr ⟨i+1+c,by lia,by lia,hv.mp rfl,O.mp rfl⟩),λ_=>rfl⟩ y)
def Gn(h:out S.length S' r=some r)(m:gZ S.length o=true)(i:S'.take S.length=S.set d (some o))(q:g r (S.set d (some o))):ret S S' r g:=by
 refine⟨r,h,λk a j e=>?_,by rw[i];exact q⟩;have l:(S'.take S.length)[k]? =some (some a):=by rw[zaS,yIp j];exact e
 rw[i] at l;exact lP m k a j l
def Nz{l:List Nat}(e:l.Nodup)(h:∀x∈l,x<=30):l.length<=31:=by
 have:=sub_len l (zcX 31) e λx a=>zcj.mpr (by have:=h x a;lia);simp_all
theorem sU:∀{ps:List Pt}{i j:Nat},iG W (ps++[d]) i j↔∃k,iG W ps i k/\dh W d k j
 |[],i,j=>by simp[iG]
 |q::ps,i,j=>by
  simp only[zbH,iG,sU];grind
def WR(W:yak)(t:Nat):AN:=λo S Q=>∃(a:Nat)(r:Pt)(m:List Pt)(h:List Sp)(e:List (List Str))(i j:Nat)(n:List (D×D)),o=[.loc a,oz h e,.tup (iA m),.int i,.int j]/\S[a]? =some (some (gO W none n))/\ie r (wq h e) h.length n/\Cn r h e/\(∀p∈m,p∈subs r)/\i<=j/\j<=h.length/\(j - i)+xK m+1<=t/\
 ∀(v:Bool)(l:List (D×D)),(v=true↔iG (wq h e) m i j)->ie r (wq h e) h.length l->Q (.dat (.bl v)) (S.set a (some (gO W none l)))
def UE(T:Txt K mg C fi)(F:Src K mg "_law_behind" nG (top 40))(t:Nat)(ht:t<=60)(O:Def P w K mg base (3*t+1) "_law_fits" fZ (av K (Vi w t))):Def P w K mg base (3*t+2) "_law_behind" nG (av K (WR w t)):=by
 refine eU F pN (λds S Q h=>?_) (λf cdv A outer s H E n=>?_)
 ·let⟨a,r,Z,G,m,i,j,u,rfl,_⟩:=h;rfl
 ·refine⟨_,(W7 (Xd 5 pN.nd (Xp (W8 (W5 3)))) (W7 (Xw PassesOwn.never rfl (Xr (W5 2)) (Xn 6 pN.nd) (W7 (Xd 7 pN.nd (Xu (Xp Xa))) (W7 (Xw PassesOwn.never rfl (Xr (W5 5)) (Xn 8 pN.nd) (W9 (Xw PassesOwn.never rfl (M.jz (by rfl) T.range (W6 (W5 8) (W6 (Xf Xq (W5 4) Xc) Xa))) (Xn 9 pN.nd) (W9 (Xk (Yb (Yk (Xi (M.uK n) (W5 9) (W5 7) rfl) (Yt (XU (Xy O (n.mono (by lia)) (by rfl) (W6 (W5 0) (W6 (W5 1) (W6 (W5 6) (W6 (W5 8) (W8 (W5 9))))))))))) (W9 (Xv (XC PySem.F.plainAttrs_list PySem.F.slot_list_append PySem.F.type_list_append X7 (W5 7) (W8 (W5 9))))) Xl))))) (M.frs (W9 (Xd 5 pN.nd (W5 7))))))) (W9 (Xj (Xx (X6 n) (W5 4) (W5 5) rfl))))),λds S Q h=>?_⟩;let⟨a,r,Z,G,m,i,j,u,rfl,hS,hK,hC,hp,hij,hj,hd,q⟩:=h;have e0:aJ JG [.loc a,oz G m,.tup (iA Z),.int i,.int j]=[some (.loc a),some (oz G m),some (.tup (iA Z)),some (.int i),some (.int j),none,none,none,none,none]:=rfl;rw[e0];obtain⟨t,rfl⟩:∃t',t=t'+1:=⟨t - 1,by lia⟩
  have h30:=hC.Vk;refine bB λN1 h1=>?_;push_cast[gm,b4];refine⟨sz rfl,h1 _ _ ?_⟩;clear h1 N1;refine bB λN1 h1=>?_;push_cast[fP,dP];show dO _ _ _ (iA Z) _ _ _;rw[cF];have ha:=cM hS;have hU:∀(u:List (D×D))(l:aA),(S.set a (some (gO w none u))++l)[a]? =some (some (gO w none u)):=λu l=>by rw[zae (by rw[zcb];exact ha)];exact aX hS
  have hU2:∀(u es':List (D×D))(l:aA),(S.set a (some (gO w none u))++l).set a (some (gO w none es'))=S.set a (some (gO w none es'))++l:=λu es' l=>by rw[zaE _ _ (by rw[zcb];exact ha),zcB]
  refine aW (λrest δ S'=>∃(p1 qs:List Pt)(pl:List Nat)(u:List (D×D))(l:aA)(v6 v7 v8 W:Option D),rest=qs.map tD/\Z=p1++qs/\δ=[some (.loc a),some (oz G m),some (.tup (Z.map tD)),some (.int i),some (.int j),some (.lst (nL pl)),v6,v7,v8,W]/\S'=S.set a (some (gO w none u))++l/\ie r (wq G m) G.length u/\pl.Nodup/\∀x,x∈pl↔iG (wq G m) p1 i x/\x<=j) ?_ ?_ _ _ _
   ⟨[],Z,[i],u,[],none,none,none,none,rfl,rfl,rfl,by rw[(set_same hS),zbS],hK,by simp,λx=>by simp only[zaU,iG];constructor<;>intro h<;>lia⟩
  ·intro δ S' V;let⟨p1,qs,pl,es2,l,v6,v7,v8,W,n,rfl,rfl,rfl,hK2,hnd,X⟩:=V;obtain rfl:qs=[]:=by cases qs with|nil=>rfl|cons a b=>simp at n
   refine⟨trivial,h1 _ _ ?_⟩;push_cast[true_and];refine HK (.inl rfl) (by have:=Nz hnd λx hx=>zcF ((X x).mp hx).2 (by lia);lia) ?_;refine Gn (o:=gO w none es2) (dW rfl) (kc hK2 _) (by rw[zcd (by rw[zcb])]) (q _ es2 ?_ hK2);rw[zbS];simp only[Bool.false_bne,decide_eq_true_eq,X];exact⟨λh=>h.1,λh=>⟨h,zcS _⟩⟩
  ·intro d rest δ S' N' V hN';let⟨p1,qs,pl,es2,l,v6,v7,v8,W,n,hps,rfl,rfl,hK2,hnd,X⟩:=V;cases qs with
   |nil=>simp at n
   |cons p qs=>
    simp only[zcq,zda.injEq] at n;let⟨rfl,rfl⟩:=n;have hpm:p∈Z:=by rw[hps];simp
    have hdp:=dZ p hpm;refine⟨trivial,?_⟩;show gE _ _ _ [some (.loc a),some (oz G m),some (.tup (Z.map tD)),some (.int i),some (.int j),some (.lst (nL pl)),some (tD p),v7,v8,W] _;refine bB λN2 h2=>?_;push_cast[bF,gm,b4];refine⟨zcT _,h2 _ _ ?_⟩;clear h2 N2;rw[zbj,zaR,zcb];refine bB λN2 h2=>?_;refine⟨_,rfl,?_⟩;show dO _ _ _ (nL pl) _ _ _;have hge:∀x∈pl,i<=x/\x<=j:=λx hx=>⟨vd _ ((X x).mp hx).1,((X x).mp hx).2⟩
    have iC:∀(u:List (D×D))(fl:List Nat),aP (S.set a (some (gO w none u))++(l++[some (.lst (nL fl))])) (.loc (S.length+l.length))=.lst (nL fl):=λu fl=>by
     have:(S.set a (some (gO w none u))++(l++[some (.lst (nL fl))]))[S.length+l.length]? =some (some (.lst (nL fl))):=by
      rw[<-zbj,zab (by simp)];simp
     simp only[aP,this];rfl
    refine aW (λrest δ S'=>∃(o1 os fl:List Nat)(u:List (D×D))(v8 W:Option D),rest=nL os/\pl=o1++os/\δ=[some (.loc a),some (oz G m),some (.tup (Z.map tD)),some (.int i),some (.int j),some (.lst (nL pl)),some (tD p),some (.loc (S.length+l.length)),v8,W]/\S'=S.set a (some (gO w none u))++(l++[some (.lst (nL fl))])/\ie r (wq G m) G.length u/\fl.Nodup/\∀x,x∈fl↔∃o∈o1,dh (wq G m) p o x/\x<=j) ?_ ?_ _ _ _
     ⟨[],pl,[],es2,v8,W,rfl,rfl,rfl,rfl,hK2,by simp,by simp⟩
    ·intro δ S' V;let⟨o1,os,fl,es3,v8,W,n,rfl,rfl,rfl,hK3,hfn,hfl⟩:=V;obtain rfl:os=[]:=by cases os with|nil=>rfl|cons a b=>simp[nL] at n
     refine⟨trivial,h2 _ _ ?_⟩;clear h2 N2;refine⟨S.length+l.length,nL fl,by rw[<-zbj,zab (by simp)];simp,?_⟩;have hne:¬a=S.length+l.length:=by lia
     push_cast[zcq,zcz,Option.map_some];have s3:sb (S.length+l.length) (.lst (nL fl)) (tD p)=tD p:=by let⟨r,e⟩:=B3 p;rw[e];rfl
     rw[s3,show sb (S.length+l.length) (.lst (nL fl)) (.loc (S.length+l.length))=.lst (nL fl) from yIp rfl,show sb (S.length+l.length) (.lst (nL fl)) (.loc a)=.loc a from yIn hne];refine hN' _ _ ⟨p1++[p],qs,fl,es3,l++[none],_,_,_,_,rfl,by rw[hps];simp,rfl,?_,hK3,hfn,λx=>?_⟩
     ·rw[<-zbj,zaw _ _ (by simp),show S.length+l.length - (S.set a (some (gO w none es3))++l).length=0 by simp,zbj];rfl
     ·rw[hfl,sU];constructor
      ·rintro⟨o,ho,I,L⟩;exact⟨⟨o,((X o).mp (by simpa using ho)).1,I⟩,L⟩
      ·rintro⟨⟨o,I,L⟩,h5⟩;refine⟨o,by have:=(X o).mpr ⟨I,zcF (nu p L) h5⟩;simpa using this,L,h5⟩
    ·intro d rest δ S' N3 V hN3;let⟨o1,os,fl,es3,v8,W,n,hpo,rfl,rfl,hK3,hfn,hfl⟩:=V;cases os with
     |nil=>simp[nL] at n
     |cons o os=>
      simp only[nL,zcq,zda.injEq] at n;let⟨rfl,rfl⟩:=n;have ho:=hge o (by rw[hpo];simp);refine⟨trivial,?_⟩;push_cast[fP,M.qz];refine⟨by lia,by lia,by lia,by lia,?_⟩;show dO _ _ _ ((zcX ((j:Int)+1 - (o:Int)).toNat).map λk:Nat=>D.int ((o:Int)+(k:Int))) _ _ _;rw[show((j:Int)+1 - (o:Int)).toNat=j+1 - o by lia];refine aW (λrest δ S'=>∃(c:Nat)(U:List Nat)(u:List (D×D))(W:Option D),rest=((zcX (j+1 - o)).drop c).map (λk:Nat=>D.int ((o:Int)+(k:Int)))/\c<=j+1 - o/\δ=[some (.loc a),some (oz G m),some (.tup (Z.map tD)),some (.int i),some (.int j),some (.lst (nL pl)),some (tD p),some (.loc (S.length+l.length)),some (.int o),W]/\S'=S.set a (some (gO w none u))++(l++[some (.lst (nL U))])/\ie r (wq G m) G.length u/\U.Nodup/\∀x,x∈U↔(∃o∈o1,dh (wq G m) p o x/\x<=j)∨(dh (wq G m) p o x/\x<o+c)) ?_ ?_ _ _ _
       ⟨0,fl,es3,W,rfl,zcT _,rfl,rfl,hK3,hfn,λx=>by rw[hfl];exact⟨.inl,λh=>h.elim id λh=>absurd (nu p h.1) (by lia)⟩⟩
      ·intro δ S' V;let⟨c,U,es4,W,n,hc,rfl,rfl,hK4,hgn,Y⟩:=V;have hc2:c=j+1 - o:=by
        have:=congrArg zcR n;simp at this;lia
       refine⟨trivial,hN3 _ _ ⟨o1++[o],os,U,es4,_,W,rfl,by rw[hpo];simp,rfl,rfl,hK4,hgn,λx=>?_⟩⟩;rw[Y];constructor
       ·rintro(⟨o',I,L⟩|⟨I,L⟩)
        ·refine⟨o',by simp[I],L⟩
        ·refine⟨o,by simp,I,by lia⟩
       ·rintro⟨o',I,L,h5⟩;obtain I|I:=zbQ.mp I
        ·exact .inl ⟨o',I,L,h5⟩
        ·rw[zaU.mp I] at L;exact .inr ⟨L,by lia⟩
      ·intro d rest δ S' N4 V hN4;let⟨c,U,es4,W,n,hc,rfl,rfl,hK4,hgn,Y⟩:=V;have hc2:c<j+1 - o:=by
        obtain h|h:=zcJ c (j+1 - o)
        ·exact h
        ·rw[zaq (by simpa using h)] at n;simp at n
       rw[zag (by simpa using hc2),zcq,zaV] at n;injection n with e1 e2;subst e1;subst e2;rw[show(o:Int)+(c:Int)=((o+c:Nat):Int) by lia];have ab:U.length<=31:=Nz hgn λx hx=>by
        rcases(Y x).mp hx with⟨_,_,_,h⟩|⟨_,h⟩<;>lia
       have hlo:∀x,x<o+(c+1)↔x<o+c∨x=o+c:=λx=>by lia
       refine⟨trivial,?_⟩;show yf _ _ _ _ [some (.loc a),some (oz G m),some (.tup (Z.map tD)),some (.int i),some (.int j),some (.lst (nL pl)),some (tD p),some (.loc (S.length+l.length)),some (.int o),some (.int ((o+c:Nat):Int))] _;have inl:∀{Q:Bool->aA->Prop},Q (true != decide (o+c∈U)) (S.set a (some (gO w none es4))++(l++[some (.lst (nL U))]))->aB (lT (qV true) (cT 9) (cT 7)) [some (.loc a),some (oz G m),some (.tup (Z.map tD)),some (.int i),some (.int j),some (.lst (nL pl)),some (tD p),some (.loc (S.length+l.length)),some (.int o),some (.int ((o+c:Nat):Int))] (S.set a (some (gO w none es4))++(l++[some (.lst (nL U))])) Q:=λ{Q} q=>⟨_,rfl,_,rfl,HK (.inl (iC _ _)) (by lia) ⟨_,rfl,q⟩⟩
       by_cases hin:o+c∈U
       ·refine eK (λQ q=>ic (λQ q=>inl (by rw[yDt hin];exact q)) q) (hN4 _ _ ⟨c+1,U,es4,_,rfl,by lia,rfl,rfl,hK4,hgn,λx=>?_⟩);rw[hlo,Y];constructor
        ·rintro(h|h)
         ·exact .inl h
         ·exact .inr ⟨h.1,.inl h.2⟩
        ·rintro(h|⟨I,L|rfl⟩)
         ·exact .inl h
         ·exact .inr ⟨I,L⟩
         ·exact(Y _).mp hin
       ·refine jG (λQ q=>inl (by rw[yDf hin];exact q)) ?_;refine⟨_,rfl,_,rfl,_,rfl,_,rfl,_,rfl,t,rfl,a,r,p,G,m,o,o+c,es4,rfl,hU _ _,hK4,hC,hp p hpm,by lia,by lia,by lia,trivial,λv es5 hv hK5=>⟨v,rfl,?_⟩⟩;rw[hU2];cases v with
        |false=>
         rw[yIn (by decide)];refine hN4 _ _ ⟨c+1,U,es5,_,rfl,by lia,rfl,rfl,hK5,hgn,λx=>?_⟩;rw[hlo,Y];constructor
         ·rintro(h|h)
          ·exact .inl h
          ·exact .inr ⟨h.1,.inl h.2⟩
         ·rintro(h|⟨I,L|rfl⟩)
          ·exact .inl h
          ·exact .inr ⟨I,L⟩
          ·exact absurd (hv.mpr I) (by decide)
        |true=>
         rw[yIp rfl];refine⟨_,rfl,by rw[show(R.dat (D.loc (S.length+l.length))).d=.loc (S.length+l.length) from rfl,iC];rfl,_,rfl,_,_,_,rfl,rfl,by rw[<-zbj,zab (by simp)];simp;rfl,by rw[nL,zbR,yaf];lia,?_⟩;rw[<-zbj,zaw _ _ (by simp),show S.length+l.length - (S.set a (some (gO w none es5))++l).length=0 by simp,zbj];refine hN4 _ _ ⟨c+1,U++[o+c],es5,_,rfl,by lia,rfl,by rw[show nL (U++[o+c])=nL U++[D.int ((o+c:Nat):Int)] by simp[nL]];rfl,hK5,zbl.mpr ⟨hgn,by simp,λy hy z hz e=>hin (by rw[zaU.mp hz] at e;exact e▸hy)⟩,λx=>?_⟩;rw[zbQ,zaU,hlo,Y];constructor
         ·rintro((h|h)|rfl)
          ·exact .inl h
          ·exact .inr ⟨h.1,.inl h.2⟩
          ·exact .inr ⟨hv.mp rfl,.inr rfl⟩
         ·rintro(h|⟨I,L|rfl⟩)
          ·exact .inl (.inl h)
          ·exact .inl (.inr ⟨I,L⟩)
          ·exact .inr rfl
end
open PySem L2 M M6
def LL(bs:List Bool):fit (.lst (bs.map D.bl))=true:=by
 have h:∀bs:List Bool,bQ (bs.map D.bl)=true/\PyData.canLayAll0 (di (bs.map D.bl))=true/\PyData.depthAll (di (bs.map D.bl))=0:=λbs=>by
  induction bs with
  |nil=>refine⟨rfl,rfl,rfl⟩
  |cons b bs ih=>
   let⟨h1,h2,a⟩:=ih;refine⟨by simp only[zcq,bQ,b8,h1,zcx],?_,?_⟩
   ·simp only[zcq,di,py,PyData.canLayAll0,PyData.canLay0,h2,zcx]
   ·simp only[zcq,di,PyData.depthAll,a];rfl
 let⟨h1,h2,a⟩:=h bs;unfold fit PySem.SeqAt.shaped;simp only[b8,py,PyData.canLay0,PyData.depth,h1,h2,a];decide
def Qz(bs:List Bool):inD (.bl true) (bs.map D.bl)=decide (true∈bs):=by
 unfold inD
 induction bs with
 |nil=>rfl
 |cons b bs ih=>
  rw[zcq,zcr,ih,show PyData.eqv (py (D.bl b)) (py (D.bl true))=b by cases b<;>rfl];simp
theorem GR(h:∀k:Bool->aA->Prop,k r S->d δ S k)(e:r=false->∀k:Bool->aA->Prop,k true S->g δ S k)(q:k true S):Vt d g δ S k:=h _ (by
 cases r with
 |true=>exact q
 |false=>exact e rfl _ q)
def D5:∀{ps:List Pt},ou W (ps++[d]) i j↔ou W ps i j∨dh W d i j:=λ{ps}=>by
 simp only[lC];simp
section
variable {w:yak}
def Wt(T:Txt K mg C fi)(F:Src K mg "_law_fits_anew" tM (top 42))(t:Nat)(ht:t<=60)(G:Def P w K mg base (3*t+1) "_law_fits" fZ (av K (Vi w t)))(I:Def P w K mg base (3*t+2) "_law_cut" jI (av K (OB HJ w t)))(u:Def P w K mg base (3*t+2) "_law_behind" nG (av K (WR w t))):Def P w K mg base (3*t+3) "_law_fits_anew" tM (av K (OC w t)):=by
 refine eU F SD (λds S Q h=>?_) (λf cdv A outer s H E o=>?_)
 ·let⟨a,r,p,ss,e,i,j,es,rfl,_⟩:=h;rfl
 ·refine⟨_,(W7 (Xk (Xi (Xm o) (Xb (W5 2)) Xe (aF _)) (W9 (Xj (Xy I (o.mono (by lia)) (by rfl) (W6 (W5 0) (W6 (W5 1) (W6 (W5 2) (W6 (W5 3) (W8 (W5 4))))))))) Xl) (W7 (Xk (Xi (Xm o) (Xb (W5 2)) Xe (aF _)) (W7 (M.fE (i:=5) SD.nd rfl rfl (N:=["_law_part","_law_known","_law_way","_law_first","_law_last"]) (caps:=[none,some 0,some 1,some 3,some 4]) (qP (by decide+kernel)) (by rfl) (by rfl) rfl (Xr (Xb (W5 2))) (λ_ _ _ _=>(M.fj (i:=0) (by decide+kernel:List.Nodup (["_law_part","_law_known","_law_way","_law_first","_law_last"]:List Str)) rfl (Or.inl rfl))) (λ_ _ _ _=>XF) (λ_ _ _ _=>(Xy G (o.mono (by lia)) (by rfl) (W6 (W5 1) (W6 (W5 2) (W6 (W5 0) (W6 (W5 3) (W8 (W5 4))))))))) (W9 (Xj (Xx (X6 o) XH (W5 5) rfl)))) Xl) (W7 (Xk (Xi (Xm o) (Xb (W5 2)) Xe (aF _)) (W9 (Xj (Xy u (o.mono (by lia)) (by rfl) (W6 (W5 0) (W6 (W5 1) (W6 (Xb (W5 2)) (W6 (W5 3) (W8 (W5 4))))))))) Xl) (W7 (Xk (Xi (Xm o) (Xb (W5 2)) Xe (aF _)) (W7 (Xk (Xi (M.G0 o) (W5 4) (Xf Xq (W5 3) Xc) (aF _)) (W9 (Xj XH)) Xl) (W9 (Xj (M.m9 (Xx (Xm o) (Xb (Xs (Xb (W5 1)) (W5 3))) (Xb (W5 2)) (aF _)) (M.m6 (Xx (X6 o) (Xb (W5 2)) (Xg (W6 Xe (W6 (Xb (Xs (Xb (W5 1)) (W5 3))) Xa))) rfl)))))) Xl) (W7 (Xk (Yb (YD (Xi (M.G0 o) (W5 3) (W5 4) (aF _)) (YE (Xi (Xm o) (Xb (W5 2)) Xe (aF _))))) (W9 (Xj (Xx (Xm o) (W5 3) (W5 4) (aF _)))) Xl) (W9 (Xj (Xx (Xm o) (Xx (X6 o) (Xb (W5 2)) (Xs (Xb (W5 1)) (W5 3)) rfl) (Xx (Xm o) (Xb (W5 2)) Xe (aF _)) (aF _))))))))),λds S Q h=>?_⟩;let⟨a,r,p,ss,e,i,j,es,rfl,hS,hK,W,hp,hij,hj,hd,_,q⟩:=h;have e0:aJ NZ [.loc a,oz ss e,tD p,.int i,.int j]=[some (.loc a),some (oz ss e),some (tD p),some (.int i),some (.int j),none]:=rfl;rw[e0];have hS0:=set_same hS;have h30:=W.Vk;have pn:("either":Str)≠"many"/\("then":Str)≠"many"/\("then":Str)≠"either"/\("step":Str)≠"many"/\("step":Str)≠"either"/\("step":Str)≠"then":=by decide+kernel
  have vf:∀v:Bool,(v=true↔dh (wq ss e) p i j)->Q (.dat (.bl v)) S:=λv hv=>by
   have:=q v es hv hK
   rwa [hS0] at this
  cases p with
  |many x=>
   refine iZ (λQ q=>aZ (x:=.many x) rfl (qT rfl q)) ?_;refine⟨_,rfl,_,rfl,_,rfl,_,rfl,_,rfl,a,r,.many x,ss,e,i,j,es,rfl,hS,hK,W,hp,hij,hj,hd,⟨x,rfl⟩,λv es' hv U=>cQ rfl (kc U _) (q v es' hv U)⟩
  |alt ps=>
   refine dI (λQ q=>aZ (x:=.alt ps) rfl (qF pn.1 q)) (iZ (λQ q=>aZ (x:=.alt ps) rfl (qT rfl q)) ?_);simp only[dp] at hd;obtain⟨t,rfl⟩:∃t',t=t'+1:=⟨t - 1,by lia⟩
   have ac:ps.length<=48:=by have:=oM hp;have:=W.oc;have:=fW ps;simp only[oc] at*;lia
   refine bB λN1 h1=>?_;refine⟨_,rfl,_,cS,?_⟩;show bM _ _ _ _ (iA ps) [] [none,some (.loc a),some (oz ss e),some (.int i),some (.int j)] _ _;rw[cF];refine lN (λrest acc δ S'=>∃(p1 X:List Pt)(bs:List Bool)(es:List (D×D))(v0:Option D),rest=X.map tD/\acc=bs.map D.bl/\ps=p1++X/\bs.length=p1.length/\δ=[v0,some (.loc a),some (oz ss e),some (.int i),some (.int j)]/\S'=S.set a (some (gO w none es))/\ie r (wq ss e) ss.length es/\(true∈bs↔ou (wq ss e) p1 i j)) ?_ ?_ _ _ _ _ ⟨[],ps,[],es,none,rfl,rfl,rfl,rfl,rfl,hS0.symm,hK,by simp[ou]⟩
   ·intro acc δ S' z;let⟨p1,X,bs,es2,v0,o,rfl,L,hbl,rfl,rfl,hK2,hb⟩:=z;obtain rfl:X=[]:=by cases X with|nil=>rfl|cons a b=>simp at o
    rw[zbS] at L;subst L;refine⟨trivial,h1 _ _ ?_⟩;refine⟨_,rfl,?_⟩;show qV false (.bl true) (.lst (bs.map D.bl)) _ _;unfold qV;refine⟨rfl,LL bs,?_⟩;show XD S _ (.dat (.bl (false != inD (.bl true) (bs.map D.bl)))) Q;rw[Qz];exact cQ rfl (kc hK2 _) (q _ es2 (by simp only[Bool.false_bne,decide_eq_true_eq,hb,dh]) hK2)
   ·intro d rest acc δ S' N' z hN';let⟨p1,X,bs,es2,v0,o,rfl,L,hbl,rfl,rfl,hK2,hb⟩:=z;cases X with
    |nil=>simp at o
    |cons p X=>
     simp only[zcq,zda.injEq] at o;let⟨rfl,rfl⟩:=o;have hpm:p∈ps:=by rw[L];simp
     have hbs:bs.length<=48:=by have:=congrArg zcR L;simp at this;lia
     refine⟨trivial,?_⟩;simp only[bE,lR,if_true,zaW];refine⟨_,rfl,_,rfl,_,rfl,_,rfl,_,rfl,t,rfl,a,r,p,ss,e,i,j,es2,rfl,aX hS,hK2,W,iJ r hp hpm,hij,hj,by have:=dZ p hpm;lia,trivial,λv es3 hv hK3=>⟨by rw[zbR,yaf];lia,?_⟩⟩;rw[zcB];refine hN' _ _ _ ⟨p1++[p],X,bs++[v],es3,_,rfl,by rw[zbZ];rfl,by rw[L];simp,by simp[hbl],rfl,rfl,hK3,?_⟩;rw[D5,zbQ,zaU,hb,<-hv];exact or_congr Iff.rfl ⟨λh=>h.symm,λh=>h.symm⟩
  |seq ps=>
   refine dI (λQ q=>aZ (x:=.seq ps) rfl (qF pn.2.1 q)) (dI (λQ q=>aZ (x:=.seq ps) rfl (qF pn.2.2.1 q)) (iZ (λQ q=>aZ (x:=.seq ps) rfl (qT rfl q)) ?_));refine⟨_,rfl,_,rfl,_,rfl,_,cS,_,rfl,_,rfl,a,r,ps,ss,e,i,j,es,rfl,hS,hK,W,λp h=>iJ r hp h,hij,hj,by simp only[dp] at hd;omega,λv es' hv U=>cQ rfl (kc U _) (q v es' (by simp only[dh];exact hv) U)⟩
  |lf l=>
   have nl:=Hv l;refine dI (λQ q=>aZ (x:=.lf l) rfl (qF nl.1 q)) (dI (λQ q=>aZ (x:=.lf l) rfl (qF nl.2.2 q)) (dI (λQ q=>aZ (x:=.lf l) rfl (qF nl.2.1 q)) ?_));have nej:∀Q:Bool->aA->Prop,Q (!decide ((i:Int)=(j:Int))) S->aB (lT RX (cT 3) (cT 4)) [some (.loc a),some (oz ss e),some (tD (.lf l)),some (.int i),some (.int j),none] S Q:=λQ q=>⟨_,rfl,_,rfl,_,rfl,q⟩
   have dij:((i:Int)=(j:Int))↔i=j:=by lia
   have ps1:("stay":Str)≠"step"/\("at":Str)≠"step"/\("off":Str)≠"step"/\("at":Str)≠"stay"/\("off":Str)≠"stay"/\("off":Str)≠"at":=by decide+kernel
   cases l with
   |stay=>
    refine dI (λQ q=>aZ (x:=.lf .stay) rfl (qF ps1.1 q)) (iZ (λQ q=>GR nej (λ_ Q q=>aZ (x:=.lf .stay) rfl (qT rfl q)) q) ?_);refine⟨_,rfl,_,rfl,b6 rfl (vf _ ?_)⟩;rw[decide_eq_true_eq,dij];simp[dh,ve,hold,take]
   |step b x=>
    refine iZ (λQ q=>aZ (x:=.lf (.step b x)) rfl (qT rfl q)) ?_;by_cases O:j=i+1
    ·subst O;have hi:i<ss.length:=by lia
     have Z:kq (ss.map iB) (i:Int)=some (iB ss[i]):=cL (by rw[zbh,zak hi];rfl);refine dI (λQ q=>⟨_,rfl,_,rfl,_,rfl,by rw[show decide (((i+1:Nat):Int)=(i:Int)+1)=true by simp];exact q⟩) ?_;refine⟨_,rfl,_,e7,_,rfl,_,Z,_,e7,_,rfl,_,cS,_,rfl,?_⟩;have hx:Nm x:=cR W.ok hp;have hw:=W.ws _ (zbJ hi);have ab:dh (wq ss e) (.lf (.step b x)) i (i+1)↔side b=side ss[i].1/\(x=ss[i].2.1∨x="*"):=by
      simp[dh,ve,hold,take,wq,zak hi]
     by_cases Y:side ss[i].1=side b
     ·rw[yDt Y,yIp rfl];refine⟨_,rfl,_,at2,_,rfl,_,e7,_,rfl,_,Z,_,cS,sz rfl,iY (n:=0) (ss:=["*",ss[i].2.1]) hx.ok (by decide) (by simp only[zcs,List.all_nil,hw.ok,Bool.and_true];decide+kernel) (b6 rfl (vf _ ?_)) (by show 2<=100;decide)⟩;show(false != u5 (.str x) ["*",ss[i].2.1])=true↔_;rw[ab];simp[u5,Np,Y,or_comm]
     ·rw[yDf Y,yIn (by decide)];refine b6 rfl (vf _ ?_);rw[ab];simp[Ne.symm Y]
    ·refine iZ (λQ q=>⟨_,rfl,_,rfl,_,rfl,by rw[show decide ((j:Int)=(i:Int)+1)=false by simp;lia];exact q⟩) (b6 rfl (vf _ ?_));simp[dh,ve,hold,O]
   |mk b m=>
    have hm:Nm m:=cR W.ok hp;have nst:JS b≠"step"/\JS b≠"stay":=by cases b<;>decide+kernel
    refine dI (λQ q=>aZ (x:=.lf (.mk b m)) rfl (qF nst.1 q)) ?_;by_cases O:i=j
    ·subst O;have hi:i<e.length:=by rw[W.ml];lia
     have hmm:=W.mm _ (zbJ hi);have Z:kq (e.map λm=>D.lst (m.map D.str)) (i:Int)=some (.lst (e[i].map D.str)):=cL (by rw[zbh,zak hi];rfl);refine dI (λQ q=>nej _ (by simp only[decide_true,Bool.not_true];exact aZ (x:=.lf (.mk b m)) rfl (qF nst.2 q))) ?_;refine⟨_,rfl,_,cS,_,rfl,_,cS,_,rfl,_,Z,nq (n:=0) (ss:=e[i]) hm.ok (by decide) (zbC.mpr λy hy=>(hmm.2 y hy).ok) ⟨_,rfl,_,e7,?_⟩ (by lia)⟩;show XD S S (.dat (.bl (decide ((false != u5 (.str m) e[i])=decide (JS b="at"))))) Q;rw[oO];refine b6 rfl (vf _ ?_);have hb:decide (JS b="at")=b:=by cases b<;>decide+kernel
     rw[hb];simp[dh,ve,hold,take,wq,zak hi]
    ·refine iZ (λQ q=>GR nej (λh=>by simp[dij,O] at h) q) ⟨_,rfl,_,rfl,b6 rfl (vf _ ?_)⟩;rw[decide_eq_true_eq,dij];simp[dh,ve,take,O]
def LW(F:Src K mg "_law_fits" fZ S8)(h:∀ds S Q,¬sp ds S Q):Def P w K mg base (k+1) "_law_fits" fZ (av K sp):=
 F.def OP (λvs H Q E z=>by let⟨_,_,_,_,_,_,q,_⟩:=z;simp_all) λf a A outer s H vs Q E e z=>by let⟨_,_,_,_,_,_,q,_⟩:=z;exact(h _ _ _ q).elim
def UB(T:Txt K mg C fi)(F:Src K mg "_law_fits" fZ S8)(o:Src K mg "_law_fits_anew" tM (top 42))(n:Src K mg "_law_cut" jI (top 39))(m:Src K mg "_law_behind" nG (top 40))(t:Nat)(a:t<=60):Def P w K mg base (3*t+4) "_law_fits" fZ (av K (OC w t)):=by
 have step:∀t,t<=60->Def P w K mg base (3*t+1) "_law_fits" fZ (av K (Vi w t))->Def P w K mg base (3*t+4) "_law_fits" fZ (av K (OC w t)):=λt a D=>Wq T F t a (Wt T o t a D (QY T n t a D) (UE T m t a D))
 induction t with
 |zero=>exact step 0 a (LW F λh S Q ⟨j,e,_⟩=>by lia)
 |succ t ih=>exact step (t+1) a ((ih (by lia)).imp λvs H Q E z=>by
   let⟨i,h,S,l,ok,rep,⟨j,e,q⟩,bk⟩:=z;obtain rfl:j=t:=by lia
   refine⟨i,h,S,l,ok,rep,q,bk⟩)
end
open PySem PySem.Spec L2 M M6 PyProof.Rows
noncomputable abbrev NW:List Str:=["_law_marks","_law_ties","_law_web_here","_law_name","_law_one","_law_word","_law_other"]
noncomputable abbrev tL:=NW.take 2
def Dr:aE NW tL (aj (top 37)):=L2.cy
theorem z8{x:Str}:∀{ks:List Kn},x∈nms ks->gh (cD ks) (ks.map λk=>D.lst (k.2.map D.str)) (.inr x)=some (.lst ((aL ks x).map D.str))
 |k::ks,h=>by
  have a:=z8 (x:=x) (ks:=ks);unfold gh cD aL at*;grind
structure Eo(ks:List Kn)(ts:List Ti):Prop where
 nd:(nms ks).Nodup
 k5:ks.length<=5
 nk:∀x∈ks,Nm x.1
 mm:∀x∈ks,x.2.length<=20/\∀m∈x.2,Nm m
 t9:ts.length<=20
 ti:∀t∈ts,t.1∈nms ks/\Nm t.2.1/\t.2.2∈nms ks
def Lay.w(h:Lay d g k q):Eo d g:=⟨h.nd,h.k5,h.nk,h.mm,by have:=h.t9;lia,h.ti⟩
def Eo.EF(h:Eo d g):∀t∈g,BN t=true:=λt m=>by
 let⟨h1,h2,n⟩:=h.ti t m;let⟨k,e,a⟩:=zcD.mp h1;let⟨j,l,i⟩:=zcD.mp n;unfold BN;rw[<-a,<-i,(h.nk k e).ok,h2.ok,(h.nk j l).ok];rfl
def cN.fr(X:cN C W d S n g r)(q:d<=n)(e:∀k,d<=k->S'[k]? =S[k]?):cN C W d S' n g r:=by
 let⟨m,t,f,ns,X⟩:=X;let⟨o,l,j,h⟩:=X.lo;refine⟨m,t,f,ns,by rw[e _ q];exact X.at_,by rw[e _ o];exact X.yC,by rw[e _ l];exact X.ti,by rw[e _ j];exact X.ne,X.len,X.me,X.tn,λi a=>by rw[e _ (h i a)];exact X.near i a,X.lo,X.EF,X.RU,X.kb,X.mb⟩
section
variable {w:yak}
def OA(C:Addr)(W:yak):AN:=λj S Q=>∃a ks i,j=[.loc a,.lst (i.map T3)]/\S[a]? =some (some (.dct (cD ks) (dN ks)))/\Eo ks i/\∀(h:aA)(e:List Ti),Eo ks e->e.Nodup->cN C W S.length h S.length ks e->(∀k,k<S.length->h[k]? =S[k]?)->Q (.dat (.loc S.length)) h
def Wo(T:Txt K mg C fi)(F:Src K mg "_law_web" tL (top 37))(ab:eV P w K mg base oZ 1 fi fdi jJ (av K (Fp C w)))(ac:Binds K fdi jJ [])(o:fS P w K mg base 2 C "put_knot" lY (yQ C w))(O:fS P w K mg base 2 C "put_tie" lX (Ff C w)):Def P w K mg base 3 "_law_web" tL (av K (OA C w)):=by
 refine Uw F Dr (λds S Q h=>?_) (λf cdv A outer s H E v=>?_)
 ·let⟨a,ks,Z,rfl,_⟩:=h;rfl
 ·refine⟨_,(W7 (Xd 2 Dr.nd (M.p9 T.rH ab ac (v.mono (by decide)) (by rfl) T.mg_Web)) (W7 (M.PF (P:=P) (W:=w) (Xw PassesOwn.never rfl (M.PK (W5 0)) (Xn 3 Dr.nd) (W9 (Xv (XO (W5 2) T.cl o (v.mono (by decide)) (W6 (W5 3) (W6 (XI M.wN T.list (W6 (M.qb (W5 0) (W5 3) (λ_ _=>rfl)) Xa)) Xa))))))) (W7 (Xw PassesOwn.never rfl (Xr (M.iR v rfl (by rfl) T.sorted (by rfl) T.set (W5 1))) (Yd (n:=3) rfl (XA (Xn 4 Dr.nd) (XA (Xn 5 Dr.nd) (XA (Xn 6 Dr.nd) Ye)))) (W9 (Xv (XO (W5 2) T.cl O (v.mono (by decide)) (W6 (W5 4) (W6 (W5 5) (W8 (W5 6)))))))) (W9 (Xj (W5 2)))))),λds S Q h=>?_⟩;let⟨a,ks,Z,rfl,hS,U,q⟩:=h;have ha:=cM hS;have e0:aJ NW [.loc a,.lst (Z.map T3)]=[some (.loc a),some (.lst (Z.map T3)),none,none,none,none,none]:=rfl;rw[e0];push_cast[NN];refine⟨S.length,rfl,by rw[zaR];rfl,CD,λS1 X1 k1 l1=>⟨rfl,?_⟩⟩;have hS1:S1[a]? =some (some (.dct (cD ks) (dN ks))):=by rw[k1 a ha,zae ha];exact hS
  push_cast[NL,QA,fP];refine⟨a,rfl,_,_,hS1,λd hd=>?_,λob=>?_⟩
  ·let⟨k,_,rfl⟩:=zcD.mp hd;rfl
  have h0:S.length<=S.length:=zcS _;have hlr:(cD ks).length=(dN ks).length:=by unfold cD dN;rw[zbR,zbR]
  have hl5:(dN ks).length<1000:=by unfold dN;rw[zbR];have:=U.k5;lia
  show dO (λS=>S[a]? =some (some (pO P w ob (cD ks) (dN ks)))) _ _ ((cD ks).map M.kD) _ _ (S1.set a (some (pO P w ob (cD ks) (dN ks))));rw[show(cD ks).map M.kD=ks.map (λk=>D.str k.1) by unfold cD;rw[zcC];rfl];have gw:∀r∈ks,gh (cD ks) (dN ks) (.inr r.1)=some (.lst (r.2.map D.str)):=λr v=>by
   have hm:r.1∈nms ks:=zcD.mpr ⟨r,v,rfl⟩;unfold dN;rw[z8 hm,<-zI U.nd (dg hm) v rfl]
  refine aW (λrest δ S'=>∃(done Y:List Kn)(v3:Option D),rest=Y.map (λk=>D.str k.1)/\done++Y=ks/\δ=[some (.loc a),some (.lst (Z.map T3)),some (.loc S.length),v3,none,none,none]/\cN C w S.length S' S.length done []/\S'[a]? =some (some (pO P w ob (cD ks) (dN ks)))/\∀k,k<S.length->k≠a->S'[k]? =S[k]?) ?_ ?_ _ _ _ ⟨[],ks,none,rfl,rfl,rfl,X1.fr h0 (λk i=>zaB (by lia)),aX hS1,λk i G=>by rw[zaB (Ne.symm G),k1 k i,zae i]⟩
  ·intro δ S2 V;let⟨done,Y,v3,L,I,rfl,X2,p2,k2⟩:=V;have:Y=[]:=by cases Y with|nil=>rfl|cons _ _=>simp at L
   subst this;rw[zbS] at I;subst I;refine⟨p2,a,ob,_,_,p2,hlr,hl5,?_⟩;have X3:cN C w S.length (S2.set a (some (.dct (cD done) (dN done)))) S.length done []:=X2.fr h0 λk i=>zaB (by lia);have k3:∀k,k<S.length->(S2.set a (some (.dct (cD done) (dN done))))[k]? =S[k]?:=λk i=>by
    by_cases G:k=a
    ·subst G;rw[aX p2,hS]
    ·rw[zaB (Ne.symm G),k2 k i G]
   generalize S2.set a (some (.dct (cD done) (dN done)))=S3 at X3 k3;push_cast[dP,nB];refine⟨Z.map T3,rfl,λk i=>?_,λk i l hl=>?_,⟨(Z.map T3).map py,by rw[zbR,zbR];have:=U.t9;lia,λk i=>zcD.mpr ⟨k,i,rfl⟩⟩,λkz h1 h2 h3 h4=>?_⟩
   ·let⟨t,ht,rfl⟩:=zcD.mp i;refine⟨good3 (U.EF t ht),_,_,rfl⟩
   ·let⟨t,ht,rfl⟩:=zcD.mp i;let⟨u,hu,rfl⟩:=zcD.mp hl;exact Rf t u
   let⟨us,rfl,hus⟩:=uU (f:=T3) (P:=λt=>t∈Z) (ds:=kz) λd hd=>by
    let⟨t,ht,e⟩:=zcD.mp (h1 d hd);refine⟨t,e.symm,ht⟩
   have hun:us.Nodup:=by
    rw[zcC] at h3;exact(zbo.mp h3).imp λ{x y} h e=>h (by rw[e])
   have hU:Eo done us:=⟨U.nd,U.k5,U.nk,U.mm,zcF (sub_len us Z hun hus) U.t9,λt ht=>U.ti t (hus t ht)⟩
   clear h1 h2 h3 h4;show dO _ _ _ (us.map T3) _ _ _;refine aW (λrest δ S'=>∃(dt rt:List Ti)(v4 v5 v6:Option D),rest=rt.map T3/\dt++rt=us/\δ=[some (.loc a),some (.lst (Z.map T3)),some (.loc S.length),v3,v4,v5,v6]/\cN C w S.length S' S.length done dt/\∀k,k<S.length->S'[k]? =S[k]?) ?_ ?_ _ _ _ ⟨[],us,none,none,none,rfl,rfl,rfl,X3,k3⟩
   ·intro δ S4 V;let⟨dt,rt,v4,v5,v6,L,I,rfl,X4,k4⟩:=V;have:rt=[]:=by cases rt with|nil=>rfl|cons _ _=>simp at L
    subst this;rw[zbS] at I;subst I;refine⟨trivial,_,rfl,q S4 dt hU hun X4 k4⟩
   ·intro x xs δ S4 N V hN;let⟨dt,rt,v4,v5,v6,L,I,rfl,X4,k4⟩:=V;cases rt with
    |nil=>simp at L
    |cons r rt=>
     rw[zcq] at L;injection L with L e3;subst L;subst e3;let⟨m,t,e,ns,X⟩:=X4;have v:r∈us:=by rw[<-I];simp
     have j:=hun;rw[<-I,zbl] at j;have hno:r ∉ dt:=λz=>j.2.2 r z r (by simp) rfl;have:dt.length<300:=by have:=congrArg zcR I;rw[zaR] at this;have:=hU.t9;lia
     refine⟨trivial,_,rfl,rfl,_,_,rfl,_,_,rfl,_,_,rfl,rfl,?_⟩;exact cY rfl X.at_ (by decide+kernel) ⟨_,rfl,_,rfl,_,rfl,S.length,r,S.length,done,dt,rfl,⟨m,t,e,ns,X⟩,(hU.ti r v).1,(hU.ti r v).2.2,hno,this,hU.EF r v,λS5 X5 k5 l5=>hN _ _ ⟨dt++[r],rt,_,_,_,rfl,by rw[<-I];simp,rfl,X5,λk i=>(k5 k i).trans (k4 k i)⟩⟩
  ·intro x xs δ S2 N V hN;let⟨done,Y,v3,L,I,rfl,X2,p2,k2⟩:=V;cases Y with
   |nil=>simp at L
   |cons r Y=>
    rw[zcq] at L;injection L with L e3;subst L;subst e3;let⟨m,t,e,ns,X⟩:=X2;have v:r∈ks:=by rw[<-I];simp
    have j:=U.nd;rw[<-I] at j;have j:(done.map (·.1)++(r::Y).map (·.1)).Nodup:=by rw[<-zbZ];exact j
    rw[zbl] at j;have hno:r.1 ∉ nms done:=λz=>j.2.2 r.1 z r.1 (by simp) rfl;have hkl:done.length<40:=by have:=congrArg zcR I;rw[zaR] at this;have:=U.k5;lia
    have hm:=U.mm r v;refine⟨p2,?_⟩;push_cast[true_and];refine cY rfl X.at_ (by decide+kernel) ?_;push_cast[vB,AD];refine⟨a,rfl,ob,cD ks,dN ks,p2,hlr,_,rfl,_,gw r v,?_⟩;show yQ C w [.loc S.length,.str r.1,.lst (r.2.map D.str)] S2 _;refine⟨S.length,r.1,r.2,S.length,done,[],rfl,⟨m,t,e,ns,X⟩,hno,hkl,by lia,(U.nk r v).ok,λm hm'=>(hm.2 m hm').ok,λS4 X4 k4 l4=>hN _ _ ⟨done++[r],Y,_,rfl,by rw[<-I];simp,rfl,X4,(k4 a ha).trans p2,λk i G=>(k4 k i).trans (k2 k i G)⟩⟩
end
open PySem L2 M M6
noncomputable abbrev CN:List Str:=["_law_feed_here","_law_marks","_law_ties","_law_knots","_law_here","_law_way","_law_k","_law_some"]
noncomputable abbrev lW:=CN.take 3
def iL:aE CN lW (aj (top 38)):=L2.cy
noncomputable abbrev yp:List Str:=["_law_feed_here","_law_ties","_law_way","_law_here","_law_some"]
noncomputable abbrev jj:=yp.take 3
def uu:aE yp jj (aj (top 44)):=L2.cy
theorem dR{m:Type}{P:aA->Prop}{t:AT}{e:AE}{Q:List D->aA->Prop}{δ:bh}{S:aA}(g:m->D)(c:m->Bool)(f:m->D)(n:P S):∀(as:List m)(i:List D)(h:bh),h.set 0 none=δ.set 0 none->
  (∀a∈as,∀Q:Bool->aA->Prop,Q (c a) S->t (δ.set 0 (some (g a))) S Q)->(∀a∈as,∀Q:AK,Q (.dat (f a)) S->e (δ.set 0 (some (g a))) S Q)->i.length+as.length<=yag->Q (i++(as.filter c).map f) S->
  bM P (bE 0) t e (as.map g) i h S Q
 |[],i,h,_,_,_,_,q=>⟨n,by simpa using q⟩
 |a::as,i,h,hd,ht,he,hl,q=>by
  refine⟨n,?_⟩;have s:=by
   have:=congrArg (λl=>l.set 0 (some (g a))) hd;simpa[zcB] using this
  simp only[bE];rw[s];simp only[zby] at hl;refine ht a (by simp) _ ?_;cases o:c a with
  |true=>
   refine he a (by simp) _ ⟨by lia,?_⟩;refine dR g c f n as _ _ (by simp) (λx j=>ht x (by simp[j])) (λx j=>he x (by simp[j])) (by simp;lia) ?_;rw[List.filter_cons,o] at q;simpa[R.d] using q
  |false=>
   refine dR g c f n as _ _ (by simp) (λx j=>ht x (by simp[j])) (λx j=>he x (by simp[j])) (by lia) ?_;rw[List.filter_cons,o] at q;exact q
def Lu:kq ((d++[g]).map iB) (-1)=some (iB g):=by
 unfold kq JU;rw[zbR,zaR,yIn (by decide),yIp (by simp;lia)];show((d++[g]).map iB)[(-1+((d.length+1:Nat):Int)).toNat]? =_;rw[show(-1+((d.length+1:Nat):Int)).toNat=d.length by lia,zbh,zab (zcS _)];simp
noncomputable def GX(ts:List Ti)(x:Str):List Sp:=(ts.filter λt=>decide (t.1=x)).map λt=>(true,t.2.1,t.2.2)
noncomputable def JW(ts:List Ti)(x:Str):List Sp:=(ts.filter λt=>decide (t.2.2=x)).map λt=>(false,t.2.1,t.1)
def MX(h:Eo d g):∀s∈GX g x++JW g x,s.2.2∈nms d/\Nm s.2.1:=λs a=>by
 obtain a|a:=zbQ.mp a
 ·let⟨t,e,rfl⟩:=zcD.mp a;have:=h.ti t (zbP.mp e).1;lia
 ·let⟨t,e,rfl⟩:=zcD.mp a;have:=h.ti t (zbP.mp e).1;lia
def E9(h:d.length<=20):(GX d x++JW d x).length<=40:=by
 unfold GX JW;rw[zaR,zbR,zbR];have h1:=List.length_filter_le (λt:Ti=>decide (t.1=x)) d;have h2:=List.length_filter_le (λt:Ti=>decide (t.2.2=x)) d;lia
def Io(a:d.length<=20)(q:g ((GX d x).map iB) S):bM (λ_=>True) (bE 0) (aB (lT NS (lT mH (cT 0) (aC (.int 0))) (cT 1))) (iE (eL (aC (.str "on")) (eL (lT mH (cT 0) (aC (.int 1))) (eL (lT mH (cT 0) (aC (.int 2))) b4)))) (d.map T3) [] [none,some (.str x)] S g:=
 dR (δ:=[none,some (.str x)]) T3 (λt=>decide (t.1=x)) (λt=>iB (true,t.2.1,t.2.2)) trivial d [] _ rfl (λt _ g q=>⟨_,rfl,_,e7,_,rfl,_,rfl,q⟩) (λt _ g q=>⟨_,rfl,_,cS,_,rfl,_,at2,sz rfl,q⟩) (by rw[yaf];simp;lia) (by unfold GX at q;rw[zcC] at q;exact q)
def Iq(a:d.length<=20)(q:g ((JW d x).map iB) S):bM (λ_=>True) (bE 0) (aB (lT NS (lT mH (cT 0) (aC (.int 2))) (cT 1))) (iE (eL (aC (.str "back")) (eL (lT mH (cT 0) (aC (.int 1))) (eL (lT mH (cT 0) (aC (.int 0))) b4)))) (d.map T3) [] [none,some (.str x)] S g:=
 dR (δ:=[none,some (.str x)]) T3 (λt=>decide (t.2.2=x)) (λt=>iB (false,t.2.1,t.1)) trivial d [] _ rfl (λt _ g q=>⟨_,rfl,_,at2,_,rfl,_,rfl,q⟩) (λt _ g q=>⟨_,rfl,_,cS,_,rfl,_,e7,sz rfl,q⟩) (by rw[yaf];simp;lia) (by unfold JW at q;rw[zcC] at q;exact q)
def QJ{ss:List Sp}(h:∀s∈ss,iu s.2.2=true/\iu s.2.1=true)(e:ss.length<=100):fit (.lst (ss.map iB))=true:=eT (n:=2) (by
 simp only[gn,zbN,zbC];refine⟨yDt (by rw[zbR];exact e),λd hd=>?_⟩;let⟨s,a,rfl⟩:=zcD.mp hd;exact vM (Bj s.1) (h s a).2 (h s a).1) (by decide)
def ne_nil(e:aP S d=.lst ds)(a:fit (.lst ds)=true)(q:g (.dat (.bl (decide (ds≠[])))) S):RX d (.lst []) S g:=by
 unfold RX;rw[e];refine⟨a,rfl,?_⟩;cases ds<;>exact q
def IG{x:D}:kq (d++[x]) (-1)=some x:=by
 unfold kq JU;rw[zaR,yIn (by decide),yIp (by simp;lia)];show(d++[x])[(-1+((d.length+1:Nat):Int)).toNat]? =_;rw[show(-1+((d.length+1:Nat):Int)).toNat=d.length by lia,zab (zcS _)];simp
def IM:yh (.lst d) (.lst g) S k=(d.length+g.length<=yag/\k (.new (.lst (d++g))) S):=rfl
def Ip{ss:List Sp}(a:ss.length<=30)(q:d ((ss.map (·.2.2)).map D.str) S):bM (λ_=>True) (bE 0) lR (lT mH (cT 0) (aC (.int 2))) (ss.map iB) [] [none] S d:=
 dR (δ:=[none]) iB (λ_=>true) (λs=>D.str s.2.2) trivial ss [] _ rfl (λs _ d q=>q) (λs _ d q=>⟨_,rfl,_,at2,q⟩) (by rw[yaf];simp;lia) (by rw[List.filter_eq_self.mpr λ_ _=>rfl,zbY];rw[zcC] at q;exact q)
section
variable {w:yak}
def Fc:AN:=λj S Q=>∃(p a n:Nat)(o:MO)(ks:List Kn)(h:List Ti),j=[.loc p,.loc a,.lst (h.map T3)]/\p≠a/\S[p]? =some (some o)/\S[a]? =some (some (.dct (cD ks) (dN ks)))/\Fd n o/\n<900000/\Eo ks h/\0<ks.length/\
 ∀(k:Str)(e:List Sp)(i:MO),k∈nms ks->(∀s∈e,s.2.2∈nms ks/\Nm s.2.1)->e.length<=8->Fd (n+10) i->Q (.dat (fT k e)) (S.set p (some i))
def QK(T:Txt K mg C fi)(F:Src K mg "_law_walk" lW (top 38))(e:Def P w K mg base 1 "_law_next" ck (av K cZ)):Def P w K mg base 2 "_law_walk" lW (av K Fc):=by
 refine eU F iL (λG S Q h=>?_) (λf cdv A outer s H E t=>?_)
 ·let⟨p,a,n,o,ks,O,rfl,_⟩:=h;rfl
 ·refine⟨_,(W7 (Xd 3 iL.nd (Xo (X9 t) T.sorted (W8 (W5 1)))) (W7 (Xd 4 iL.nd (Xs (W5 3) (Xh e t (W6 (W5 0) (W6 (Xo Xz T.len (W8 (W5 3))) Xa))))) (W7 (Xd 5 iL.nd (Xg (W6 (W5 4) (W8 (Xg Xa))))) (W7 (Xw PassesOwn.never rfl (XY (by rfl) T.range (W6 (Xh e t (W6 (W5 0) (W8 Xc))) Xa)) (Xn 6 iL.nd) (W7 (M.iO (i:=7) iL.nd rfl rfl (caps:=[none,some 4]) (qP (by rfl)) (by rfl) (by rfl) rfl (Xr (W5 2)) (λ_ _ _ _=>(M.fj (i:=0) (by decide+kernel:List.Nodup (["_law_tie","_law_here"]:List Str)) rfl (Or.inl rfl))) (λ_ _ _ _=>(M.gR (Xi (Xm t) (Xb (W5 0)) (W5 1) (aF _)))) (λ_ _ _ _=>(Xg (W6 Xe (W6 (Xb (W5 0)) (W6 (Xb (W5 0)) Xa)))))) (W7 (Xv (XC PySem.F.plainAttrs_list PySem.F.slot_list_extend PySem.F.type_list_extend M.lq (W5 7) (W6 (XE ["_law_tie","_law_here"] [none,some 4] (Xr (W5 2)) (λ_ _ _ _=>(M.gR (Xi (Xm t) (Xb (W5 0)) (W5 1) (aF _)))) (λ_ _ _ _=>(Xg (W6 Xe (W6 (Xb (W5 0)) (W6 (Xb (W5 0)) Xa)))))) Xa))) (W9 (Xk (Xi (M.G0 t) (W5 7) (Xp Xa) (aF _)) (W7 (Xd 5 iL.nd (Xg (W6 (Xb (W5 5)) (W6 (Xf M.qf (Xb (W5 5)) (Xg (W6 (Xs (W5 7) (Xh e t (W6 (W5 0) (W6 (Xo Xz T.len (W8 (W5 7))) Xa)))) Xa))) Xa)))) (W9 (Xd 4 iL.nd (Xb (Xs (Xb (W5 5)) (M.BH M.Nh Xc)))))) Xl))))) (W9 (Xj (W5 5))))))),λG S Q h=>?_⟩;let⟨p,a,n,o,ks,O,rfl,hpa,hS,hA,ho,hn,hW,h0,q⟩:=h;have e0:aJ CN [.loc p,.loc a,.lst (O.map T3)]=[some (.loc p),some (.loc a),some (.lst (O.map T3)),none,none,none,none,none]:=rfl;rw[e0];have hp:=cM hS;have hsd:aP S (.loc a)=.dct (cD ks) (dN ks):=by simp only[aP,hA];rfl
  refine bB λN1 h1=>?_;push_cast[true_and];refine⟨_,dN ks,nms ks,rfl,by rw[hsd];rw[zcC];rfl,by rw[zbR];have:=hW.k5;lia,λZ hpm _=>h1 _ _ ?_⟩;have hkl:Z.length=ks.length:=by have:=hpm.length_eq;simp_all
  have hkm:∀y∈Z,y∈nms ks:=λy hy=>hpm.mem_iff.mp hy;refine bB λN1 h1=>?_;push_cast[true_and];refine⟨Z.length,by show some _=_;rw[zbR],p,n,Z.length,o,rfl,hS,ho,by lia,by lia,by have:=hW.k5;lia,λz o1 hz ho1=>?_⟩;refine p7 hz λt hhr=>h1 _ _ ?_;refine bB λN1 h1=>?_;push_cast[iE];refine⟨zcT _,sz rfl,h1 _ _ ?_⟩;refine bB λN1 h1=>?_;push_cast[fP,n8];refine dX hS ho1 (by lia) (by decide) (by decide) λc o2 hc ho2=>⟨c,rfl,by lia,by lia,?_⟩
  have nmk:∀y,y∈nms ks->iu y=true:=λy hy=>by
   let⟨k,hk,rfl⟩:=zcD.mp hy;exact(hW.nk k hk).ok
  have hU:∀(o:MO)(j:aA),(S.set p (some o)++j)[p]? =some (some o):=λo j=>by rw[zae (by simp_all)];exact aX hS
  have hU2:∀(o o':MO)(j:aA),(S.set p (some o)++j).set p (some o')=S.set p (some o')++j:=λo o' j=>by simp_all
  refine aW (λrest δ S'=>∃(n2:Nat)(o2:MO)(j:aA)(v:Str)(u:List Sp)(v6 v7:Option D),δ=[some (.loc p),some (.loc a),some (.lst (O.map T3)),some (.lst (Z.map D.str)),some (.str v),some (fT t u),v6,v7]/\S'=S.set p (some o2)++j/\Fd n2 o2/\n2+rest.length<=n+10/\v∈nms ks/\(∀s∈u,s.2.2∈nms ks/\Nm s.2.1)/\u.length+rest.length<=8) ?_ ?_ _ _ _ ⟨n+2,o2,[],t,[],none,none,rfl,by rw[zbS],ho2,by simp[fM];lia,hkm t hhr,by simp,by simp[fM];lia⟩
  ·intro δ S' V;let⟨n3,Y,j,v,u,v6,v7,rfl,rfl,L,hn3,hhe,U,W⟩:=V;refine⟨trivial,h1 _ _ ?_⟩;push_cast[true_and];refine oJ (dW (by simp only[fT,b8,bQ,jx (f:=iB) λ_ _=>rfl,zcx])) L (by simp) (q t u Y (hkm t hhr) U (by simp_all) (L.mono (by simp_all)))
  ·intro d rest δ S' N' V hN';let⟨n3,Y,j,v,u,v6,v7,rfl,rfl,L,hn3,hhe,U,W⟩:=V;simp only[zby] at hn3 W;refine⟨trivial,?_⟩;refine bB λN2 h2=>?_;push_cast[bF,cU,dP];refine Io hW.t9 (h2 _ _ ?_);refine bB λN2 h2=>?_;push_cast[CL,cU,dP];rw[zaR,zcb,zbj];have hat:∀(o:MO)(G:List D),(S.set p (some o)++(j++[some (MO.lst G)]))[S.length+j.length]? =some (some (MO.lst G)):=λo G=>by simp
   have iC:∀(o:MO)(G:List D),aP (S.set p (some o)++(j++[some (MO.lst G)])) (.loc (S.length+j.length))=.lst G:=λo G=>by simp only[aP,hat];rfl
   have HL:∀(o:MO)(G ds':List D),(S.set p (some o)++(j++[some (MO.lst G)])).set (S.length+j.length) (some (MO.lst ds'))=S.set p (some o)++(j++[some (MO.lst ds')]):=λo G ds'=>by simp
   have hok:=MX (x:=v) hW;have hl:=E9 (x:=v) hW.t9;refine⟨by rw[iC];rfl,?_⟩;refine Iq hW.t9 ⟨_,_,_,_,rfl,rfl,hat _ _,.inl rfl,by rw[zbR,zbR,<-zaR,yaf];lia,?_⟩;rw[HL,<-zbZ];refine h2 _ _ ?_;generalize GX O v++JW O v=so at hok hl;have cnd:∀Q,Q (decide (so.map iB≠[])) (S.set p (some Y)++(j++[some (MO.lst (so.map iB))]))->aB (lT RX (cT 7) (gm b4)) [some (.loc p),some (.loc a),some (.lst (O.map T3)),some (.lst (Z.map D.str)),some (.str v),some (fT t u),some d,some (.loc (S.length+j.length))] (S.set p (some Y)++(j++[some (MO.lst (so.map iB))])) Q:=λQ q=>⟨_,rfl,zcT _,ne_nil (iC _ _) (QJ (λs hs=>⟨nmk _ (hok s hs).1,(hok s hs).2.ok⟩) (by lia)) ⟨_,rfl,q⟩⟩
   by_cases hso:so=[]
   ·subst hso;refine eK (λQ q=>cnd Q (qF (by simp) q)) (hN' _ _ ⟨n3,Y,_,v,u,_,_,rfl,rfl,L,by lia,hhe,U,by lia⟩)
   ·refine ki (λQ q=>cnd Q (qT (by simp_all) q)) ?_;refine bB λN2 h2=>?_;push_cast[fT,bf,e7,cS];rw[iC];refine⟨so.length,by show some _=_;rw[zbR],p,n3,so.length,Y,rfl,hU _ _,L,by lia,List.length_pos_iff.mpr hso,by lia,λX o4 hz4 ho4=>?_⟩;rw[hU2];have hs:=hok so[X] (zbJ hz4);have hix:∀Q,Q (.dat (iB so[X])) (S.set p (some o4)++(j++[some (MO.lst (so.map iB))]))->mH (.loc (S.length+j.length)) (.int X) (S.set p (some o4)++(j++[some (MO.lst (so.map iB))])) Q:=λQ q=>by
     unfold mH;rw[iC];refine⟨_,cL (by simp_all),q⟩
    refine hix _ ⟨sz rfl,qU (by rw[zbR,yaf];show u.length+1<=_;lia) ⟨sz rfl,h2 _ _ ?_⟩⟩;have eq:u.map iB++[(R.dat (iB so[X])).d]=(u++[so[X]]).map iB:=by rw[zbZ];rfl
    rw[eq];push_cast[bf,cS];refine⟨_,Lu,_,at2,hN' _ _ ⟨n3+1,o4,_,so[X].2.2,u++[so[X]],_,_,rfl,rfl,ho4,by lia,hs.1,λs I=>?_,by simp;lia⟩⟩;obtain I|I:=zbQ.mp I
    ·exact U s I
    ·rw[zaU.mp I];exact hs
def A9:AN:=λi S Q=>∃(p n:Nat)(o:MO)(ks:List Kn)(a:List Ti)(k:Str)(e:List Sp),i=[.loc p,.lst (a.map T3),fT k e]/\S[p]? =some (some o)/\Fd n o/\n<900000/\Eo ks a/\(∀x∈nms ks,GX a x++JW a x≠[])/\k∈nms ks/\(∀s∈e,s.2.2∈nms ks/\Nm s.2.1)/\e.length<=29/\
 ∀(s:Sp)(h:MO),s.2.2∈nms ks->Nm s.2.1->Fd (n+1) h->Q (.dat (fT k (e++[s]))) (S.set p (some h))
def L1(T:Txt K mg C fi)(F:Src K mg "_law_longer" jj (top 44))(a:Def P w K mg base 1 "_law_next" ck (av K cZ)):Def P w K mg base 2 "_law_longer" jj (av K A9):=by
 refine eU F uu (λj S Q h=>?_) (λf cdv A outer s H E hr=>?_)
 ·let⟨p,n,o,ks,m,k,e,rfl,_⟩:=h;rfl
 ·refine⟨_,(W7 (Xd 3 uu.nd (Xs (Xf M.qf (Xp (W6 (Xb (W5 2)) Xa)) (XE ["_law_step"] [none] (Xr (Xb (W5 2))) (λ_ _ _ _=>XF) (λ_ _ _ _=>(Xb (W5 0))))) (M.BH M.Nh Xc))) (W7 (M.iO (i:=4) uu.nd rfl rfl (caps:=[none,some 3]) (qP (by rfl)) (by rfl) (by rfl) rfl (Xr (W5 1)) (λ_ _ _ _=>(M.fj (i:=0) (by decide+kernel:List.Nodup (["_law_tie","_law_here"]:List Str)) rfl (Or.inl rfl))) (λ_ _ _ _=>(M.gR (Xi (Xm hr) (Xb (W5 0)) (W5 1) (aF _)))) (λ_ _ _ _=>(Xg (W6 Xe (W6 (Xb (W5 0)) (W6 (Xb (W5 0)) Xa)))))) (W7 (Xv (XC PySem.F.plainAttrs_list PySem.F.slot_list_extend PySem.F.type_list_extend M.lq (W5 4) (W6 (XE ["_law_tie","_law_here"] [none,some 3] (Xr (W5 1)) (λ_ _ _ _=>(M.gR (Xi (Xm hr) (Xb (W5 0)) (W5 1) (aF _)))) (λ_ _ _ _=>(Xg (W6 Xe (W6 (Xb (W5 0)) (W6 (Xb (W5 0)) Xa)))))) Xa))) (W9 (Xj (Xg (W6 (Xb (W5 2)) (W6 (Xf M.qf (Xb (W5 2)) (Xg (W6 (Xs (W5 4) (Xh a hr (W6 (W5 0) (W6 (Xo Xz T.len (W8 (W5 4))) Xa)))) Xa))) Xa)))))))),λj S Q h=>?_⟩;let⟨p,n,o,ks,m,k,e,rfl,hS,ho,hn,X,hne,hk,Z,ab,q⟩:=h;have e0:aJ yp [.loc p,.lst (m.map T3),fT k e]=[some (.loc p),some (.lst (m.map T3)),some (fT k e),none,none]:=rfl;rw[e0];have hp:=cM hS;refine bB λU h1=>?_;push_cast[cU,dP,fT,bf,e7,cS];refine⟨sz rfl,?_⟩;refine Ip (by lia) ?_;refine⟨by rw[zbR,zbR,yaf];show 1+e.length<=_;lia,?_⟩;obtain⟨l,x,el⟩:∃l x,k::e.map (·.2.2)=l++[x]:=⟨_,_,(List.dropLast_concat_getLast (List.cons_ne_nil k (e.map (·.2.2)))).symm⟩
  have hx:x∈nms ks:=by
   have:x∈k::e.map (·.2.2):=by rw[el];simp
   grind
  have e1:[D.str k]++(e.map (·.2.2)).map D.str=l.map D.str++[.str x]:=by rw[show[D.str k]++(e.map (·.2.2)).map D.str=(k::e.map (·.2.2)).map D.str from rfl,el,zbZ];rfl
  rw[e1];refine⟨_,IG,h1 _ _ ?_⟩;refine bB λU h1=>?_;push_cast[bF,cU,dP];refine Io X.t9 (h1 _ _ ?_);refine bB λU h1=>?_;push_cast[CL,cU,dP];have O:∀(S:aA)(j:List D),(S++[some (MO.lst j)])[S.length]? =some (some (MO.lst j)):=λS j=>by simp
  have Y:∀(S:aA)(j:List D),aP (S++[some (MO.lst j)]) (.loc S.length)=.lst j:=λS j=>by simp only[aP,O];rfl
  have HL:∀(S:aA)(j v:List D),(S++[some (MO.lst j)]).set S.length (some (MO.lst v))=S++[some (MO.lst v)]:=λS j v=>by simp
  have hok:=MX (x:=x) X;have hl:=E9 (x:=x) X.t9;refine⟨by rw[Y];rfl,?_⟩;refine Iq X.t9 ⟨_,_,_,_,rfl,rfl,O _ _,.inl rfl,by rw[zbR,zbR,<-zaR,yaf];lia,?_⟩;rw[HL,<-zbZ];refine h1 _ _ ?_;have t:=List.length_pos_iff.mpr (hne x hx);generalize GX m x++JW m x=so at hok hl t;push_cast[bf,e7,cS];rw[Y];refine⟨so.length,by show some _=_;rw[zbR],p,n,so.length,o,rfl,by rw[zae hp];exact hS,ho,by lia,t,by lia,λu y G I=>?_⟩;rw[zaE _ _ hp];have W:=hok so[u] (zbJ G);have L:(S.set p (some y)).length=S.length:=zcb ..;have hix:∀Q,Q (.dat (iB so[u])) (S.set p (some y)++[some (MO.lst (so.map iB))])->mH (.loc S.length) (.int u) (S.set p (some y)++[some (MO.lst (so.map iB))]) Q:=λQ q=>by
   unfold mH;rw[<-L,Y];refine⟨_,cL (by simp_all),q⟩
  refine hix _ ⟨sz rfl,qU (by rw[zbR,yaf];show e.length+1<=_;lia) ⟨sz rfl,?_⟩⟩;have eq:e.map iB++[(R.dat (iB so[u])).d]=(e++[so[u]]).map iB:=by rw[zbZ];rfl
  rw[eq];exact oJ (dW (by simp only[pV,b8,bQ,jx (f:=iB) λ_ _=>rfl,zcx])) I (by rw[zcd L]) (q so[u] y W.1 W.2 I)
end
open PySem L2 M M6
noncomputable abbrev ym:List Str:=["_law_web_here","_law_marks","_law_way","_law_pattern_here","_law_knots","_law_stands","_law_due","_law_found"]
noncomputable abbrev gG:=ym.take 4
def kK:aE ym gG (aj (top 43)):=L2.cy
def R5{ks:List Kn}{k:Str}{ss:List Sp}:wq ss ((k::ss.map (·.2.2)).map (aL ks))=wr (aL ks) k ss:=by
 unfold wq wr;congr 1;funext i;cases i with
 |zero=>rfl
 |succ i=>
  show((ss.map (·.2.2)).map (aL ks))[i]?.getD (aL ks k)=_;simp only[Wg,zcC,zbh];cases ss[i]?<;>rfl
def cN.ext(X:cN C W d S n g q)(e:∀(k:Nat)(v:Option MO),S[k]? =some v->S'[k]? =some v):cN C W d S' n g q:=by
 let⟨m,t,f,ns,X⟩:=X;refine⟨m,t,f,ns,e _ _ X.at_,e _ _ X.yC,e _ _ X.ti,e _ _ X.ne,X.len,X.me,X.tn,λi h=>by let⟨a,h1,h2⟩:=X.near i h;refine⟨a,e _ _ h1,h2⟩,X.lo,X.EF,X.RU,X.kb,X.mb⟩
def Mm(k:Nat)(v:Option MO)(h:S[k]? =some v):(S++d)[k]? =some v:=by rw[zae (cM h)];exact h
section
variable {w:yak}
def t7(C:Addr)(W:yak):AN:=λi S Q=>∃(x a b:Nat)(p:Pt)(ks:List Kn)(h:List Ti)(k:Str)(e:List Sp),i=[.loc x,.loc a,fT k e,tD p]/\cN C W b S x ks h/\Eo ks h/\S[a]? =some (some (.dct (cD ks) (dN ks)))/\Jf ks k e/\(∀s∈e,Nm s.2.1)/\fB p/\oc p<=48/\e.length<=30/\e.length+dp p<=40/\Q (.dat (.bl true)) S
def LZ(T:Txt K mg C fi)(F:Src K mg "_law_right" gG (top 43))(j:Def P w K mg base 124 "_law_fits" fZ (av K (OC w 40)))(AV:Def P w K mg base 4 "fits" mq (av K (Fv C w))):Def P w K mg base 125 "_law_right" gG (av K (t7 C w)):=by
 refine eU F kK (λds S Q h=>?_) (λf cdv A outer s H E o=>?_)
 ·let⟨x,a,b,p,ks,us,k,i,rfl,_⟩:=h;rfl
 ·refine⟨_,(W7 (Xd 4 kK.nd (Xf Xq (Xp (W6 (Xb (W5 2)) Xa)) (XE ["_law_step"] [none] (Xr (Xb (W5 2))) (λ_ _ _ _=>XF) (λ_ _ _ _=>(Xb (W5 0)))))) (W7 (Xd 5 kK.nd (Xg (W6 (Xb (W5 2)) (W6 (XE ["_law_knot","_law_marks"] [none,some 1] (Xr (W5 4)) (λ_ _ _ _=>XF) (λ_ _ _ _=>(XM (bV o) (W5 1) (W5 0) (λ_ _=>rfl)))) Xa)))) (W7 (Xd 6 kK.nd (Xh j o (W6 (Xu M.uE) (W6 (W5 5) (W6 (W5 3) (W6 Xc (W6 (Xo Xz T.len (W6 (Xb (W5 2)) Xa)) Xa))))))) (W7 (Xd 7 kK.nd (Xh AV o (W6 (W5 0) (W6 (W5 3) (W8 (W5 2)))))) (W9 (Xj (M.m9 (Xo M.TN T.isinstance (W6 (W5 7) (W6 (M.GL "bool" (by rfl) T.bool (by rfl)) Xa))) (M.m6 (Xx (Xm o) (W5 7) (W5 6) (aF _)))))))))),λds S Q h=>?_⟩;let⟨x,a,b,p,ks,us,k,i,rfl,hX,W,hA,n,hnw,hp,hoc,O,h40,q⟩:=h;have e0:aJ ym [.loc x,.loc a,fT k i,tD p]=[some (.loc x),some (.loc a),some (fT k i),some (tD p),none,none,none,none]:=rfl;rw[e0];refine bB λu h1=>?_;push_cast[cU,dP,fT,bf,e7,cS];refine⟨sz rfl,?_⟩;refine Ip O ⟨by rw[zbR,zbR,yaf];show 1+i.length<=_;lia,h1 _ _ ?_⟩;rw[show[D.str k]++(i.map (·.2.2)).map D.str=(k::i.map (·.2.2)).map D.str from rfl];refine bB λu h1=>?_;push_cast[cU,dP];refine⟨_,cS,?_⟩;simp only[pV];have Z:aP S (.loc a)=.dct (cD ks) (dN ks):=by simp only[aP,hA];rfl
  have I:∀y∈k::i.map (·.2.2),y∈nms ks:=λy l=>by
   obtain rfl|h:=zcp.mp l
   ·exact n.1
   ·let⟨s,hs,rfl⟩:=zcD.mp h;exact(n.2 s hs).1
  refine dR D.str (λ_=>true) (λy=>.lst ((aL ks y).map D.str)) trivial _ [] _ rfl (λ_ _ Q q=>q) (λy l Q q=>⟨_,rfl,_,rfl,_,_,_,_,Z,rfl,z8 (I y l),q⟩) (by rw[yaf];simp;lia) ?_;rw[List.filter_eq_self.mpr λ_ _=>rfl,zbY];refine⟨sz rfl,h1 _ _ ?_⟩;have hC:Cn p i ((k::i.map (·.2.2)).map (aL ks)):=⟨hp,hoc,O,by simp,λm hm=>by
   let⟨y,l,rfl⟩:=zcD.mp hm;have:=W.mm _ (dg (I y l));exact this,hnw⟩
  have ews:D.tup [D.tup (i.map iB),.lst ((k::i.map (·.2.2)).map λy=>D.lst ((aL ks y).map D.str))]=oz i ((k::i.map (·.2.2)).map (aL ks)):=by unfold oz;rw[zcC];rfl
  rw[ews];have L:=@R5 ks k i;generalize (k::i.map (·.2.2)).map (aL ks)=mss at hC L;refine bB λu h1=>?_;push_cast[fT,bf,cS];refine⟨i.length,by show some _=_;rw[zbR],S.length,p,p,i,mss,0,i.length,[],rfl,by simp;rfl,⟨by simp,by simp⟩,hC,mU p,zcT _,zcS _,by omega,trivial,λv U hv hK'=>h1 _ _ ?_⟩;rw[zaw _ _ (zcS _)];refine bB λu h1=>?_;push_cast[true_and];obtain⟨m,t,e,ns,X⟩:=hX.ext Mm;refine⟨x,b,p,ks,us,k,i,rfl,⟨_,m,t,e,ns,X⟩,W.nd,n,hp,by lia,λr o=>⟨by have:=(W.mm r o).1;lia,λy l=>((W.mm r o).2 y l).ok⟩,λG Y=>h1 _ _ ?_⟩;obtain rfl:G=v:=by
   lia
  push_cast[true_and];refine⟨true,rfl,?_⟩;show XD S _ (.dat (.bl (decide (G=G)))) Q;rw[yDt rfl];refine⟨_,dW rfl,λk o' hk e=>.inl (by rw[zae hk] at e;exact e),by rw[List.take_left];exact q⟩
end
open PySem PySem.Spec L2 M M6 PyProof.Rows
noncomputable abbrev zh:Stmt:=inClass (top 27) 7
noncomputable abbrev yt:List Str:=["self"]
noncomputable abbrev jl:=yt
def Kv:aE yt jl (aj zh):=L2.cy
noncomputable abbrev y9:Stmt:=inClass (top 27) 11
noncomputable abbrev yk:List Str:=["self","knots"]
noncomputable abbrev jg:=yk.take 1
def Bl:aE yk jg (aj y9):=L2.cy
def Mc(h:d δ S λds P l=>bM P g k q ds [] (qO caps δ) l λa j=>r (.new (.lst a)) j):cU caps d g k q δ S r:=h
def Ri(h:d δ S λr a=>i6 a g r.d):dP d δ S g:=h
structure Tq(n m:Nat)(d:D):Prop where
 b8:b8 d=true
 dep:(py d).depth<=n
 sh:yF (py d)
 wt:L2.wt (py d)<=m
theorem WL:∀{es:List D},(∀e∈es,Tq g k e)->bQ es=true/\PyData.depthAll (di es)<=g/\dQ (di es)/\nJ (di es)<=es.length*(k+2)
 |[],_=>⟨rfl,by simp[di,PyData.depthAll],by simp[di,dQ],by simp[di,nJ]⟩
 |e::es,h=>by
  let⟨a,b,c,d⟩:=WL (es:=es) λx j=>h x (by simp[j]);have i:=h e (by simp);refine⟨by simp only[bQ,zbN];exact⟨i.b8,a⟩,?_,by exact⟨i.sh,c⟩,?_⟩
  ·have:=i.dep;simp only[di,PyData.depthAll];lia
  ·have:=i.wt;simp only[di,nJ,zby];lia
theorem Tq.tup{l:Nat}{es:List D}(h:∀e∈es,Tq n m e)(i:es.length<=l):Tq (n+1) (l*(m+2)+3) (.tup es):=by
 let⟨a,b,c,d⟩:=WL h;refine⟨by simpa[M.b8] using a,by simp only[py,PyData.depth];lia,by simpa[py,yF] using c,?_⟩;have:es.length*(m+2)<=l*(m+2):=zaG _ i;simp only[py,L2.wt];lia
def Tq.asc(a:y.length<=20)(h:VE y):Tq 0 202 (.str y):=by
 refine⟨rfl,by simp[py,PyData.depth],VE.ok h,?_⟩
 ·simp only[py,L2.wt];lia
def Tq.name(h:Nm y):Tq 0 202 (.str y):=.asc (by have:=h.len;lia) λc a=>by have:=zT (h.low c a);lia
def Tq.mono(h:Tq n m d)(e:n<=g)(i:m<=m'):Tq g m' d:=⟨h.b8,zcF h.dep e,h.sh,zcF h.wt i⟩
def Pp(a:Tq n m d)(h:n<=100)(i:m<=1000000)(q:g (.dat (.str (py d).shown)) S):CH [d] S g:=by
 refine⟨d,rfl,?_⟩;rw[(kJ (S:=S) a.b8)];refine⟨a.b8,a.sh.show,zcF a.dep h,zcF (shown_le _ a.sh) (zcF a.wt (by rw[yaf];lia)),q⟩
def oA(l:List Str):(∀m∈rB l,m∈l)/\(rB l).length<=l.length:=by
 unfold rB;split
 ·rename_i z;exact⟨λm h=>z.choose_spec.1.mem_iff.mp h,Nat.le_of_eq z.choose_spec.1.length_eq⟩
 ·exact⟨by simp,by simp⟩
def vQ(l:List Ti):(∀m∈yP l,m∈l)/\(yP l).length<=l.length:=by
 unfold yP;split
 ·rename_i z;exact⟨λm h=>z.choose_spec.1.mem_iff.mp h,Nat.le_of_eq z.choose_spec.1.length_eq⟩
 simp
def Eo.tq(h:Eo d g):Tq 4 81763 (sr d g):=by
 refine Tq.tup (n:=3) (l:=2) (m:=40878) ?_ (by simp);simp only[zcp,zbL,or_false];have u:(nms d).length=d.length:=by unfold nms;rw[zbR]
 rintro e (rfl|rfl)
 ·refine Tq.tup (n:=2) (l:=5) (m:=8173) (λe i=>?_) (by rw[zbR];have:=(oA (nms d)).2;have:=h.k5;lia);let⟨x,q,rfl⟩:=zcD.mp i;have o:=dg ((oA _).1 x q);have j:=h.mm _ o;refine Tq.tup (n:=1) (l:=2) (m:=4083) ?_ (by simp);simp only[zcp,zbL,or_false];rintro e (rfl|rfl)
  ·exact(Tq.name (h.nk _ o)).mono (by decide) (by decide)
  ·refine Tq.tup (n:=0) (l:=20) (m:=202) (λe i=>?_) (by rw[zbR];exact zcF (oA _).2 (zcF (L2.jC (jD _) λy a=>k8 a) j.1));let⟨y,a,rfl⟩:=zcD.mp i;exact .name (j.2 y (k8 ((oA _).1 y a)))
 ·refine(Tq.tup (n:=1) (l:=20) (m:=615) (λe i=>?_) (by rw[zbR];exact zcF (vQ g).2 h.t9)).mono (by decide) (by decide);let⟨t,s,rfl⟩:=zcD.mp i;have:=h.ti t ((vQ g).1 t s);have nk:∀y∈nms d,Nm y:=λy a=>by let⟨k,j,rfl⟩:=zcD.mp a;exact h.nk k j
  refine Tq.tup (n:=0) (l:=3) (m:=202) ?_ (by simp);simp only[zcp,zbL,or_false];rintro e (rfl|rfl|rfl)
  ·exact .name (nk _ this.1)
  ·exact .name this.2.1
  ·exact .name (nk _ this.2.2)
section
variable {w:yak}
def Bc(C:Addr)(W:yak):AN:=λe S Q=>∃n b ks a,e=[.loc n]/\cN C W b S n ks a/\(nms ks).Nodup/\((rB (nms ks)).Perm (nms ks)->Q (.new (.lst ((rB (nms ks)).map D.str))) S)
def L5(T:Txt K mg C fi)(F:qW K C "knots" "Web.knots" jl zh):fS P w K mg base 1 C "knots" jl (Bc C w):=by
 refine lH F Kv (λv S Q h=>?_) (λf x A outer s H E l=>?_)
 ·let⟨n,b,ks,i,rfl,_⟩:=h;rfl
 ·refine⟨_,(W9 (Xj (Xo (X9 l) T.sorted (W6 (XG (W5 0) T.cl T.n_marked) Xa)))),λv S Q h=>?_⟩;let⟨n,b,ks,i,rfl,⟨m,t,e,ns,X⟩,o,q⟩:=h;push_cast[true_and];refine sS X rfl ⟨_,ks.map (λk=>Hf k.2),nms ks,rfl,?_,by rw[zbR];exact X.kb,λy a j=>?_⟩
  ·rw[pV,ju X.yC];rw[zcC];rfl
  ·have e:=Fb o a j;subst e;exact q a
def t6(C:Addr)(W:yak):AN:=λe S Q=>∃n b ks a,e=[.loc n]/\cN C W b S n ks a/\(nms ks).Nodup/\a.Nodup/\a.length<=60/\
 ((rB (nms ks)).Perm (nms ks)->(yP a).Perm a->(∀x∈nms ks,(rB (rH (aL ks x))).Perm (rH (aL ks x)))->Q (.dat (sr ks a)) S)
def LX(T:Txt K mg C fi)(F:qW K C "rows" "Web.rows" jg y9)(j:fS P w K mg base 1 C "knots" jl (Bc C w))(a:fS P w K mg base 2 C "marks" nD (Fe C w)):fS P w K mg base 3 C "rows" jg (t6 C w):=by
 refine lH F Bl (λds S Q h=>?_) (λf cdv A outer s H E O=>?_)
 ·let⟨n,b,ks,I,rfl,_⟩:=h;rfl
 ·refine⟨_,(W7 (M.fE (i:=1) Bl.nd rfl rfl (caps:=[none,some 0]) (qP (by rfl)) (by rfl) (by rfl) rfl (Xr (M.iS (W5 0) T.cl j (O.mono (by decide)))) (λ_ _ _ _=>(M.fj (i:=0) (by decide+kernel:List.Nodup (["name","self"]:List Str)) rfl (Or.inl rfl))) (λ_ _ _ _=>XF) (λ_ _ _ _=>(Xg (W6 (W5 0) (W6 (XI M.jB T.tuple (W6 (XO (W5 1) T.cl a (O.mono (by decide)) (W8 (W5 0))) Xa)) Xa))))) (W9 (Xj (Xg (W6 (XI M.jB T.tuple (W8 (W5 1))) (W6 (XI M.jB T.tuple (W6 (Xo (M.GZ O) T.sorted (W6 (XG (W5 0) T.cl T.n_tied) Xa)) Xa)) Xa)))))),λds S Q h=>?_⟩;let⟨n,b,ks,I,rfl,X',hn,Y,ab,q⟩:=h;have Z:I.length<64:=by lia
  let⟨m,t,e,cs,X⟩:=id X';have e0:aJ yk [.loc n]=[some (.loc n),none]:=rfl;rw[e0];push_cast[true_and];have hkl:=X.kb;refine Mc (Ri (cY rfl X.at_ (by decide+kernel) ?_));refine⟨n,b,ks,I,rfl,X',hn,λU=>?_⟩;have hsl:(rB (nms ks)).length=ks.length:=by rw[U.length_eq,zbR]
  refine lN (λrest y W S'=>∃(done l:List Str)(v:Option D),rest=l.map D.str/\done++l=rB (nms ks)/\y=done.map (S9 ks)/\W=[v,some (.loc n)]/\S'=S/\∀x∈done,(rB (rH (aL ks x))).Perm (rH (aL ks x))) ?_ ?_ _ _ _ _ ⟨[],_,none,rfl,rfl,rfl,rfl,rfl,by simp⟩
  ·intro y W S' z;let⟨done,l,v,u,G,rfl,rfl,rfl,hd⟩:=z;have:l=[]:=by simp_all
   subst this;rw[zbS] at G;subst G;refine⟨trivial,?_⟩;refine⟨_,rfl,?_⟩;refine Cb X rfl ⟨t,I.map T3,rfl,X.ti,Fz X.EF,by rw[zbR];exact Z,λks' hp' hu=>?_⟩;let⟨us,L,rfl⟩:=Of hp';have e:=Kc Y L hu;subst e;refine⟨_,rfl,ySz 2,?_⟩;exact q U L λx o=>hd x (U.mem_iff.mpr o)
  ·intro x xs y W S' N z hN;let⟨done,l,v,u,G,rfl,rfl,rfl,hd⟩:=z;cases l with
   |nil=>simp at u
   |cons r l=>
    injection u with u e3;subst u;subst e3;have O:r∈nms ks:=U.mem_iff.mp (by rw[<-G];simp);refine⟨trivial,?_⟩;refine⟨_,rfl,cY rfl X.at_ (by decide+kernel) ⟨_,rfl,n,b,ks,I,(r,aL ks r),rfl,⟨_,m,t,e,cs,X⟩,hn,dg O,λhpm=>?_⟩⟩;refine⟨_,rfl,ySz 2,?_,?_⟩
    ·have:=congrArg zcR G;rw[zaR] at this;rw[zbR,yaf];lia
    ·refine hN _ _ _ ⟨done++[r],l,_,rfl,by simp_all,by rw[zbZ];rfl,rfl,rfl,λx o=>?_⟩;grind
end
open PySem L2 M M6
noncomputable abbrev yq:List Str:=["_law_feed_here","_law_names_here","_law_marks","_law_ties","_law_name","_law_one","_law_way","_law_k","_law_pattern_here","_law_leaf_here","_law_some"]
noncomputable abbrev jk:=yq.take 2
def cB:aE yq jk (aj (top 45)):=L2.cy
section
variable {p:Nat}{o':MO}{tl:aA}
def Tp(h:p<S.length):(S.set p (some o)++tl)[p]? =some (some o):=by rw[zae (by rw[zcb];exact h),zbk,yIp rfl,yIp h]
def RZ(h:p<S.length):(S.set p (some o)++tl).set p (some o')=S.set p (some o')++tl:=by simp_all
def NT(i:Nat):(S.set p (some o)++tl)[S.length+i]? =tl[i]?:=by rw[zab (by rw[zcb];lia),zcb,zan]
def Vv(i:Nat)(x:Option MO):(S.set p (some o)++tl).set (S.length+i) x=S.set p (some o)++tl.set i x:=by simp
def Ts0:(S.set p (some o)++d::tl).set S.length g=S.set p (some o)++g::tl:=Vv 0 g
def Tl:(S.set p (some o)++tl).length=S.length+tl.length:=by rw[zaR,zcb]
end
noncomputable def RT(ks:List Kn)(x:Str)(ms:List Str):List Kn:=if x∈nms ks then ks.map (λk=>if k.1=x then(x,ms) else k) else ks++[(x,ms)]
def Tr:ja (cD d) (dN d) (.inr x) (.lst (ms.map D.str))=.dct (cD (RT d x ms)) (dN (RT d x ms)):=by
 have e:(cD d).any (λj=>decide (j=Sum.inr x))=decide (x∈nms d):=zZ d x;unfold ja RT;rw[e];by_cases h:x∈nms d
 ·rw[yDt h,yIp rfl,yIp h];unfold cD dN;rw[List.zip_map',zcC,zcC,zcC];congr 1
  ·refine zaK λk _=>?_;lia
  ·refine zaK λk _=>?_;by_cases a:k.1=x<;>simp[a]
 ·rw[yDf h,yIn h];simp[cD,dN]
structure MD(ks:List Kn)(b:Nat):Prop where
 nd:(nms ks).Nodup
 ln:ks.length<=b
 nk:∀x∈ks,Nm x.1
 mm:∀x∈ks,x.2.length<=1/\∀m∈x.2,Nm m
def MD.put(h:MD d q)(j:Nm x)(l:ms.length<=1/\∀m∈ms,Nm m):MD (RT d x ms) (q+1)/\0<(RT d x ms).length:=by
 unfold RT;by_cases g:x∈nms d
 ·rw[yIp g];have e:nms (d.map λk=>if k.1=x then(x,ms) else k)=nms d:=by
   unfold nms;rw[zcC];refine zaK λk _=>?_;lia
  refine⟨⟨by rw[e];exact h.nd,by rw[zbR];have:=h.ln;lia,λk a=>?_,λk a=>?_⟩,?_⟩
  ·let⟨u,i,rfl⟩:=zcD.mp a;have:=h.nk u i;split
   ·exact j
   ·exact this
  ·let⟨u,i,rfl⟩:=zcD.mp a;have:=h.mm u i;split
   ·exact l
   ·exact this
  grind
 ·rw[yIn g];refine⟨⟨?_,by have:=h.ln;simp;omega,λk a=>?_,λk a=>?_⟩,by simp⟩
  ·unfold nms;rw[zbZ];refine zbl.mpr ⟨h.nd,by simp,λy n z hz e=>g ?_⟩;grind
  ·obtain a|a:=zbQ.mp a
   ·exact h.nk k a
   ·rw[zaU.mp a];exact j
  ·obtain a|a:=zbQ.mp a
   ·exact h.mm k a
   ·rw[zaU.mp a];exact l
section
variable {w:yak}
def Bb:AN:=λe S Q=>∃(p n:Nat)(N:JH)(o:MO),e=[.loc p,N.d]/\S[p]? =some (some o)/\Fd n o/\n<800000/\∀a,Q (.dat (.bl true)) (S.set p (some a))
def L3(T:Txt K mg C fi)(F:Src K mg "_law_long" jk (top 45))(e:Def P w K mg base 1 "_law_next" ck (av K cZ))(dc:Def P w K mg base 2 "_law_leaf" fQ (av K kH))(I:Def P w K mg base 2 "_law_longer" jj (av K A9))(ab:Def P w K mg base 3 "_law_web" tL (av K (OA C w)))(O:Def P w K mg base 125 "_law_right" gG (av K (t7 C w))):Def P w K mg base 126 "_law_long" jk (av K Bb):=by
 refine eU F cB (λds S Q h=>?_) (λf cdv A outer s H E u=>?_)
 ·let⟨p,n,N,o,rfl,_⟩:=h;rfl
 ·refine⟨_,(W7 (Xd 2 cB.nd (Xu M.fG)) (W7 (Xd 3 cB.nd (Xu (Xp Xa))) (W7 (Xw PassesOwn.never rfl (Xr (XW XX (Xb (W5 1)) XZ (XJ (Xf Xq Xc (Xh e u (W6 (W5 0) (W8 Xc))))))) (Xn 4 cB.nd) (W9 (Yc (bV u) (W5 2) (W5 4) (Xf XT (Xp (W6 (Xb (Xb (W5 1))) Xa)) (Xh e u (W6 (W5 0) (W8 Xc)))) rfl))) (W7 (Xw PassesOwn.never rfl (Xr (Xo (X9 u) T.sorted (W8 (W5 2)))) (Xn 5 cB.nd) (W9 (Xv (XC PySem.F.plainAttrs_list PySem.F.slot_list_extend PySem.F.type_list_extend M.lq (W5 3) (W6 (XE ["_law_other","_law_one","_law_names_here"] [none,some 5,some 1] (Xr (Xo (X9 u) T.sorted (W8 (W5 2)))) (λ_ _ _ _=>XF) (λ_ _ _ _=>(Xg (W6 (W5 1) (W6 (Xb (Xb (W5 2))) (W8 (W5 0))))))) Xa))))) (M.frs (W7 (Xd 6 cB.nd (Xg (W6 (Xb (Xo (X9 u) T.sorted (W8 (W5 2)))) (W8 (Xg Xa))))) (W7 (Xw PassesOwn.never rfl (XY (by rfl) T.range (W6 (Xf Xq Xc (Xh e u (W6 (W5 0) (W8 Xc)))) Xa)) (Xn 7 cB.nd) (W9 (Xd 6 cB.nd (Xh I u (W6 (W5 0) (W6 (W5 3) (W8 (W5 6)))))))) (W7 (Xd 8 cB.nd (Xh dc u (W6 (W5 0) (W8 (W5 1))))) (W7 (Xw PassesOwn.never rfl (XY (by rfl) T.range (W8 Xc)) (Xn 7 cB.nd) (W7 (Xd 9 cB.nd (Xh dc u (W6 (W5 0) (W8 (W5 1))))) (W7 (Xd 10 cB.nd (Xu (Xp (W6 (Xg (W6 Xe (W8 (W5 8)))) (W6 (Xg (W6 Xe (W6 (Xg (W6 Xe (W6 (Xg (W6 (W5 8) (W8 (W5 9)))) Xa))) Xa))) Xa))))) (W7 (Xv (XC PySem.F.plainAttrs_list PySem.F.slot_list_append PySem.F.type_list_append X7 (W5 10) (W6 (Xg (W6 Xe (W6 (Xg (W6 (Xg (W6 Xe (W8 (W5 8)))) (W6 (Xg (W6 Xe (W8 (W5 9)))) Xa))) Xa))) Xa))) (W9 (Xd 8 cB.nd (Xs (W5 10) (Xh e u (W6 (W5 0) (W8 Xc)))))))))) (W7 (Xd 8 cB.nd (Xg (W6 Xe (W6 (Xg (W6 Xe (W6 (Xg (W6 (W5 8) (W6 (Xg (W6 Xe (W8 (W5 8)))) Xa))) Xa))) Xa)))) (W9 (Xj (Xh O u (W6 (Xh ab u (W6 (W5 2) (W8 (W5 3)))) (W6 (W5 2) (W6 (W5 6) (W8 (W5 8)))))))))))))))))),λds S Q h=>?_⟩;let⟨p,n,N,o,rfl,hS,ho,hn,q⟩:=h;have e0:aJ yq [.loc p,N.d]=[some (.loc p),some N.d,none,none,none,none,none,none,none,none,none]:=rfl;rw[e0];have hp:=cM hS;refine bB λY h1=>?_;push_cast[bF];refine h1 _ _ ?_;clear h1 Y;refine bB λY h1=>?_;push_cast[bF,gm,b4];refine⟨zcT _,h1 _ _ ?_⟩;clear h1 Y;refine bB λY h1=>?_;push_cast[fP,dP];refine⟨_,e7,?_⟩;have e1:∀o:MO,(S++[some (MO.dct [] [])]++[some (MO.lst [])]).set p (some o)=S.set p (some o)++[some (.dct (cD []) (dN [])),some (.lst [])]:=λo=>by
   rw[zbj,zaE _ _ hp];rfl
  refine⟨p,n,3,o,rfl,by rw[zbj,zae hp];exact hS,ho,by lia,by decide,by decide,λz o1 hz ho1=>?_⟩;rw[e1];push_cast[true_and];rw[show(1:Int)+(z:Int)=((1+z:Nat):Int) by lia,show(S++[some (MO.dct [] [])]).length=S.length+1 by simp];show dO _ _ _ (cutD (N.ks.map D.str) none (some ((1+z:Nat):Int))) _ _ _;rw[qJ (by rw[zbR,N.k5];lia),<-zct];have hks:(N.ks.take (1+z)).length=1+z:=by rw[zbz,N.k5];lia
  have hkm:∀y∈N.ks.take (1+z),Nm y:=λy hy=>N.nk y (zaF hy);generalize N.ks.take (1+z)=kz at hks hkm;obtain⟨w0,w1,w2,hw⟩:∃w0 w1 w2,N.ws=[w0,w1,w2]:=by
   have:=N.w3
   match N.ws,this with
   |[a,b,c],_=>refine⟨a,b,c,rfl⟩
  obtain⟨m0,m1,m2,hm⟩:∃m0 m1 m2,N.ms=[m0,m1,m2]:=by
   have:=N.m3
   match N.ms,this with
   |[a,b,c],_=>refine⟨a,b,c,rfl⟩
  have hw0:Nm w0:=N.nw w0 (by rw[hw];simp);have hm0:Nm m0:=N.nm m0 (by rw[hm];simp);refine aW (λrest δ Z=>∃(v:List Str)(n2 c:Nat)(o2:MO)(ks:List Kn)(v4:Option D),rest=v.map D.str/\(∀y∈v,Nm y)/\δ=[some (.loc p),some N.d,some (.loc S.length),some (.loc (S.length+1)),v4,none,none,none,none,none,none]/\Z=S.set p (some o2)++[some (.dct (cD ks) (dN ks)),some (.lst [])]/\Fd n2 o2/\n2+v.length<=n+4/\c+v.length<=3/\MD ks c/\(0<v.length∨0<ks.length)) ?_ ?_ _ _ _
   ⟨kz,n+1,0,o1,[],none,rfl,hkm,rfl,rfl,ho1,by lia,by lia,⟨by simp,by simp,by simp,by simp⟩,.inl (by lia)⟩
  ·intro δ Z V;let⟨v,n2,c,o2,ks,v4,u,L,rfl,rfl,ho2,hn2,hc3,W,hk0⟩:=V;obtain rfl:v=[]:=by cases v with|nil=>rfl|cons a b=>simp at u
   refine⟨trivial,h1 _ _ ?_⟩;have hk0:0<ks.length:=by simpa using hk0
   have hn2:n2<=n+4:=by simpa using hn2
   have hk3:ks.length<=3:=by have:=W.ln;simp at hc3;lia
   clear h1 Y u L hkm hks kz e1 ho1 o1 hc3;refine bB λY h1=>?_;push_cast[fP,dP];have hsd:∀(o:MO)(G:aA),aP (S.set p (some o)++some (.dct (cD ks) (dN ks))::G) (.loc S.length)=.dct (cD ks) (dN ks):=λo G=>by
    have:(S.set p (some o)++some (MO.dct (cD ks) (dN ks))::G)[S.length]? =some (some (MO.dct (cD ks) (dN ks))):=NT 0;simp only[aP,this];rfl
   have hso:∀(o:MO)(G:aA)(Q:AK),(∀kn:List Str,kn.Perm (nms ks)->Q (.new (.lst (kn.map D.str))) (S.set p (some o)++some (.dct (cD ks) (dN ks))::G))->CG [.loc S.length] (S.set p (some o)++some (.dct (cD ks) (dN ks))::G) Q:=λo G Q k=>⟨_,dN ks,nms ks,rfl,by rw[hsd];unfold cD nms;rw[zcC];rfl,by unfold nms;rw[zbR];lia,λkn hpm _=>k kn hpm⟩
   refine hso _ _ _ λkn hpm=>?_;show dO _ _ _ (kn.map D.str) _ _ _;have hkl:kn.length=ks.length:=by have:=hpm.length_eq;unfold nms at this;rwa [zbR] at this
   refine aW (λrest δ Z=>∃(v:List Str)(j:List Ti)(v5:Option D),rest=v.map D.str/\(∀y∈v,y∈nms ks)/\δ=[some (.loc p),some N.d,some (.loc S.length),some (.loc (S.length+1)),v4,v5,none,none,none,none,none]/\Z=S.set p (some o2)++[some (.dct (cD ks) (dN ks)),some (.lst (j.map T3))]/\j.length+3*v.length<=9/\(∀t∈j,t.1∈nms ks/\t.2.1=w0/\t.2.2∈nms ks)/\∀x∈nms ks,x∈v∨(x,w0,x)∈j) ?_ ?_ _ _ _ ⟨kn,[],none,rfl,λy hy=>hpm.mem_iff.mp hy,rfl,rfl,by simp;lia,by simp,λx U=>.inl (hpm.mem_iff.mpr U)⟩
   ·intro δ Z V;let⟨v,j,v5,u,L,rfl,rfl,ht9,hts,ag⟩:=V;obtain rfl:v=[]:=by cases v with|nil=>rfl|cons a b=>simp at u
    refine⟨trivial,h1 _ _ ?_⟩;clear h1 Y u L;have hW:Eo ks j:=⟨W.nd,by lia,W.nk,λx U=>⟨by have:=(W.mm x U).1;lia,(W.mm x U).2⟩,by simp at ht9;lia,λt ht=>⟨(hts t ht).1,by rw[(hts t ht).2.1];exact hw0,(hts t ht).2.2⟩⟩
    have hne:∀x∈nms ks,GX j x++JW j x≠[]:=λx U h=>by
     have:=(ag x U).resolve_left (by simp);have:(true,w0,x)∈GX j x:=zcD.mpr ⟨(x,w0,x),zbP.mpr ⟨this,by simp⟩,rfl⟩;rw[(List.append_eq_nil_iff.mp h).1] at this;simp at this
    refine⟨S.length+1,j.map T3,NT 1,?_⟩;rw[Vv 1];have hpL:¬p=S.length+1:=by lia
    have ed:[some (D.loc p),some N.d,some (.loc S.length),some (.loc (S.length+1)),v4,v5,none,none,none,none,none].map (Option.map (sb (S.length+1) (.lst (j.map T3))))=[some (.loc p),some N.d,some (.loc S.length),some (.lst (j.map T3)),v4.map (sb (S.length+1) (.lst (j.map T3))),v5.map (sb (S.length+1) (.lst (j.map T3))),none,none,none,none,none]:=by
     simp[sb,JH.d,hpL]
    rw[ed];show gE _ _ _ _ (S.set p (some o2)++[some (.dct (cD ks) (dN ks)),none]);refine bB λY h1=>?_;push_cast[iE,b4];refine hso _ _ _ λkn3 ai=>?_;have hl3:0<kn3.length:=by have:=ai.length_eq;unfold nms at this;rw[zbR] at this;lia
    show mH (.lst (kn3.map D.str)) (.int (0:Nat)) _ _;refine p7 hl3 λk0 am=>⟨zcT _,sz rfl,h1 _ _ ?_⟩
    clear h1 Y;have Ud:k0∈nms ks:=ai.mem_iff.mp am;refine bB λY h1=>?_;push_cast[fP,n8];refine⟨p,n2,5,o2,rfl,Tp hp,ho2,by lia,by decide,by decide,λz5 o5 hz5 ho5=>?_⟩;rw[RZ hp];push_cast[true_and];refine⟨by lia,by lia,?_⟩;generalize v4.map (sb (S.length+1) (.lst (j.map T3)))=v4';generalize v5.map (sb (S.length+1) (.lst (j.map T3)))=v5';refine aW (λrest δ Z=>∃(n3:Nat)(o3:MO)(ss:List Sp)(v7:Option D),δ=[some (.loc p),some N.d,some (.loc S.length),some (.lst (j.map T3)),v4',v5',some (fT k0 ss),v7,none,none,none]/\Z=S.set p (some o3)++[some (.dct (cD ks) (dN ks)),none]/\Fd n3 o3/\n3+rest.length<=n+40/\ss.length+rest.length<=24/\∀s∈ss,s.2.2∈nms ks/\Nm s.2.1) ?_ ?_ _ _ _ ⟨n2+1,o5,[],none,rfl,rfl,ho5,by simp[fM];lia,by simp[fM];lia,by simp⟩
    ·intro δ Z V;let⟨n3,o3,ss,v7,rfl,rfl,ho3,hn3,ac,hss⟩:=V;refine⟨trivial,h1 _ _ ?_⟩;clear h1 Y;simp only[zbW,zcK] at hn3 ac;refine bB λY h1=>?_;push_cast[true_and];refine⟨p,n3,N,o3,rfl,Tp hp,ho3,by lia,λl o4 hl ho4=>h1 _ _ ?_⟩;clear h1 Y;rw[RZ hp];refine bB λY h1=>?_;push_cast[fP,n8];refine⟨by decide,by decide,?_⟩;refine aW (λrest δ Z=>∃(n3:Nat)(o3:MO)(x:Pt)(G:aA)(v7 v9 v10:Option D),δ=[some (.loc p),some N.d,some (.loc S.length),some (.lst (j.map T3)),v4',v5',some (fT k0 ss),v7,some (tD x),v9,v10]/\Z=S.set p (some o3)++some (.dct (cD ks) (dN ks))::none::G/\Fd n3 o3/\n3+4*rest.length<=n+60/\fB x/\oc x+6*rest.length<=19/\dp x+2*rest.length<=6) ?_ ?_ _ _ _ ⟨n3+3,o4,.lf l,[],v7,none,none,rfl,rfl,ho4,by simp[fM];lia,hl,by simp[fM,oc],by simp[fM,dp]⟩
     ·intro δ Z V;let⟨n4,o5,x,G,v7,v9,v10,rfl,rfl,ho5,hn4,U,hoc,hdp⟩:=V;refine⟨trivial,h1 _ _ ?_⟩;clear h1 Y;simp only[zbW,Nat.mul_zero,zcK] at hn4 hoc hdp;refine bB λY h1=>?_;push_cast[iE,b4];refine⟨sz rfl,sz rfl,sz rfl,sz rfl,h1 _ _ ?_⟩;clear h1 Y;show Mr _ _ [some (.loc p),some N.d,some (.loc S.length),some (.lst (j.map T3)),v4',v5',some (fT k0 ss),v7,some (tD (.many (.alt [x,.many x]))),v9,v10] _;push_cast[true_and];refine⟨S.length,ks,j,rfl,NT 0,hW,λZ us hU hun X k'=>?_⟩;refine⟨_,S.length,_,.many (.alt [x,.many x]),ks,us,k0,ss,rfl,X,hU,(k' S.length (by rw[Tl];simp)).trans (NT 0),⟨Ud,λs hs=>⟨(hss s hs).1,(hss s hs).2.ok⟩⟩,λs hs=>(hss s hs).2,by simp[fB,mF,U],by simp only[oc,iT];lia,by lia,by simp only[dp,xK];lia,?_⟩;refine oJ (p:=p) (o:=o5) (n:=n4) (dW rfl) ho5 (zbm λi=>?_) (q o5);by_cases hi:i<S.length
      ·rw[zaS,yIp hi,k' i (by rw[Tl];lia),zae (by rw[zcb];exact hi)]
      ·rw[zaS,yIn hi,zav (by rw[zcb];lia)]
     ·intro d rest δ Z N' V hN';let⟨n4,o5,x,G,v7,v9,v10,rfl,rfl,ho5,hn4,U,hoc,hdp⟩:=V;simp only[zby] at hn4 hoc hdp;refine⟨trivial,?_⟩;show gE _ _ _ [some (.loc p),some N.d,some (.loc S.length),some (.lst (j.map T3)),v4',v5',some (fT k0 ss),some d,some (tD x),v9,v10] _;refine bB λN2 h2=>?_;push_cast[true_and];refine⟨p,n4,N,o5,rfl,Tp hp,ho5,by lia,λl2 o6 hl2 ho6=>h2 _ _ ?_⟩;clear h2 N2;rw[RZ hp];refine bB λN2 h2=>?_;push_cast[bF,iE,gm,b4];refine⟨sz rfl,sz rfl,sz rfl,sz rfl,sz rfl,h2 _ _ ?_⟩;clear h2 N2;refine bB λN2 h2=>?_;push_cast[CL,iE,b4];rw[Tl,zbj];have hat:∀(o:MO)(ds:List D),(S.set p (some o)++((some (MO.dct (cD ks) (dN ks))::none::G)++[some (MO.lst ds)]))[S.length+(some (MO.dct (cD ks) (dN ks))::none::G).length]? =some (some (MO.lst ds)):=λo ds=>by rw[NT];simp
      have iC:∀(o:MO)(ds:List D),aP (S.set p (some o)++((some (MO.dct (cD ks) (dN ks))::none::G)++[some (MO.lst ds)])) (.loc (S.length+(some (MO.dct (cD ks) (dN ks))::none::G).length))=.lst ds:=λo ds=>by simp only[aP,hat];rfl
      refine⟨by rw[iC];rfl,sz rfl,sz rfl,sz rfl,sz rfl,_,_,_,rfl,rfl,hat _ _,by rw[yaf];show 2<_;lia,h2 _ _ ?_⟩;clear h2 N2;rw[Vv,zaw _ _ (zcS _),zcL];push_cast[true_and];refine⟨p,n4+3,3,o6,rfl,Tp hp,ho6,by lia,by decide,by decide,λz7 o7 hz7 ho7=>?_⟩;rw[RZ hp];have fin:∀y:Pt,fB y->oc y<=oc x+6->dp y<=dp x+2->N' [some (.loc p),some N.d,some (.loc S.length),some (.lst (j.map T3)),v4',v5',some (fT k0 ss),some d,some (tD y),some (lD l2),some (.loc (S.length+(some (MO.dct (cD ks) (dN ks))::none::G).length))] (S.set p (some o7)++((some (MO.dct (cD ks) (dN ks))::none::G)++[some (MO.lst [tD (.many x),tD (.many (.seq [x,.lf l2])),tD (.alt [.many x,.many (.lf l2)])])])):=λy hy h3 h4=>hN' _ _ ⟨n4+4,o7,y,G++[_],_,_,_,rfl,rfl,ho7,by lia,hy,by lia,by lia⟩;have hix:∀Q:AK,(∀y:Pt,fB y->oc y<=oc x+6->dp y<=dp x+2->Q (.dat (tD y)) (S.set p (some o7)++((some (MO.dct (cD ks) (dN ks))::none::G)++[some (MO.lst [tD (.many x),tD (.many (.seq [x,.lf l2])),tD (.alt [.many x,.many (.lf l2)])])])))->mH (.loc (S.length+(some (MO.dct (cD ks) (dN ks))::none::G).length)) (.int z7) (S.set p (some o7)++((some (MO.dct (cD ks) (dN ks))::none::G)++[some (MO.lst [tD (.many x),tD (.many (.seq [x,.lf l2])),tD (.alt [.many x,.many (.lf l2)])])])) Q:=λQ k=>by
       unfold mH;rw[iC];rcases(by lia:z7=0∨z7=1∨z7=2) with rfl|rfl|rfl
       ·refine⟨_,e7,k (.many x) U (by simp only[oc];lia) (by simp only[dp];lia)⟩
       ·refine⟨_,cS,k (.many (.seq [x,.lf l2])) ⟨U,hl2,trivial⟩ (by simp only[oc,iT];lia) (by simp only[dp,xK];lia)⟩
       ·refine⟨_,at2,k (.alt [.many x,.many (.lf l2)]) ⟨U,hl2,trivial⟩ (by simp only[oc,iT];lia) (by simp only[dp,xK];lia)⟩
      exact hix _ fin
    ·intro d rest δ Z N' V hN';let⟨n3,o3,ss,v7,rfl,rfl,ho3,hn3,ac,hss⟩:=V;simp only[zby] at hn3 ac;refine⟨trivial,?_⟩;push_cast[true_and];refine⟨p,n3,o3,ks,j,k0,ss,rfl,Tp hp,ho3,by lia,hW,hne,Ud,hss,by lia,λs o4 h3 h4 ho4=>?_⟩;rw[RZ hp];refine hN' _ _ ⟨n3+1,o4,ss++[s],_,rfl,rfl,ho4,by lia,by rw[zaR];simp;lia,λs' hs'=>?_⟩;obtain hs'|hs':=zbQ.mp hs'
     ·exact hss s' hs'
     ·rw[zaU.mp hs'];exact⟨h3,h4⟩
   ·intro t rest δ Z N' V hN';let⟨v,j,v5,u,L,rfl,rfl,ht9,hts,ag⟩:=V;cases v with
    |nil=>simp at u
    |cons y v=>
     simp only[zcq,zda.injEq] at u;let⟨rfl,rfl⟩:=u;simp only[zby] at ht9;refine⟨trivial,?_⟩;push_cast[CL,cU,dP];have hst:aP (S.set p (some o2)++[some (.dct (cD ks) (dN ks)),some (.lst (j.map T3))]) (.loc (S.length+1))=.lst (j.map T3):=by
      have:(S.set p (some o2)++[some (MO.dct (cD ks) (dN ks)),some (MO.lst (j.map T3))])[S.length+1]? =some (some (MO.lst (j.map T3))):=NT 1;simp only[aP,this];rfl
     refine⟨by rw[hst];rfl,hso _ _ _ λkn2 ae=>?_⟩;have hl2:kn2.length<=3:=by have:=ae.length_eq;unfold nms at this;rw[zbR] at this;lia
     show bM _ _ _ _ (kn2.map D.str) [] [none,some (.str y),some N.d] _ _;refine dR (δ:=[none,some (.str y),some N.d]) D.str (λ_=>true) (λx=>T3 (y,w0,x)) trivial kn2 [] _ rfl (λ_ _ Q q=>q) (λx U Q q=>⟨_,rfl,_,rfl,_,cS,_,by rw[hw];exact e7,_,rfl,sz rfl,q⟩) (by rw[yaf];simp;lia) ?_;rw[List.filter_eq_self.mpr λ_ _=>rfl,zbY];refine⟨_,j.map T3,_,_,rfl,rfl,NT 1,.inl rfl,by rw[zbR,zbR,yaf];lia,?_⟩;rw[Vv 1];refine hN' _ _ ⟨v,j++kn2.map (λx=>(y,w0,x)),_,rfl,λz hz=>L z (zaz _ hz),rfl,by rw[zbZ,zcC];rfl,by rw[zaR,zbR];lia,λt ht=>?_,λx U=>?_⟩
     ·obtain ht|ht:=zbQ.mp ht
      ·exact hts t ht
      ·let⟨x,U,rfl⟩:=zcD.mp ht;refine⟨L y (by simp),rfl,ae.mem_iff.mp U⟩
     ·obtain h|h:=ag x U
      ·obtain rfl|h:=zcp.mp h
       ·exact .inr (zbQ.mpr (.inr (zcD.mpr ⟨x,ae.mem_iff.mpr U,rfl⟩)))
       ·exact .inl h
      ·exact .inr (zbQ.mpr (.inl h))
  ·intro t rest δ Z N' V hN';let⟨v,n2,c,o2,ks,v4,u,L,rfl,rfl,ho2,hn2,hc3,W,hk0⟩:=V;cases v with
   |nil=>simp at u
   |cons y v=>
    simp only[zcq,zda.injEq] at u;let⟨rfl,rfl⟩:=u;simp only[zby] at hn2 hc3;refine⟨trivial,?_⟩;push_cast[nC,gm,b4];refine⟨_,at2,_,by rw[hm];exact e7,sz rfl,p,n2,2,o2,rfl,Tp hp,ho2,by lia,by decide,by decide,λz2 o3 hz2 ho3=>?_⟩;rw[RZ hp];refine⟨⟨by lia,by lia⟩,by show 1*((z2:Nat):Int).toNat<=_;rw[yaf];lia,S.length,rfl,cD ks,dN ks,.inr y,rfl,NT 0,by unfold dN;rw[zbR];have:=W.ln;lia,?_⟩;have em:(R.new (MO.lst (zck ((z2:Nat):Int).toNat [(R.dat (D.str m0)).d]).flatten)).d=.lst ((zck z2 m0).map D.str):=by
     show D.lst (zck z2 [D.str m0]).flatten=_;rw[List.flatten_replicate_singleton,List.map_replicate]
    rw[em,Tr,Ts0];let⟨a1,a2⟩:=W.put (ms:=zck z2 m0) (L y (by simp)) ⟨by simp;lia,λm hm'=>by rw[(List.mem_replicate.mp hm').2];exact hm0⟩;exact hN' _ _ ⟨v,n2+1,c+1,o3,_,_,rfl,λz hz=>L z (zaz _ hz),rfl,rfl,ho3,by lia,by lia,a1,.inr a2⟩
end
open PySem L2 M M6
noncomputable abbrev ze:Stmt:=top 46
noncomputable abbrev JD:List Str:=["_law_script","_law_feed_here","_law_names_here","_law_pattern_here","_law_parts","_law_k","_law_leaves","_law_marks","_law_ties","_law_way","_law_web_here","_law_kept","_law_part"]
noncomputable abbrev vE:=JD.take 1
def eX:aE JD vE (aj ze):=L2.cy
noncomputable def strOf:yai->Option Str
 |.str x _=>some x
 |_=>none
theorem r9:∀{vs:List yai}{ss:List Str},vs.map strOf=ss.map some->Vals (ss.map V.str) vs
 |[],[],_=>.nil
 |v::vs,s::ss,h=>by
  have h1:=zda.inj h;refine .cons ?_ (r9 h1.2);cases v<;>simp[strOf] at h1;let⟨rfl,_⟩:=h1;exact⟨_,rfl⟩
def E8(l:K.lookup a=some ⟨.type "tuple",d,.seq its n,sl⟩)(q:(its.toList.map strOf==ss.map some)=true)(h:ss.length<=100)(H:Hp):eS K H a (ss.map V.str):=by
 have v:=r9 (eq_of_beq q);refine .inr ⟨_,its,n,l,rfl,rfl,?_,v⟩;have:=v.length;rw[zbR] at this;rw[yaf,<-zaN];lia
def su(a:S'.take 0=[])(q:g (.dat (.bl d)) []):XD [] S' (.dat (.bl d)) g:=
 ⟨_,dW rfl,λk o h e=>absurd h (zce _),by exact q⟩
def J.UL{p:List yai->Prop}(h:∀a b c d e,p [a,b,c,d,e])(us:List yai)(e:us.length=5):p us:=by
 cases us with
 |nil=>cases e
 |cons a r=>exact J.by4 (p:=λr=>p (a::r)) (h a) r (Nat.succ.inj e)
def OI(I:bh->aA->Prop)(h:∀N:bh->aA->Prop,(∀e S',I e S'->N e S')->d {Dn with nx:=N} δ S)(k:∀e S',I e S'->g Dn e S'):gE d g Dn δ S:=h _ k
section
variable {w:yak}
def Cq{e:Type}{a:List e}{k:Nat}:cutD a none (some (k:Int))=a.take k:=by
 obtain h|h:=zcJ a.length k
 ·unfold M.cutD;rw[show HT.cC a.length a.length (some k)=a.length by rw[HT.kL];lia];show(a.drop 0).take (a.length - 0)=_;rw[List.drop_zero,Nat.sub_zero,zbD,zao (by lia)]
 ·exact qJ h
mutual
theorem zP:∀(p:Pt)(k:Nat),dp p<=k->rJ p<=oc p*3 ^ k
 |.lf _,k,_=>by simp[rJ]
 |.many p,k,h=>by
  simp only[dp] at h;obtain⟨j,rfl⟩:∃j,k=j+1:=⟨k - 1,by lia⟩
  have a:=zP p j (by lia);have e:0<3 ^ j:=Nat.pow_pos (by decide);simp only[rJ,oc,Nat.pow_succ,zcV];rw[<-Nat.mul_assoc];lia
 |.seq ps,k,h=>by
  simp only[dp] at h;have a:=uS ps k (by lia);simp only[rJ,oc,zcV];lia
 |.alt ps,k,h=>by
  simp only[dp] at h;have a:=uS ps k (by lia);have e:0<3 ^ k:=Nat.pow_pos (by decide);simp only[rJ,oc,zcV];lia
theorem uS:∀(ps:List Pt)(k:Nat),xK ps<=k->ql ps<=iT ps*3 ^ k
 |[],k,_=>by simp[ql]
 |p::ps,k,h=>by
  simp only[xK] at h;have h1:=zP p k (by lia);have h2:=uS ps k (by lia);simp only[ql,iT,zcV];lia
end
def Fl:AN:=λa S Q=>∃ns:List Int,a=[.ir ns]/\S=[]/\Q (.dat (.bl true)) []
def QW(T:Txt K mg C fi)(F:JK K "law" "law" ze f fd)(u:Def P w K mg base 1 "_law_cell_at" mD (av K Fx))(G:Def P w K mg base 1 "_law_feed" mw (av K Fw))(W:Def P w K mg base 1 "_law_next" ck (av K cZ))(v:Def P w K mg base 2 "_law_names" ji (av K A8))(ab:Def P w K mg base 6 "_law_pattern" ee (av K (t8 3)))(ai:Def P w K mg base 6 "_law_made" ef (av K (ua 3)))(an:Def P w K mg base 2 "_law_laid" qY (av K MY))(ag:Def P w K mg base 2 "_law_walk" lW (av K Fc))(ap:Def P w K mg base 3 "_law_web" tL (av K (OA C w)))(ar:fS P w K mg base 3 C "rows" jg (t6 C w))(ae:Def P w K mg base 125 "_law_right" gG (av K (t7 C w)))(am:Def P w K mg base 126 "_law_long" jk (av K Bb)):
  eV P w K mg base oZ 130 f fd vE (av K Fl):=by
 refine okB F eX (λds S Q h=>?_) (λf cdv A outer s H E I=>?_)
 ·obtain⟨ns,rfl,_⟩:=h;rfl
 ·refine⟨_,(W7 (Xd 1 eX.nd (Xu (Xh G I (W6 (Xh u I (W6 (W5 0) (W8 Xc))) Xa)))) (W7 (Xd 2 eX.nd (Xp (W6 (Xh v I (W6 (W5 1) (W8 Xc))) (W6 (Xh v I (W6 (W5 1) (W8 Xc))) (W6 (Xh v I (W6 (W5 1) (W8 Xc))) Xa))))) (W7 (Xd 3 eX.nd (Xh ab I (W6 (Xu (Xh G I (W6 (Xh u I (W6 (W5 0) (W8 Xc))) Xa))) (W6 (W5 2) (W8 Xc))))) (W7 (Xd 4 eX.nd (Xp (W8 (W5 3)))) (W7 (Xk (Xi (X6 I) (Xb (W5 3)) (Xg (W6 Xe (W8 Xe))) rfl) (W9 (Xd 4 eX.nd (Xf Xq (W5 4) (XW XX (XI M.wN T.list (W6 (Xb (W5 3)) Xa)) XZ (XJ Xc))))) Xl) (W7 (Xw PassesOwn.never rfl (XY (by rfl) T.range (W6 (Xf Xq Xc (Xo (M.P9 rfl) T.min (W6 Xc (W6 (Xo Xz T.len (W8 (W5 0))) Xa)))) Xa)) (Xn 5 eX.nd) (W7 (Xd 1 eX.nd (Xu (Xh G I (W6 (Xh u I (W6 (W5 0) (W6 (Xf Xq Xc (W5 5)) Xa))) Xa)))) (W7 (Xd 6 eX.nd (Xu (Xp Xa))) (W7 (Xv (Xh ai I (W6 (W5 1) (W6 (W5 3) (W8 (W5 6)))))) (M.frs (W7 (M.zA (Xh an I (W6 (W5 1) (W6 (W5 2) (W8 (W5 6))))) (Yd rfl (XA (Xn 7 eX.nd) (XA (Xn 8 eX.nd) (XA (Xn 9 eX.nd) Ye))))) (W7 (Xk (Xi (Xm I) (Xh W I (W6 (W5 1) (W8 Xc))) Xc (aF _)) (W9 (Xd 9 eX.nd (Xh ag I (W6 (W5 1) (W6 (W5 7) (W8 (W5 8))))))) Xl) (W7 (Xd 10 eX.nd (Xh ap I (W6 (W5 7) (W8 (W5 8))))) (W7 (Xd 11 eX.nd (Xo (M.zH I) T.repr (W6 (M.iS (W5 10) T.cl ar (I.mono (by decide))) Xa))) (W9 (Xw PassesOwn.never rfl (Xr (W5 4)) (Xn 12 eX.nd) (W9 (Xk (Yb (YD (M.uz (XU (Xh ae I (W6 (W5 10) (W6 (W5 7) (W6 (W5 9) (W8 (W5 12)))))))) (YE (Xi (M.G0 I) (Xo (M.zH I) T.repr (W6 (M.iS (W5 10) T.cl ar (I.mono (by decide))) Xa)) (W5 11) (aF _))))) (W9 (Xj XH)) Xl))))))))))))) (W9 (Xj (M.GN (Xx M.Li (Xh W I (W6 (W5 1) (W8 Xc))) Xc (aF _)) (M.m6 (Xh am I (W6 (W5 1) (W8 (W5 2)))))))))))))),λds S Q h=>?_⟩;obtain⟨ns,rfl,rfl,q⟩:=h;have e0:aJ JD [.ir ns]=[some (.ir ns),none,none,none,none,none,none,none,none,none,none,none,none]:=rfl;rw[e0];refine bB λN1 h1=>?_;push_cast[bF];refine⟨ns,0,rfl,by decide,λz=>⟨z,rfl,λo ho=>h1 _ _ ?_⟩⟩;refine bB λN1 h1=>?_;push_cast[gm];refine⟨0,0,5,o,rfl,rfl,ho,by decide,by decide,λka o1 l1 n1 ho1=>?_⟩;refine⟨0,0+12,3,o1,rfl,rfl,ho1,by decide,by decide,λwa o2 l2 n2 ho2=>?_⟩;refine⟨0,0+12+12,3,o2,rfl,rfl,ho2,by decide,by decide,λma o3 l3 n3 ho3=>⟨sz rfl,h1 _ _ ?_⟩⟩;obtain⟨N,hN⟩:∃N:JH,N.d=.lst [.lst (ka.map D.str),.lst (wa.map D.str),.lst (ma.map D.str)]:=⟨⟨ka,wa,ma,l1,l2,l3,n1,n2,n3⟩,rfl⟩
  show gE _ _ _ [some (.ir ns),some (.loc 0),some (.lst [.lst (ka.map D.str),.lst (wa.map D.str),.lst (ma.map D.str)]),none,none,none,none,none,none,none,none,none,none] [some o3];rw[<-hN];refine bB λN1 h1=>?_;push_cast[bF];refine⟨ns,1,rfl,by decide,λz=>⟨z,rfl,λo4 ho4=>?_⟩⟩;refine⟨1,0,N,o4,rfl,rfl,ho4,by decide,λp o5 hp hoc hdp ho5=>h1 _ _ ?_⟩;have hoc:oc p<=40:=hoc;refine bB λN1 h1=>?_;push_cast[gm];refine⟨sz rfl,h1 _ _ ?_⟩;refine OI (λδ U=>U=[some o3,some o5]/\∃ps:List Pt,δ=[some (.ir ns),some (.loc 0),some N.d,some (tD p),some (.lst (ps.map tD)),none,none,none,none,none,none,none,none]/\∀x∈ps,fB x/\oc x<=40/\dp x<=3) (λN1 h1=>?_) ?_
  ·have hin:∀{y:Str}{r:List D}{Q:Bool->aA->Prop}(_:tD p=.tup (.str y::r))(_:iu y=true),Q (false != u5 (.str y) ["then","either"]) [some o3,some o5]->aB (lT (qV false) (lT mH (cT 3) (aC (.int 0))) (iE (eL (aC (.str "then")) (eL (aC (.str "either")) b4)))) [some (.ir ns),some (.loc 0),some N.d,some (tD p),some (.lst [tD p]),none,none,none,none,none,none,none,none] [some o3,some o5] Q:=λ{y r Q} e hy q=>by
    rw[e];exact⟨_,rfl,_,e7,sz rfl,iY (n:=0) (ss:=["then","either"]) hy (by decide) (by rfl) ⟨_,rfl,q⟩⟩
   have hno:∀y:Str,y≠"then"->y≠"either"->(false != u5 (.str y) ["then","either"])=false:=λy h1 h2=>by simp[u5,Np,h1,h2]
   have one:=h1 _ _ ⟨rfl,[p],rfl,λx hx=>by simp_all⟩;have two:∀qs,(∀x∈qs,fB x/\oc x<=40/\dp x<=3)->(∃h:D,tD p=.tup [h,.tup (iA qs)])->qs.length<=50->yg (lT rQ (cT 4) (Vs yc (aCall vB (eL (lT mH (cT 3) (aC (.int 1))) b4)) oW (CJ (aC (.int 2))))) (bE 4) {nx:=N1,rt:=λr U=>XD [] U r Q} [some (.ir ns),some (.loc 0),some N.d,some (tD p),some (.lst [tD p]),none,none,none,none,none,none,none,none] [some o3,some o5]:=λqs hqs e hl=>by
    obtain⟨h,e⟩:=e;have key:N1 [some (.ir ns),some (.loc 0),some N.d,some (tD p),some (.lst ([tD p]++cutD (iA qs) none (some ((2:Nat):Int)))),none,none,none,none,none,none,none,none] [some o3,some o5]:=by
     rw[Cq,cF,<-zct];exact h1 _ _ ⟨rfl,p::qs.take 2,rfl,λx hx=>by
      obtain rfl|hx:=zcp.mp hx
      ·simp_all
      ·exact hqs x (zaF hx)⟩
    rw[e] at key⊢;refine⟨_,rfl,_,rfl,_,cS,_,rfl,2,rfl,?_,key⟩;show 1+(cutD (iA qs) none (some ((2:Nat):Int))).length<=_;rw[Cq,zbz,yaf];lia
   cases p with
   |lf l=>
    have nl:=Hv l;obtain⟨r,e⟩:=B3 (.lf l);exact eK (λQ q=>hin e (by cases l with|stay=>rfl|step=>rfl|mk b _=>exact G9 b) (by rw[show hdS (.lf l)=hdL l from rfl,hno _ nl.2.1 nl.2.2];exact q)) one
   |many x=>
    exact eK (λQ q=>hin rfl (by rfl) (by exact q)) one
   |seq qs=>
    refine ki (λQ q=>hin rfl (by rfl) (by exact q)) (two qs (λx hx=>⟨eE hp x hx,by have:=jA x hx;simp only[oc] at hoc;lia,by have:=dZ x hx;simp only[dp] at hdp;lia⟩) ⟨_,rfl⟩ (by have:=fW qs;simp only[oc] at hoc;lia))
   |alt qs=>
    refine ki (λQ q=>hin rfl (by rfl) (by exact q)) (two qs (λx hx=>⟨eE hp x hx,by have:=jA x hx;simp only[oc] at hoc;lia,by have:=dZ x hx;simp only[dp] at hdp;lia⟩) ⟨_,rfl⟩ (by have:=fW qs;simp only[oc] at hoc;lia))
  rintro _ _ ⟨rfl,ps,rfl,hps⟩;refine OI (λδ U=>∃(fl n:Nat)(o:MO)(v5 v6 v7 v8 v9 v10 Z O:Option D),δ=[some (.ir ns),some (.loc fl),some N.d,some (tD p),some (.lst (ps.map tD)),v5,v6,v7,v8,v9,v10,Z,O]/\U[fl]? =some (some o)/\Fd n o/\n<=5000) (λN1 h1=>?_) ?_
  ·push_cast[fP,n8];refine⟨ns.length,rfl,_,_,rfl,?_⟩;push_cast[true_and];refine⟨by split<;>lia,by split<;>lia,?_⟩;refine aW (λrest δ U=>∃(fl n k:Nat)(o:MO)(v6 v7 v8 v9 v10 Z O v5:Option D),δ=[some (.ir ns),some (.loc fl),some N.d,some (tD p),some (.lst (ps.map tD)),v5,v6,v7,v8,v9,v10,Z,O]/\U[fl]? =some (some o)/\Fd n o/\n<=5000/\∀d∈rest,∃k:Nat,d=.int k/\k<20) ?_ ?_ _ _ _ ⟨0,_,0,o3,none,none,none,none,none,none,none,none,rfl,rfl,ho3,by decide,λd hd=>?_⟩
   ·grind
   ·rintro d rest δ U N' ⟨fl,n,k,o,v6,v7,v8,v9,v10,Z,O,v5,rfl,hS,ho,hn,hd⟩ hN';obtain⟨j,rfl,hj⟩:=hd d (by simp);refine⟨trivial,?_⟩;refine bB λN2 h2=>?_;push_cast[bF];refine⟨ns,2+j,rfl,by lia,λz=>⟨z,rfl,λo1 ho1=>h2 _ _ ?_⟩⟩;refine bB λN2 h2=>?_;refine⟨zcT _,h2 _ _ ?_⟩;rw[zaR,zbj];have hm:=zcF (zP p 3 hdp) (zaG 27 hoc);refine bB λN2 h2=>?_;push_cast[true_and];have g1:(U++([some o1]++[some (MO.lst [])]))[U.length]? =some (some o1):=by simp
    have g2:(U++([some o1]++[some (MO.lst [])]))[U.length+1]? =some (some (MO.lst (([]:List Lf).map lD))):=by simp
    refine⟨U.length,U.length+1,0,p,o1,[],rfl,by lia,g1,g2,ho1,by lia,hp,hdp,by lia,by simp,by simp,λls o2 l9 hls ho2=>h2 _ _ ?_⟩;have g3:=WD (p:=U.length) (o:=o2) (c:=ls) (cM g2);have g4:=WE (q:=U.length+1) (o:=o2) (c:=ls) (cM g1) (by lia);generalize T2 (U++([some o1]++[some (MO.lst [])])) U.length (U.length+1) o2 ls=X0 at g3 g4;generalize U.length=L at g3 g4;refine⟨L+1,ls.map lD,g3,?_⟩;have s3:sb (L+1) (.lst (ls.map lD)) (tD p)=tD p:=by obtain⟨r,e⟩:=B3 p;rw[e];rfl
    have ed:[some (.ir ns),some (.loc L),some N.d,some (tD p),some (.lst (ps.map tD)),some (.int j),some (.loc (L+1)),v7,v8,v9,v10,Z,O].map (Option.map (sb (L+1) (.lst (ls.map lD))))=[some (.ir ns),some (.loc L),some N.d,some (tD p),some (.lst (ps.map tD)),some (.int j),some (.lst (ls.map lD)),v7.map (sb (L+1) (.lst (ls.map lD))),v8.map (sb (L+1) (.lst (ls.map lD))),v9.map (sb (L+1) (.lst (ls.map lD))),v10.map (sb (L+1) (.lst (ls.map lD))),Z.map (sb (L+1) (.lst (ls.map lD))),O.map (sb (L+1) (.lst (ls.map lD)))]:=by
     simp only[zcq,Option.map_some,s3];simp[sb,JH.d]
    rw[show L+[some o1].length=L+1 from rfl,ed];have g5:(X0.set (L+1) none)[L]? =some (some o2):=by simp_all
    generalize X0.set (L+1) none=X1 at g5;generalize v10.map (sb (L+1) (.lst (ls.map lD)))=u10;generalize Z.map (sb (L+1) (.lst (ls.map lD)))=u11;generalize O.map (sb (L+1) (.lst (ls.map lD)))=u12;refine bB λN2 h2=>?_;push_cast[true_and];refine⟨L,0+rJ p,N,o2,ls,rfl,g5,ho2,by lia,l9,hls,λks ts k ss o3 X2 ac ho3 hd2 htk=>?_⟩;refine⟨_,rfl,rfl,_,_,rfl,_,_,rfl,_,_,rfl,rfl,h2 _ _ ?_⟩;have hL:=cM g5;have g6:=by
     have:(X2.take X1.length)[L]? =some (some o3):=by rw[htk];exact aX g5
     rwa [zaS,yIp hL] at this
    have hLa:L≠X1.length:=by lia
    generalize X1.length=a at hd2 hLa;have hW:=ac.w;refine OI (λδ U=>∃(o:MO)(n:Nat)(k:Str)(ss:List Sp),δ=[some (.ir ns),some (.loc L),some N.d,some (tD p),some (.lst (ps.map tD)),some (.int j),some (.lst (ls.map lD)),some (.loc a),some (.lst (ts.map T3)),some (fT k ss),u10,u11,u12]/\U[L]? =some (some o)/\U[a]? =some (some (.dct (cD ks) (dN ks)))/\Fd n o/\n<=5000/\k∈nms ks/\(∀s∈ss,s.2.2∈nms ks/\Nm s.2.1)/\ss.length<=30) (λN2 h2=>?_) ?_
    ·push_cast[true_and];refine⟨L,0+rJ p+50,2,o3,rfl,g6,ho3,by lia,by decide,by decide,λz o4 hz ho4=>?_⟩;have g7:=aX (o':=some o4) g6;have g8:(X2.set L (some o4))[a]? =some (some (.dct (cD ks) (dN ks))):=by rw[zaB hLa];exact hd2
     push_cast[true_and];refine gg (λ_=>?_) (λ_=>h2 _ _ ⟨o4,_,k,ss,rfl,g7,g8,ho4,by lia,ac.wk,ac.ws,ac.w9⟩);refine⟨L,a,0+rJ p+50+1,o4,ks,ts,rfl,hLa,g7,g8,ho4,by lia,hW,ac.pos,λk2 ss2 o5 hk2 hs2 hl2 ho5=>h2 _ _ ⟨o5,_,k2,ss2,rfl,aX g7,by rw[zaB hLa];exact g8,ho5,by lia,hk2,hs2,by lia⟩⟩
    rintro _ X3 ⟨o4,n4,k,ss,rfl,g7,g8,ho4,hn4,hk,hss,ay⟩;refine bB λN2 h2=>?_;push_cast[true_and];refine⟨a,ks,ts,rfl,g8,hW,λX4 us hU hun X k'=>h2 _ _ ?_⟩;generalize X3.length=xw at X;have aw:∀{δ:bh}{Q:AK},δ[10]? =some (some (.loc xw))->Q (.dat (.str (py (sr ks us)).shown)) X4->aCall CH (eL (ye C "rows" (t6 C w) (cT 10) b4) b4) δ X4 Q:=λ{δ Q} e q=>by
     obtain⟨m,t,f,nn,Y⟩:=id X;exact⟨_,e,xw,_,_,rfl,Y.at_,by decide+kernel,xw,_,ks,us,rfl,X,hU.nd,hun,by have:=hU.t9;lia,λ_ _ _=>Pp hU.tq (by decide) (by decide) q⟩
    refine bB λN2 h2=>aw rfl (h2 _ _ ?_);refine⟨_,rfl,?_⟩;refine aW (λrest δ U=>∃(qs:List Pt)(O:Option D),rest=qs.map tD/\(∀x∈qs,x∈ps)/\U=X4/\δ=[some (.ir ns),some (.loc L),some N.d,some (tD p),some (.lst (ps.map tD)),some (.int j),some (.lst (ls.map lD)),some (.loc a),some (.lst (ts.map T3)),some (fT k ss),some (.loc xw),some (.str (py (sr ks us)).shown),O]) ?_ ?_ _ _ _ ⟨ps,u12,rfl,λ_ h=>h,rfl,rfl⟩
    ·rintro δ S'' ⟨qs,ax,I,hq,rfl,rfl⟩;exact⟨trivial,hN' _ _ ⟨L,n4,0,o4,_,_,_,_,_,_,_,_,rfl,(k' L (cM g7)).trans g7,ho4,hn4,λd h=>hd d (zaz _ h)⟩⟩
    ·rintro d' a0 δ S'' N3 ⟨qs,ax,I,hq,rfl,rfl⟩ hN3;cases qs with
     |nil=>simp at I
     |cons y qs=>
      obtain⟨rfl,rfl⟩:=I;have hy:=hps y (hq y (by simp));refine⟨trivial,?_⟩;refine eK (λQ q=>?_) (hN3 _ _ ⟨qs,_,rfl,λz hz=>hq z (zaz _ hz),rfl,rfl⟩);refine⟨_,rfl,_,rfl,_,rfl,_,rfl,xw,a,_,y,ks,us,k,ss,rfl,X,hU,(k' a (cM g8)).trans g8,⟨hk,λs hs=>⟨(hss s hs).1,(hss s hs).2.ok⟩⟩,λs hs=>(hss s hs).2,hy.1,by lia,ay,by lia,true,rfl,?_⟩;refine aw rfl ⟨_,rfl,false,?_,q⟩;show D.bl (!decide ((py (sr ks us)).shown=(py (sr ks us)).shown))=_;simp
   ·obtain⟨i,hi,rfl⟩:=zcD.mp hd;have:=zcj.mp hi;split at this<;>lia
  rintro _ S1 ⟨fl,n,o,v5,v6,v7,v8,v9,v10,Z,O,rfl,hS1,ho,hn⟩;push_cast[true_and];refine⟨fl,n,8,o,rfl,hS1,ho,by lia,by decide,by decide,λz o' hz ho'=>?_⟩;push_cast[true_and];refine gg (λ_=>su rfl q) (λ_=>⟨fl,n+1,N,o',rfl,aX hS1,ho',by lia,λo''=>su rfl q⟩)
def Ba(K:yaI):L2.Sp:=λvs H Q _=>∃(a:Addr)(ns:List Int),vs=[.ref a]/\dS K H a (ns.map V.int)/\ns.length<=63/\∀e,Q (.bl true) e
def Oo(h:eV P w K mg base oZ k f fd vE (av K Fl)):eV P w K mg base oZ k f fd vE (Ba K):=h.imp λvs H Q E z=>by
 let⟨a,ns,rfl,i,_,q⟩:=z;refine⟨⟨H,λ_=>none⟩,[.ir ns],[],λr S=>r=.dat (.bl true),⟨iF.refl _,λn o e=>by simp at e,λn m o s e=>by simp,λ_ _=>rfl⟩,⟨_,_,rfl,⟨a,rfl,i⟩,rfl⟩,⟨ns,rfl,rfl,rfl⟩,λr t v l j _ _ rep e=>?_⟩
 ·subst e;have:=mZ rep rfl;subst this;exact q j
end
open PySem L2
def all_mk{l:PySem.W.OpenLaw}(X:K.In h)(G:h.Ns yaq mg)(hfa:mg "law"=some (.ref fa))(a_C:zcO K yaq "Web"=some (some (.ref C)))(Z:jO K "holds" (top 4))(I:jO K "takes" (top 5))(a7:jO K "laid_out" (top 10))(cb:jO K "new_stands" (top 11))(cf:jO K "cut" (top 12))(c4:jO K "by_stand" (top 13))(a9:jO K "gone_without_steps" (top 14))(ba:jO K "gone_by_step" (top 15))(ab:jO K "goes_along" (top 16))(bb:jO K "fits" (top 18))(bd:jO K "_law_cell_at" (top 29))(bc:jO K "_law_feed" (top 30))(a2:jO K "_law_next" (top 31))(O:jO K "_law_names" (top 32))(U:jO K "_law_leaf" (top 33))(a1:jO K "_law_pattern" vZ)(a4:jO K "_law_made" wc)(cc:jO K "_law_laid" (top 36))(c2:jO K "_law_web" (top 37))(ax:jO K "_law_walk" (top 38))(a8:jO K "_law_cut" (top 39))(ch:jO K "_law_behind" (top 40))(c3:jO K "_law_fits" S8)(c5:jO K "_law_fits_anew" (top 42))(L:jO K "_law_right" (top 43))(Q:jO K "_law_longer" (top 44))(S:jO K "_law_long" (top 45))(cd:jO K "law" ze)(q:AL K C "__init__" "Web.__init__" we)(a0:AL K C "put_knot" "Web.put_knot" FZ)(ay:AL K C "put_tie" "Web.put_tie" FY)(Y:AL K C "knots" "Web.knots" zh)(ca:AL K C "marks" "Web.marks" Pe)(ce:AL K C "has_tie" "Web.has_tie" Pj)(E:AL K C "rows" "Web.rows" y9)(a3:AL K C "need_knot" "Web.need_knot" F4)(a6:AL K C "lay_knot" "Web.lay_knot" F5)(a5:AL K C "lay_tie" "Web.lay_tie" Bp)(j:zcO K yaq "isinstance"=some none)(cq:zcO K yaq "dict"=some none)(dc:zcO K yaq "int"=some none)(cr:zcO K yaq "bool"=some none)(db:zcO K yaq "len"=some none)(bo:zcO K yaq "tuple"=some none)(cp:zcO K yaq "list"=some none)(bp:zcO K yaq "range"=some none)(ac:zcO K yaq "sorted"=some none)(c7:zcO K yaq "set"=some none)(c6:zcO K yaq "zip"=some none)(cn:zcO K yaq "repr"=some none)(da:zcO K yaq "max"=some none)(c8:zcO K yaq "min"=some none)(b0:zcO K yaq "BEGIN"=some (some (.int 0 bt)))(dq:zcO K yaq "END"=some (some (.int 1 dd)))(am:zcO K yaq "LEAVES"=some (some (.ref d)))(an:K.lookup d=some ⟨.type "tuple",g,.seq k ai,r⟩)(q_LEAVES:(k.toList.map strOf==(["stay","step","at","off"]:List Str).map some)=true)(c0:zcO K yaq "STAY"=some (some (.ref z)))(c1:K.lookup z=some ⟨.type "tuple",bS,.seq W cx,bv⟩)(q_STAY:(W.toList.map strOf==(["stay"]:List Str).map some)=true)(dr:zcO K yaq "ANY"=some (some (.str "*" de)))(m_K:zcO K yaq "MOST_KNOTS"=some (some (.int 40 t_K)))(m_T:zcO K yaq "MOST_TIES"=some (some (.int 300 t_T)))(dV:zbO K C Str.empty=true)(d2:zbu K C=true)(dL:PySem.W.plainOver K C=true)(dE:zcl K (.ref C) "__setattr__"=some (some (.builtin "object.__setattr__")))(ae:zcl K (.ref C) "marked"=some none)(cv:zcl K (.ref C) "tied"=some none)(cw:zcl K (.ref C) "near"=some none)(d0:PySem.W.makesIn K C=true)(d1:zcm K (.ref C)=true):
  ∃fd:yap,(∀(s:yah)(v:yai),yaA s fd ⟨[v],[]⟩ [("_law_script",v)])/\∀base:Heap,K.In base->base.Ns yaq mg->eV l.prog w K mg base oZ 130 fa fd ["_law_script"] (Ba K):=by
 have Ez:=Z.src (ps:=jm) X G λ_ _ _ _ _ _=>J.EG (λ_ _=>rfl);have Er:=I.src (ps:=jh) X G λ_ _ _ _ _ _=>J.Iw (λ_ _ _=>rfl);have Jt:=a7.src (ps:=l7) X G λ_ _ _ _ _ _=>J.ND (λ_=>rfl);have Mx:=cb.src (ps:=nE) X G λ_ _ _ _ _ _=>J.ND (λ_=>rfl);have MA:=cf.src (ps:=q9) X G λ_ _ _ _ _ _=>J.EG (λ_ _=>rfl);have RE:=c4.src (ps:=yi) X G λ_ _ _ _ _ _=>J.EG (λ_ _=>rfl);have Jv:=a9.src (ps:=l8) X G λ_ _ _ _ _ _=>J.Iw (λ_ _ _=>rfl);have Jw:=ba.src (ps:=mj) X G λ_ _ _ _ _ _=>J.by4 (λ_ _ _ _=>rfl);have EA:=ab.src (ps:=jn) X G λ_ _ _ _ _ _=>J.UL (λ_ _ _ _ _=>rfl);have Jx:=bb.src (ps:=mq) X G λ_ _ _ _ _ _=>J.Iw (λ_ _ _=>rfl);have Jz:=bd.src (ps:=mD) X G λ_ _ _ _ _ _=>J.EG (λ_ _=>rfl);have Jy:=bc.src (ps:=mw) X G λ_ _ _ _ _ _=>J.ND (λ_=>rfl);have Jo:=a2.src (ps:=ck) X G λ_ _ _ _ _ _=>J.EG (λ_ _=>rfl);have Et:=O.src (ps:=ji) X G λ_ _ _ _ _ _=>J.EG (λ_ _=>rfl);have Ex:=U.src (ps:=fQ) X G λ_ _ _ _ _ _=>J.EG (λ_ _=>rfl);have Jm:=a1.src (ps:=ee) X G λ_ _ _ _ _ _=>J.Iw (λ_ _ _=>rfl);have Jq:=a4.src (ps:=ef) X G λ_ _ _ _ _ _=>J.Iw (λ_ _ _=>rfl);have My:=cc.src (ps:=qY) X G λ_ _ _ _ _ _=>J.Iw (λ_ _ _=>rfl);have RC:=c2.src (ps:=tL) X G λ_ _ _ _ _ _=>J.EG (λ_ _=>rfl);have Jj:=ax.src (ps:=lW) X G λ_ _ _ _ _ _=>J.Iw (λ_ _ _=>rfl);have Ju:=a8.src (ps:=jI) X G λ_ _ _ _ _ _=>J.UL (λ_ _ _ _ _=>rfl);have MB:=ch.src (ps:=nG) X G λ_ _ _ _ _ _=>J.UL (λ_ _ _ _ _=>rfl);have RD:=c3.src (ps:=fZ) X G λ_ _ _ _ _ _=>J.UL (λ_ _ _ _ _=>rfl);have RG:=c5.src (ps:=tM) X G λ_ _ _ _ _ _=>J.UL (λ_ _ _ _ _=>rfl);have Es:=L.src (ps:=gG) X G λ_ _ _ _ _ _=>J.by4 (λ_ _ _ _=>rfl);have Eu:=Q.src (ps:=jj) X G λ_ _ _ _ _ _=>J.Iw (λ_ _ _=>rfl);have Ew:=S.src (ps:=jk) X G λ_ _ _ _ _ _=>J.EG (λ_ _=>rfl);have U5:=q.src (ps:=jJ) λ_ _ _ _ _ _=>J.ND (λ_=>rfl);have Jl:=a0.src (ps:=lY) λ_ _ _ _ _ _=>J.Iw (λ_ _ _=>rfl);have Jk:=ay.src (ps:=lX) λ_ _ _ _ _ _=>J.by4 (λ_ _ _ _=>rfl);have Ey:=Y.src (ps:=jl) λ_ _ _ _ _ _=>J.ND (λ_=>rfl);have Mw:=ca.src (ps:=nD) λ_ _ _ _ _ _=>J.EG (λ_ _=>rfl);have Mz:=ce.src (ps:=qZ) λ_ _ _ _ _ _=>J.by4 (λ_ _ _ _=>rfl);have Ep:=E.src (ps:=jg) λ_ _ _ _ _ _=>J.ND (λ_=>rfl);have Jp:=a3.src (ps:=jH) λ_ _ _ _ _ _=>J.EG (λ_ _=>rfl);have Js:=a6.src (ps:=l6) λ_ _ _ _ _ _=>J.Iw (λ_ _ _=>rfl);have Jr:=a5.src (ps:=lZ) λ_ _ _ _ _ _=>J.by4 (λ_ _ _ _=>rfl);let⟨d3,dC,dA,ap,be,ag,bm,bj,bi,dy,cm,b1,ci,b3⟩:=cd.ex;let⟨aw,dn,dl,ds,dt,dk,dx,dv,du,df,bn,m,t,n,ar⟩:=q.ex;have e:=hfa.symm.trans (zcy X G cm);cases e;have F:=kg (st:=ze) b1 ci b3;have T:Txt K mg C aw:=⟨zbd X G j,zbd X G cq,zbd X G dc,zbd X G cr,zbd X G db,zbd X G bo,zbd X G cp,zbd X G bp,zbd X G ac,zbd X G c7,zbd X G c6,zbd X G cn,zbd X G da,zbd X G c8,⟨_,zcy X G b0⟩,⟨_,zcy X G dq⟩,⟨_,zcy X G am,λH=>E8 an q_LEAVES (by decide) H⟩,⟨_,zcy X G dr⟩,⟨_,zcy X G m_K⟩,⟨_,zcy X G m_T⟩,zcy X G a_C,⟨dV,d2,dL,dE⟩,⟨d0,bn,ar,d1⟩,ae,cv,cw,⟨_,zcy X G c0,λH=>E8 c1 q_STAY (by decide) H⟩⟩
 refine⟨zcN "law" "law" (cK ze) (bH ze) (aj ze) .none ap be ag bm bj bi,λs v=>.of_eq rfl,λbase _ _=>?_⟩;have Oa:=Uz (P:=l.prog) (w:=w) (base:=base) T Mx;have ig:=QO (P:=l.prog) (w:=w) (base:=base) T Jo;have JM:=L4 T Ex ig;have JL:=QS (P:=l.prog) (w:=w) (base:=base) T Jp;have Va:=UC (P:=l.prog) (w:=w) (base:=base) T Mz;have RM:=QZ (P:=l.prog) (w:=w) (base:=base) T (kg (st:=we) m t n);have RP:=(kg (st:=we) m t n).binds (ps:=jJ) λ_ _ _ _ _ _=>J.ND (λ_=>rfl);have RN:=Q0 (P:=l.prog) (w:=w) (base:=base) T Jv (L6 T Ez);have RO:=Q3 (P:=l.prog) (w:=w) (base:=base) T Jw (LY T Er);have N8:=Uy T Mw JL;have AV:=Q4 T Jx (QX T Jt Oa (UD T MA Oa)) (Ws T RE) (L7 T EA RN RO N8);have C5:=LZ T Es (UB T RD RG Ju MB 40 (by lia)) AV;have N9:=Wo T RC RM RP (QM T Jl (QV T Js)) (QL T Jk JL Va (QU T Jr));exact Oo (QW T F (Q6 T Jz) (Q5 T Jy) ig (L0 T Et ig) (QN T Jm ig JM 3 (by lia)) (QT T Jq ig 3 (by lia)) (UA T My ig) (QK T Jj ig) N9 (LX T Ep (L5 T Ey) N8) C5 (L3 T Ew ig JM (L1 T Eu ig) N9 C5))
def walk{l:PySem.W.OpenLaw}{K:Params->yaI}(j:l.most=some 63)(e:d.params.defaults=[])(o:∀(w:yak)(h:Heap),YP w h->(K w.params).In h)(F:∀(w:yak)(mg:Str->Option yai)(i:Addr)(h:Heap),(K w.params).In h->h.Ns yaq mg->mg d.name=some (.ref i)->∃fd:yap,(∀(s:yah)(u:yai),yaA s fd ⟨[u],[]⟩ [("_law_script",u)])/\∀base:Heap,(K w.params).In base->base.Ns yaq mg->eV l.prog w (K w.params) mg base oZ 130 i fd ["_law_script"] (Ba (K w.params))):
  PySem.W.WalkO q loose XP YP l.row.toRowW d [] (λf vs=>PySem.call f vs):=
 L2.J0 (n:=63) (k:=130) (x:="_law_script") (CX:=λ_=>oZ) (sp:=λw=>Ba (K w.params)) j (by decide) e ⟨rfl,by decide,by decide,rfl⟩ o F (λ_ _ a ns m _ t=>⟨a,ns,rfl,t,m,λ_=>rfl⟩) λ_ _ _ _ _ z=>z
end K09
open PySem PySem.W PyProof.Rows
namespace PySem.Challenge.cw_pathask_k09_whole_ways_that_fit_holds
def tw12810034091222803602:=Nat
def tw7019017391489438619:=Nat
def tw15687458973146811391:=Nat
def tw15760605916458248923:=Nat
def tw13645691956823304258:=Nat
def tw14581284068008167858:=Nat
def tw6981508662769718965:=Nat
def tw9897610243938795186:=Nat
def tw15333217038311821168:=Nat
def tw10804208021549231488:=Nat
def tw16445036929217585350:=Nat
def tw5523194754178795608:=Nat
def tw3330568693824742174:=Nat
def tw14828043455856086356:=Nat
def tw5391283858930740331:=Nat
def tw17030404063282269843:=Nat
def tw16080499996151795215:=Nat
def tw5162837450436258027:=Nat
def tw17735491556383176089:=Nat
def tw8024158930221206306:=Nat
def tw3002809245037630194:=Nat
def tw1671342272862952206:=Nat
def tw13441874470810505032:=Nat
def tw3835291421305389689:=Nat
def tw13756352410098357201:=Nat
def tw16555212725108903055:=Nat
def tw16504534109560929735:=Nat
def tw1277702061258487459:=Nat
def tw13792208116701399331:=Nat
def tw1586057554687029533:=Nat
def tw2082776315223102876:=Nat
def tw11070935170934273863:=Nat
def tw14953612597619269829:=Nat
def tw5283176424020391888:=Nat
def tw13977977353822097908:=Nat
def tw18034407883946871913:=Nat
def tw17540942807048256895:=Nat
def tw10276551610053100121:=Nat
def tw18287890084009869054:=Nat
def tw3778166914611303677:=Nat
def tw15180501783299864408:=Nat
def tw10316412612365300517:=Nat
def tw4723091215744269531:=Nat
def tw15502827452067694533:=Nat
def tw5104134876968760169:=Nat
def tw2993555099938933184:=Nat
def tw17195514410366218894:=Nat
def tw14111969882557224968:=Nat
def tw9403688314588988178:=Nat
def tw15006307544844054331:=Nat
def tw12205103914982671069:=Nat
def tw16403258487947241157:=Nat
def tw17190488787861972205:=Nat
def tw13347166776316283938:=Nat
def tw211975818033135098:=Nat
def tw9381178262914122623:=Nat
def tw1916132826601290957:=Nat
def tw8095802664847418075:=Nat
def tw10137279538849250991:=Nat
def tw10773411499857915714:=Nat
def tw3874142802095023183:=Nat
def tw2553552174101179737:=Nat
def tw8732706222750084571:=Nat
def tw5857274808400810658:=Nat
def tw4403178976138620754:=Nat
def tw17605153603501477172:=Nat
def tw8545184315898378143:=Nat
def tw4459200053930817492:=Nat
def tw15814278729880593140:=Nat
def tw6781474575242655453:=Nat
def tw10856974679866330366:=Nat
def tw12216498384509321328:=Nat
def tw15310318021101992467:=Nat
def tw13997238301520282198:=Nat
def tw6242095039886198111:=Nat
def tw14298435105314185919:=Nat
def tw435991611865716500:=Nat
def tw2261513307578065463:=Nat
def tw14942381931771621677:=Nat
def tw13107720334253544849:=Nat
def tw390271256567530380:=Nat
def tw18384122994878865111:=Nat
def tw8807500249219045735:=Nat
def tw6678002069238902256:=Nat
def tw12446610402262988606:=Nat
def tw7101663612883863717:=Nat
def tw6017473640682962030:=Nat
def tw5309082800204522145:=Nat
def tw10650581516062115047:=Nat
def tw18028752625807309581:=Nat
def tw14991884012869121180:=Nat
def tw12597154329657214157:=Nat
def tw8629613878545859856:=Nat
def tw7211019710153530415:=Nat
def tw7395260667030814599:=Nat
def tw17086526982887851319:=Nat
def tw6875483887017838347:=Nat
def tw11086021398387961834:=Nat
def tw12740806456066800343:=Nat
def tw14619710785350742110:=Nat
def tw7879068339846975158:=Nat
def tw718259795848253605:=Nat
def tw2413236311582625976:=Nat
def tw6600127897770064152:=Nat
def tw15477471386666809117:=Nat
def tw4337112041686050280:=Nat
def tw8122891703707193899:=Nat
def tw14293807081498157632:=Nat
def tw13907786428515418037:=Nat
def tw16654424909878045143:=Nat
def tw8923978367174032660:=Nat
def tw12958246337441005384:=Nat
def tw3021165615387641994:=Nat
def tw7358699775279326991:=Nat
def tw1297982942757007525:=Nat
def tw3309287090987595888:=Nat
def tw14031435493524710774:=Nat
def tw15592339685735204074:=Nat
def tw16378454715720887013:=Nat
def tw15098038813737744595:=Nat
def tw9053970534373273904:=Nat
def tw13768067460113192482:=Nat
def tw15603580759591550174:=Nat
def tw13020387817643153354:=Nat
def tw17624456947539725314:=Nat
def tw1166329713304850213:=Nat
def tw14820874497014106480:=Nat
def tw10130335183666762636:=Nat
def tw5819051821052441347:=Nat
def tw4035086748067898572:=Nat
def tw12183176631881704314:=Nat
def tw3270441886230126727:=Nat
def tw1038089052511026724:=Nat
def tw18386241825571535224:=Nat
def tw13175896423862267393:=Nat
def tw8499143106263924592:=Nat
def tw1767250166315097695:=Nat
def tw14410519552130376643:=Nat
def tw15763644824350715405:=Nat
def tw4934469088822262588:=Nat
def tw14525910272621953870:=Nat
def tw3925225374748877272:=Nat
def tw7384276352088676868:=Nat
def tw14178628734720518819:=Nat
def tw12266704592088251745:=Nat
def tw3773178767285541439:=Nat
def tw1555892418273569111:=Nat
def tw9264697350506718685:=Nat
def tw10368061891125277017:=Nat
def tw9694899875272096407:=Nat
def tw8627785699235031404:=Nat
def tw11011744923333471162:=Nat
def tw2934291728533450905:=Nat
def tw11184208603434909553:=Nat
def tw1887204228752625888:=Nat
def tw10805917388650349674:=Nat
def tw10799830905289824236:=Nat
def tw9611315744202514497:=Nat
def tw2298027971216464713:=Nat
def tw11484576214971389908:=Nat
def tw14614350049387538311:=Nat
def tw5255706428848761957:=Nat
def tw5073409931694137827:=Nat
def tw3579667641488983995:=Nat
def tw7231171451535724297:=Nat
def tw6580100684610507980:=Nat
def tw4281141193129084027:=Nat
def tw12214184469623066239:=Nat
def tw10442487208972554870:=Nat
def tw13459764726015594929:=Nat
def tw8612511330537222989:=Nat
def tw18005152733237050272:=Nat
def tw11448681581550039404:=Nat
def tw8374846852731214110:=Nat
def tw13218923908613085586:=Nat
def tw16800064281774212905:=Nat
def tw3607519623853262391:=Nat
def tw304843913774982487:=Nat
def tw18170853414995041356:=Nat
def tw5544386156072949856:=Nat
def tw3367772965433224658:=Nat
def tw15047515964904408884:=Nat
def tw15083570322371112194:=Nat
def tw13412100016390960230:=Nat
def tw6009293608615107597:=Nat
def tw13467584184800017994:=Nat
def tw11641922134907296578:=Nat
def tw4534535747854390920:=Nat
def tw8677428009422995419:=Nat
def tw1354603073720350590:=Nat
def tw708383673054704198:=Nat
def tw15670669923140319970:=Nat
def tw3053384623353820529:=Nat
def tw3393112419406206269:=Nat
def tw16636732708446575725:=Nat
def tw16379163158174649617:=Nat
def tw2551665185386090429:=Nat
def tw2591341952062456993:=Nat
def tw15389962890382343405:=Nat
def tw6590457089644132962:=Nat
def tw14666626439203992732:=Nat
def tw6309659862240485659:=Nat
def tw16326512723942482521:=Nat
def tw7196753556634785532:=Nat
def tw9535413625503921550:=Nat
def tw13374412149261176006:=Nat
def tw17222359684123692000:=Nat
def tw1338754349316444855:=Nat
def tw2504376008331283833:=Nat
def tw7417507029313301343:=Nat
def tw10296324609240971548:=Nat
def tw16383824594750586755:=Nat
def tw5956284955123470529:=Nat
def tw14000168091033552951:=Nat
def tw4995721850796791171:=Nat
def tw3575348568048416124:=Nat
def tw3165327562963365229:=Nat
def tw6314857162453668036:=Nat
def tw10514428550930096542:=Nat
def tw5067654561080672122:=Nat
def tw7057749197366394249:=Nat
def tw13015129720183482425:=Nat
def tw18435110664494579217:=Nat
def tw11390553985495556789:=Nat
def tw6099190359781132874:=Nat
def tw4405510961387215758:=Nat
def tw7496690606754558870:=Nat
def tw16450654669445006593:=Nat
def tw3538313326943964804:=Nat
def tw5560472063037561455:=Nat
def tw9141982844273836099:=Nat
def tw5060189342694154906:=Nat
def tw13778167482909233905:=Nat
def tw7778572100411707090:=Nat
def tw13724666288161520839:=Nat
def tw12564191188585805957:=Nat
def tw9376765271081788710:=Nat
def tw17454282144610917597:=Nat
def tw6580108178353589003:=Nat
def tw17761785268519933927:=Nat
def tw10055036435770614248:=Nat
def tw4374352956871545666:=Nat
def tw3050139786243832203:=Nat
def tw4476366418760814264:=Nat
def tw9446710929756448359:=Nat
def tw7849292336590265546:=Nat
def tw17061232052370725432:=Nat
def tw5421715722576565257:=Nat
def tw17901799054557491166:=Nat
def tw9905008233731325410:=Nat
def tw13104165699631397423:=Nat
def tw2050110331443543008:=Nat
def tw1928948882876783185:=Nat
def tw1412915392656437998:=Nat
def tw8273869481039393119:=Nat
def tw17697030138461860027:=Nat
def tw1844418323383767386:=Nat
def tw10404022202182318464:=Nat
def tw14248499753027960980:=Nat
def tw15654717971316584387:=Nat
def tw13449767043847743198:=Nat
def tw16840176300397527277:=Nat
def tw17764101770306150830:=Nat
def tw11879985158139451394:=Nat
def tw10802641894630086115:=Nat
def tw15065566077698301370:=Nat
def tw5779563058190955452:=Nat
def tw8842348224831440392:=Nat
def tw8501175834978147288:=Nat
def tw4314102058313363929:=Nat
def tw3335895986612055280:=Nat
def tw3364452600717496587:=Nat
def tw9603546765769134552:=Nat
def tw10837855228894508989:=Nat
def tw9157326725576347629:=Nat
def tw16026962252499365176:=Nat
def tw1247247330235004174:=Nat
def tw11354364494383342074:=Nat
def tw5503460560219672874:=Nat
def tw14720608308878633084:=Nat
def tw17357075460019688294:=Nat
def tw17483452594590651655:=Nat
def tw873230837824190695:=Nat
def tw16840253851648342751:=Nat
def tw5463900382206107786:=Nat
def tw12315104629153759967:=Nat
end PySem.Challenge.cw_pathask_k09_whole_ways_that_fit_holds
set_option Elab.async true in
set_option maxRecDepth 100000 in
set_option maxHeartbeats 0 in
theorem PySem.Challenge.cw_pathask_k09_whole_ways_that_fit_holds : PySem.Challenge.rw_pathask_k09_whole_ways_that_fit.Holds := by
 w_on;o_law;k_head;(case hw=>w_witness2)
 k_fill
 refine K09.walk (l:=PySem.Challenge.rw_pathask_k09_whole_ways_that_fit) rfl rfl (λw h Y=>PySem.W.kIn_of Y) ?F
 case F =>
  intro w mg fa h KX G hmg
  refine' K09.all_mk KX G hmg ?_ ?_ ?_ ?_ ?_ ?_ ?_ ?_ ?_ ?_ ?_ ?_ ?_ ?_ ?_ ?_ ?_ ?_ ?_ ?_ ?_ ?_ ?_ ?_ ?_ ?_ ?_ ?_ ?_ ?_ ?_ ?_ ?_ ?_ ?_ ?_ ?_ ?_ ?_ ?_ ?_ ?_ ?_ ?_ ?_ ?_ ?_ ?_ ?_ ?_ ?_ ?_ ?_ ?_ ?_ ?_ ?_ ?q_LEAVES ?_ ?_ ?q_STAY ?_ ?_ ?_ ?_ ?_ ?_ ?_ ?_ ?_ ?_ ?_ ?_
  (case q_LEAVES=>kernel_rfl)
  (case q_STAY=>kernel_rfl)
  all_goals try first | (refine' L2.jO.of ?a ?l ?c ?k;(case a=>k_is);(case l=>k_is);(case c=>k_is);(case k=>k_is)) | (refine' L2.AL.of ?a ?l ?c ?k ?i;(case a=>k_is);(case l=>k_is);(case c=>k_is);(case k=>k_is);(case i=>k_is)) | k_is
