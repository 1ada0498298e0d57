import PyProof.Rows.All
import Wide.All
import OpenK.AllK
import Wide.FinOn
import Lean
import KE.KRevSl
import PyProof.ZipIter
import PyProof.TupleIter
import KE.KItemsList
import PyProof.ListRange
import PyProof.Rows.SortRuns
import PyProof.WalksEnum
import PyProof.EnumMake
import PySem.Challenge.RW_pathask_k36_who_is_reached
set_option compiler.extract_closed false
set_option genSizeOf false
def q0(h:0=0:=by rfl)(j:0=0:=by decide):True:=⟨⟩
def r0:=q0._auto_1
def r1:=q0._auto_3
open List renaming eq_nil_of_length_eq_zero->zaa,mem_zipIdx_iff_getElem? -> zab,getElem?_append_right->zac,perm_ext_iff_of_nodup->zad,getElem?_eq_some_iff->zaf,getElem?_append_left->zag,getElem?_zip_eq_some->zah,drop_eq_getElem_cons->zai,pairwise_iff_getElem->zaj,getElem?_eq_getElem->zam,length_erase_of_mem->zan,getElem?_cons_zero->zao,eraseIdx_cons_succ->zap,getElem?_cons_succ->zaq,length_pos_of_mem->zar,mem_append_right->zax,length_filter_le->zay,set_append_right->zaz,mem_cons_of_mem->zaC,mem_append_left->zaD,getElem?_set_ne->zaE,mem_of_getElem? -> zaF,pairwise_append->zaG,getElem_of_mem->zaI,map_congr_left->zaJ,filter_eq_self->zaK,filter_sublist->zaL,length_append->zaP,mem_cons_self->zaQ,zip_cons_cons->zaR,mem_singleton->zaS,pairwise_cons->zaT,size_toArray->zba,getElem?_map->zbb,getElem?_set->zbc,append_assoc->zbd,length_range->zbe,ext_getElem? -> zbf,pairwise_map->zbg,nodup_append->zbh,length_take->zbq,filter_cons->zbr,lookup_cons->zbs,all_eq_true->zbt,take_length->zbu,getElem_mem->zbv,not_mem_nil->zbw,cons_append->zbx,length_cons->zby,ext_getElem->zbz,nodup_range->zbA,mem_filter->zbD,mem_append->zbE,length_map->zbF,append_nil->zbG,nodup_cons->zbH,of_mem_zip->zbI,foldl_cons->zbJ,map_append->zbK,length_set->zbL,nil_append->zbM,range_succ->zbN,find?_cons->zbO,mem_range->zbV,replicate->zbW,mem_cons->zcd,any_cons->zce,map_cons->zcf,all_cons->zcg,any_map->zcl,mem_map->zcm,map_map->zcn,length->zcz,range->zcE,set->zcG
open Array renaming getElem?_eq_some_iff->zae,getElem?_eq_getElem->zak,getElem?_eq_none->zas,getElem?_toList->zaA,length_toList->zaN,forIn_toList->zaX,toList_push->zbl
open PySem.Calls renaming call_function_entry->zal,callWith_builtin->zaw,evalArgs_plain->zaH,spliced_cons->zaZ,spliced_nil->zbp
open Option renaming map_eq_some_iff->zat,some->zcD
open PySem.Heap renaming get?_push_of_some->zau,get?_update_other->zav,get?_update_self->zaB,get?_push_size->zaO,size_push->zcc,lt_size->zcy
open Nat renaming add_left_cancel->zaM,lt_of_lt_of_le->zaU,lt_of_le_of_lt->zaV,lt_succ_of_lt->zbi,le_of_lt_succ->zbj,not_lt_zero->zbP,mul_le_mul->zbX,lt_irrefl->zch,ne_of_lt->zco,le_trans->zcp,le_of_lt->zcq,ne_of_gt->zcr,lt_trans->zcs,lt_or_ge->zct,sub_self->zcu,le_refl->zcA,zero_le->zcB,le_succ->zcC,mod_lt->zcF
open Bool renaming false_ne_true->zaW,and_eq_true->zbB,eq_iff_iff->zbQ,or_eq_true->zbR,false_bne->zbY,and_self->zci,and_true->zcj
open PySem.W renaming mg_none_of->zaY,hasDictIn->zbm,plainOver->zbn,emptyDict->zbo,plainGet->zbC,instObj->zbS,makesIn->zbT,kia_one->zbU,findIn->zbZ,keepIn->zca,codeIn->zcb,mg_of->zck,isFn->zcv,fnOf->zcw,nsIn->zcx
open Int renaming toNat_natCast->zbk
open PySem renaming wpAny_bind->yaa,wpAny_pure->yab,wpAny_mono->yac,wpAny_holding->yad,wpAny_newObj_type->yae,sizeLine_eq->yaf,sizeLine->yag,Shared->yah,Value->yai,Program->yaj,World->yak,Around->yal,PyData->yam,compareOp->yan,starEach->yao,FuncData->yap,mainGlobals->yaq,wpAny->yar,sysModules->yas,swapsWith->yat,backTo->yau,DictEntry->yav,GenState->yaw,codeAny_mono->yax,wpAny_standAt->yay,callWith->yaz,bindArgs->yaA,BindsTo->yaB,wpAny_onRaise->yaC,getMethod->yaD,keywordEach->yaE,backToKw->yaF,wpAny_execs_nil->yaG,wpAny_execs_cons->yaH,wpAny_call->yaI
open PySem.W renaming Frag->yaJ
def yDf{p:Prop}[Decidable p](h:¬p):decide p=false:=decide_eq_false h
def yDt{p:Prop}[Decidable p](h:p):decide p=true:=decide_eq_true h
theorem yIn.{u}{h:Decidable c} (n:¬c) {α:Sort u}{t e:α}:(ite c t e)=e:=if_neg n
theorem yIp.{u}{h:Decidable c} (n:c) {α:Sort u}{t e:α}:(ite c t e)=t:=if_pos n
def ySz(n)(h:autoParam (n<=100) r1):n<=PySem.sizeLine:=by rw[PySem.sizeLine_eq];lia
set_option Elab.async false
set_option linter.all false
set_option autoImplicit true
set_option relaxedAutoImplicit true
set_option maxRecDepth 100000
def x0_1{p q:Prop}{C:Prop}(k:p->q->C):(p/\q)->C:=λn=>k n.1 n.2
def x0_2{p q r:Prop}{C:Prop}(k:p->q->r->C):(p/\q/\r)->C:=λn=>k n.1 n.2.1 n.2.2
def x0_3{p q r s:Prop}{C:Prop}(k:p->q->r->s->C):(p/\q/\r/\s)->C:=λn=>k n.1 n.2.1 n.2.2.1 n.2.2.2
def x0_4{p q r s t:Prop}{C:Prop}(k:p->q->r->s->t->C):(p/\q/\r/\s/\t)->C:=λn=>k n.1 n.2.1 n.2.2.1 n.2.2.2.1 n.2.2.2.2
def x0_5{p q r s t u:Prop}{C:Prop}(k:p->q->r->s->t->u->C):(p/\q/\r/\s/\t/\u)->C:=λn=>k n.1 n.2.1 n.2.2.1 n.2.2.2.1 n.2.2.2.2.1 n.2.2.2.2.2
def x0_6{p q r s t u v:Prop}{C:Prop}(k:p->q->r->s->t->u->v->C):(p/\q/\r/\s/\t/\u/\v)->C:=λn=>k n.1 n.2.1 n.2.2.1 n.2.2.2.1 n.2.2.2.2.1 n.2.2.2.2.2.1 n.2.2.2.2.2.2
def x1_0{A:Type}{p:A->Prop}{C:Prop}(k:∀a,p a->C):(∃a,p a)->C:=λn=>n.elim k
def x1_1{A:Type}{p q:A->Prop}{C:Prop}(k:∀a,p a->q a->C):(∃a,p a/\q a)->C:=λn=>n.elim λn=>x0_1 (k n)
def x1_2{A:Type}{p q r:A->Prop}{C:Prop}(k:∀a,p a->q a->r a->C):(∃a,p a/\q a/\r a)->C:=λn=>n.elim λn=>x0_2 (k n)
def x1_3{A:Type}{p q r s:A->Prop}{C:Prop}(k:∀a,p a->q a->r a->s a->C):(∃a,p a/\q a/\r a/\s a)->C:=λn=>n.elim λn=>x0_3 (k n)
def x1_4{A:Type}{p q r s t:A->Prop}{C:Prop}(k:∀a,p a->q a->r a->s a->t a->C):(∃a,p a/\q a/\r a/\s a/\t a)->C:=λn=>n.elim λn=>x0_4 (k n)
def x1_5{A:Type}{p q r s t u:A->Prop}{C:Prop}(k:∀a,p a->q a->r a->s a->t a->u a->C):(∃a,p a/\q a/\r a/\s a/\t a/\u a)->C:=λn=>n.elim λn=>x0_5 (k n)
def x2_0{A B:Type}{p:A->B->Prop}{C:Prop}(k:∀a b,p a b->C):(∃a b,p a b)->C:=λn=>n.elim λn=>x1_0 (k n)
def x2_1{A B:Type}{p q:A->B->Prop}{C:Prop}(k:∀a b,p a b->q a b->C):(∃a b,p a b/\q a b)->C:=λn=>n.elim λn=>x1_1 (k n)
def x2_2{A B:Type}{p q r:A->B->Prop}{C:Prop}(k:∀a b,p a b->q a b->r a b->C):(∃a b,p a b/\q a b/\r a b)->C:=λn=>n.elim λn=>x1_2 (k n)
def x2_3{A B:Type}{p q r s:A->B->Prop}{C:Prop}(k:∀a b,p a b->q a b->r a b->s a b->C):(∃a b,p a b/\q a b/\r a b/\s a b)->C:=λn=>n.elim λn=>x1_3 (k n)
def x2_4{A B:Type}{p q r s t:A->B->Prop}{C:Prop}(k:∀a b,p a b->q a b->r a b->s a b->t a b->C):(∃a b,p a b/\q a b/\r a b/\s a b/\t a b)->C:=λn=>n.elim λn=>x1_4 (k n)
def x3_0{A B D:Type}{p:A->B->D->Prop}{C:Prop}(k:∀a b c,p a b c->C):(∃a b c,p a b c)->C:=λn=>n.elim λn=>x2_0 (k n)
def x3_1{A B D:Type}{p q:A->B->D->Prop}{C:Prop}(k:∀a b c,p a b c->q a b c->C):(∃a b c,p a b c/\q a b c)->C:=λn=>n.elim λn=>x2_1 (k n)
def x3_2{A B D:Type}{p q r:A->B->D->Prop}{C:Prop}(k:∀a b c,p a b c->q a b c->r a b c->C):(∃a b c,p a b c/\q a b c/\r a b c)->C:=λn=>n.elim λn=>x2_2 (k n)
def x3_3{A B D:Type}{p q r s:A->B->D->Prop}{C:Prop}(k:∀a b c,p a b c->q a b c->r a b c->s a b c->C):(∃a b c,p a b c/\q a b c/\r a b c/\s a b c)->C:=λn=>n.elim λn=>x2_3 (k n)
def x4_0{A B D E:Type}{p:A->B->D->E->Prop}{C:Prop}(k:∀a b c d,p a b c d->C):(∃a b c d,p a b c d)->C:=λn=>n.elim λn=>x3_0 (k n)
def x4_1{A B D E:Type}{p q:A->B->D->E->Prop}{C:Prop}(k:∀a b c d,p a b c d->q a b c d->C):(∃a b c d,p a b c d/\q a b c d)->C:=λn=>n.elim λn=>x3_1 (k n)
def x4_2{A B D E:Type}{p q r:A->B->D->E->Prop}{C:Prop}(k:∀a b c d,p a b c d->q a b c d->r a b c d->C):(∃a b c d,p a b c d/\q a b c d/\r a b c d)->C:=λn=>n.elim λn=>x3_2 (k n)
def x5_0{A B D E F:Type}{p:A->B->D->E->F->Prop}{C:Prop}(k:∀a b c d e,p a b c d e->C):(∃a b c d e,p a b c d e)->C:=λn=>n.elim λn=>x4_0 (k n)
def x5_1{A B D E F:Type}{p q:A->B->D->E->F->Prop}{C:Prop}(k:∀a b c d e,p a b c d e->q a b c d e->C):(∃a b c d e,p a b c d e/\q a b c d e)->C:=λn=>n.elim λn=>x4_1 (k n)
def x6_0{A B D E F G:Type}{p:A->B->D->E->F->G->Prop}{C:Prop}(k:∀a b c d e f,p a b c d e f->C):(∃a b c d e f,p a b c d e f)->C:=λn=>n.elim λn=>x5_0 (k n)
def xe2{A B:Type}{p:A->B->Prop}(a b)(k:p a b):∃a b,p a b:=⟨a,b,k⟩
def xe3{A B D:Type}{p:A->B->D->Prop}(a b c)(k:p a b c):∃a b c,p a b c:=⟨a,b,c,k⟩
def xe4{A B D E:Type}{p:A->B->D->E->Prop}(a b c d)(k:p a b c d):∃a b c d,p a b c d:=⟨a,b,c,d,k⟩
def xe5{A B D E F:Type}{p:A->B->D->E->F->Prop}(a b c d e)(k:p a b c d e):∃a b c d e,p a b c d e:=⟨a,b,c,d,e,k⟩
def xe6{A B D E F G:Type}{p:A->B->D->E->F->G->Prop}(a b c d e f)(k:p a b c d e f):∃a b c d e f,p a b c d e f:=⟨a,b,c,d,e,f,k⟩
def xe7{A B D E F G H:Type}{p:A->B->D->E->F->G->H->Prop}(a b c d e f g)(k:p a b c d e f g):∃a b c d e f g,p a b c d e f g:=⟨a,b,c,d,e,f,g,k⟩
def xe8{A B D E F G H I:Type}{p:A->B->D->E->F->G->H->I->Prop}(a b c d e f g h)(k:p a b c d e f g h):∃a b c d e f g h,p a b c d e f g h:=⟨a,b,c,d,e,f,g,h,k⟩
def xe9{A B D E F G H I J:Type}{p:A->B->D->E->F->G->H->I->J->Prop}(a b c d e f g h i)(k:p a b c d e f g h i):∃a b c d e f g h i,p a b c d e f g h i:=⟨a,b,c,d,e,f,g,h,i,k⟩
local macro_rules|`(tactic|let ⟨$x,*⟩:=$t)=>do
 let l:=x.getElems;let n:=l.size;if n>7 then let z<-`(z);return<-`(tactic|(let ⟨$[$((l.extract 0 6).push z)],*⟩:=$t;let ⟨$[$(l.extract 6 n)],*⟩:=$z)) else
 let y:Array (Lean.TSyntax `ident)<-l.mapM λ(e:Lean.Term)=>if e.raw.isIdent&&e.raw.getId != `rfl then pure ⟨e.raw⟩ else Lean.withFreshMacroScope `(z)
 let mut r<-`(tactic|fail)
 for k in [0:n] do
  let c:=Lean.mkIdent (.mkSimple s!"x{k}_{n-1-k}")
  r<-if t.raw.isIdent then `(tactic|first|(revert $(⟨t⟩):ident;refine $c fun $y* =>?_)|$r:tactic) else `(tactic|first|refine $c (fun $y* =>?_) $t|$r:tactic)
 for e in l,z in y do
  if e.raw.isOfKind `Lean.Parser.Term.anonymousCtor then r<-`(tactic|($r;let $e:term:=$z)) else if e.raw.getId==`rfl then r<-`(tactic|($r;subst $z))
 return r
local macro_rules|`(tactic|refine ⟨$x,*⟩)=>do
 let l:=x.getElems;let mut r<-`(tactic|refine (⟨$x,*⟩))
 for i in [2:min 10 l.size] do
  let c:=Lean.mkIdent (.mkSimple s!"xe{i}")
  let b:=l.extract i l.size
  let b<-if h:b.size=1 then pure b[0] else `(⟨$[$b],*⟩)
  r<-`(tactic|first|refine $c $((l.extract 0 i).push b)*|$r:tactic)
 return r
namespace L2
open PySem PySem.Spec PyProof.Rows
abbrev Key:=Sum Int Str
noncomputable def pW:Key->yai->Bool
 |.inl k,v=>Value.isInt k v
 |.inr x,v=>Value.isStrOf x v
noncomputable def We(w:yak):Key->Int
 |.inl k=>hashInt k
 |.inr x=>hashStr w x
theorem bQ:∀{k:Key}{v:yai},pW k v=true->(∃i t,k=Sum.inl i/\v=Value.int i t)∨(∃x t,k=Sum.inr x/\v=Value.str x t)
 |.inl i,v,h=>by
  let⟨t,e⟩:=Value.isInt_shape h;exact .inl ⟨i,t,rfl,e⟩
 |.inr x,v,h=>by
  let⟨t,e⟩:=Value.isStrOf_shape h;exact .inr ⟨x,t,rfl,e⟩
def C6(i)(t):pW (.inl i) (.int i t)=true:=by simp[pW,Value.isInt]
def C5(x)(t):pW (.inr x) (.str x t)=true:=by simp[pW,Value.isStrOf]
def QF(a b):decide ((Sum.inl a:Key)=Sum.inl b)=(a==b):=by
 lia
def QE(a b):decide ((Sum.inr a:Key)=Sum.inr b)=decide (a=b):=by
 simp
noncomputable def bJ(prog)(w):PySem.KeyKind prog w Key where
 is:=pW
 hash:=We w
 inj:=λv a b C q=>by
  rcases bQ C with⟨i,t,rfl,rfl⟩|⟨x,t,rfl,rfl⟩
  ·rcases bQ q with⟨j,u,rfl,e⟩|⟨y,u,rfl,e⟩
   ·simp_all
   simp_all
  ·rcases bQ q with⟨j,u,rfl,e⟩|⟨y,u,rfl,e⟩
   ·simp_all
   simp_all
 byValue:=λk v h=>by
  rcases bQ h with⟨i,t,rfl,rfl⟩|⟨x,t,rfl,rfl⟩<;>rfl
 pyHash:=λo h=>by
  rcases bQ o with⟨i,t,rfl,rfl⟩|⟨x,t,rfl,rfl⟩
  ·exact wpAny_pyHash_int h
  ·exact wpAny_pyHash_str h
 eqBool:=λs o h=>by
  rcases bQ s with⟨i,t,rfl,rfl⟩|⟨x,t,rfl,rfl⟩
  ·rcases bQ o with⟨j,u,rfl,rfl⟩|⟨y,u,rfl,rfl⟩
   ·rw[QF] at h;exact wpAny_eqBool_int h
   ·exact SeqAt.EqAt.int_str i t y u _ _ _ _ h
  ·rcases bQ o with⟨j,u,rfl,rfl⟩|⟨y,u,rfl,rfl⟩
   ·exact SeqAt.EqAt.str_int x t j u _ _ _ _ h
   ·rw[QE] at h;exact wpAny_eqBool_str h
 «strs»:=λk x t v h=>by
  rcases bQ h with⟨i,u,rfl,e⟩|⟨y,u,rfl,e⟩
  ·simp_all
  ·injection e with e1 _;subst e1;cases v<;>rfl
def wz(prog)(w)(i)(t):(bJ prog w).is (.inl i) (.int i t)=true:=C6 i t
def wu(prog:yaj)(w:yak)(x:Str)(t:Tok):(bJ prog w).is (.inr x) (.str x t)=true:=C5 x t
inductive V where
 |bB|bl (b:Bool)|int (i:Int)|str (x:Str)|ye (b:Array UInt8)|QW (b:UInt64)|ref (a:Addr)|ty (n:String)
 deriving DecidableEq
def RelV:V->yai->Prop
 |.bB,u=>u=Value.none
 |.bl b,u=>u=Value.bool b
 |.int i,u=>∃t,u=Value.int i t
 |.str x,u=>∃t,u=Value.str x t
 |.ye b,u=>∃t,u=Value.bytes b t
 |.QW b,u=>∃t,u=Value.float b t
 |.ref a,u=>u=Value.ref a
 |.ty n,u=>u=Value.type n
abbrev Vals:List V->List yai->Prop:=Paired RelV
theorem Vals.length(r:Vals a j):a.length=j.length:=Paired.length r
theorem Vals.get:∀{a:List V}{j:List yai}{i:Nat}{x:V},Vals a j->a[i]? =some x->∃u,j[i]? =some u/\RelV x u
 |_,_,_,_,.nil,e=>by simp at e
 |_,_,0,_,.cons r _,e=>by simp at e;subst e;refine⟨_,rfl,r⟩
 |_,_,i+1,x,.cons _ t,e=>by
  let⟨u,h1,h2⟩:=Vals.get t (by simpa using e);refine⟨u,by simp_all,h2⟩
def Vals.append:∀{j a:List V}{o ws:List yai},Vals j o->Vals a ws->Vals (j++a) (o++ws):=by
 intro j a o ws h g
 induction h with
 |nil=>exact g
 |cons r t ih=>exact .cons r ih
theorem Vals.take:∀{a:List V}{j:List yai}(n:Nat),Vals a j->Vals (a.take n) (j.take n)
 |_,_,0,_=>.nil
 |_,_,_+1,.nil=>.nil
 |_,_,n+1,.cons r t=>.cons r (Vals.take n t)
theorem Vals.drop:∀{a:List V}{j:List yai}(n),Vals a j->Vals (a.drop n) (j.drop n)
 |_,_,0,r=>r
 |_,_,_+1,.nil=>.nil
 |_,_,n+1,.cons _ t=>Vals.drop n t
def gX:Option V->Option yai->Prop
 |some v,some u=>RelV v u
 |none,none=>True
 |_,_=>False
def KV{a:Type}:List (a×V)->List (a×yai)->Prop:=Paired λ(p:a×V)(q:a×yai)=>p.1=q.1/\RelV p.2 q.2
noncomputable def kV:Key->V
 |.inl i=>.int i
 |.inr x=>.str x
inductive HO where
 |lst (xs:List V)
 |tup (xs:List V)
 |dK (kvs:List (Key×V))|dT (kvs:List (List Key×V))
 |set (S:Int->Bool) (n:Nat)
 |ins (C dx:Addr) (fs:List (Str×V))
 |own (x:Addr)
 |xd (fs:List (Str×V))
 |met (f x:Addr)
 |VW (lo hi:Int)
 |BB (o:Obj) (u:HO)
 |OJ (ps:Array yai)
 |ext (φ:Heap->Prop)
abbrev Hp:=Addr->Option HO
noncomputable def upd(H:Hp)(a:Addr)(o:HO):Hp:=λb=>if b=a then some o else H b
def bL:upd H a o a=some o:=by delta upd;simp
def aQ(h:b≠a):upd H a o b=H b:=by delta upd;simp_all
def TX{H:Hp}(h:H a=some o)(h':H b=some u)(d:o≠u):a≠b:=by
 lia
def bK{H:Hp}(h:H a=some o)(h':H b=none):a≠b:=by
 lia
section
variable (P:yaj)(w:yak)
def bq(H:Hp)(h:Heap)(a:Addr):HO->Prop
 |.lst s=>s.length<=yag/\∃(j:List yai)(n:Nat),Vals s j/\h.get? a=some {cls:=.type "list",data:=.seq j.toArray n}
 |.tup s=>s.length<=yag/\∃j:List yai,Vals s j/\IsTup h a j.toArray
 |.dK kvs=>kvs.length<=yag/\(a==yas)=false/\∃vs,KV kvs vs/\h.DictOf (bJ P w) a vs
 |.dT kvs=>kvs.length<=yag/\(a==yas)=false/\∃s:List (List Key×Addr×yai),
   Paired (λ(p:List Key×V)(q:List Key×Addr×yai)=>p.1=q.1/\H q.2.1=some (.tup (p.1.map kV))/\RelV p.2 q.2.2) kvs s/\
   ∃o y E,h.get? a=some o/\o.ExactDict/\o.data=.dict y E/\y.toList=s.map (entryOfKey (tupleKind (bJ P w)))/\(s.map (·.1)).Nodup
 |.set S n=>h.SetOf (intKind P w) a S n
 |.ins C dx fs=>H dx=some (.own a)/\fs.length<=1000/\dx≠a/\h.get? a=some (zbS C dx)/\
   ∃mA,h.Ns1 dx mA/\(∀f,gX (fs.lookup f) (mA f))/\PySem.Within mA (fs.map (·.1))
 |.own _=>∃o,h.get? a=some o
 |.xd fs=>∃mA,h.Ns1 a mA/\∀f,gX (fs.lookup f) (mA f)
 |.VW lo hi=>∃t u v,h.get? a=some {cls:=.type "range",data:=.fields #[.int lo t,.int hi u,.int 1 v]}
 |.BB o u=>h.get? a=some o/\bq H h a u
 |.OJ ps=>h.get? a=some {cls:=.none,data:=.fields ps}
 |.met f x=>h.get? a=some (PySem.W.methodObj (.ref f) (.ref x))
 |.ext φ=>φ h/\(∃o,h.get? a=some o)/\∀h1 h2:Heap,φ h1->(∀o,h1.get? a=some o->h2.get? a=some o)->φ h2
def jy(H:Hp)(h:Heap):Prop:=∀a o,H a=some o->bq P w H h a o
end
section
variable {P:yaj}{w:yak}{H H':Hp}{h h':Heap}{a:Addr}{o:HO}
theorem bq.lt(x:bq P w H h a o):a<h.objs.size:=by
 cases o with
 |lst xs=>obtain⟨_,_,_,_,e⟩:=x;exact zcy e
 |tup xs=>obtain⟨_,_,_,p⟩:=x;exact p.lt
 |dK kvs=>obtain⟨_,_,_,_,o,_,_,e,_⟩:=x;exact zcy e
 |dT kvs=>obtain⟨_,_,_,_,o,_,_,e,_⟩:=x;exact zcy e
 |set S n=>let⟨o,_,_,_,e,_⟩:=x;exact zcy e
 |ins C dx fs=>let⟨_,_,_,e,_⟩:=x;exact zcy e
 |own y=>let⟨_,e⟩:=x;exact zcy e
 |xd fs=>let⟨_,⟨_,_,_,e,_⟩,_⟩:=x;exact zcy e
 |VW lo hi=>let⟨_,_,_,e⟩:=x;exact zcy e
 |BB ob u=>let⟨e,_⟩:=x;exact zcy e
 |OJ ps=>exact zcy (show h.get? a=some _ from x)
 |met f y=>exact zcy (show h.get? a=some _ from x)
 |ext φ=>let⟨_,⟨_,e⟩,_⟩:=x;exact zcy e
def Paired.T4{α s:Type}{F G:α->s->Prop}:∀{q:List α}{j:List s},Paired F q j->(∀a b,F a b->G a b)->Paired G q j:=by
 intro a b h f
 induction h with
 |nil=>exact .nil
 |cons r t ih=>exact .cons (f _ _ r) ih
def bq.stay(x:bq P w H h a o)(k:∀b u,(b=a∨H b=some (.own a))->h.get? b=some u->h'.get? b=some u)(O:∀b,H b=some (.own a)->H' b=some (.own a))(L:∀b G,H b=some (.tup G)->H' b=some (.tup G)):bq P w H' h' a o:=by
 induction o with
 |lst G=>obtain⟨z,F,n,r,e⟩:=x;refine⟨z,F,n,r,k _ _ (.inl rfl) e⟩
 |tup G=>obtain⟨z,F,r,j,e,c⟩:=x;refine⟨z,F,r,j,k _ _ (.inl rfl) e,c⟩
 |dK kvs=>obtain⟨z,y,vs,r,j,s,E,e,c⟩:=x;refine⟨z,y,vs,r,j,s,E,k _ _ (.inl rfl) e,c⟩
 |dT kvs=>
  obtain⟨z,y,G,r,j,s,E,e,c⟩:=x;refine⟨z,y,G,Paired.T4 r λp q z=>⟨z.1,L _ _ z.2.1,z.2.2⟩,j,s,E,k _ _ (.inl rfl) e,c⟩
 |set S n=>let⟨j,s,E,t,e,c⟩:=x;refine⟨j,s,E,t,k _ _ (.inl rfl) e,c⟩
 |ins C dx fs=>
  obtain⟨d,z,ne,e,mA,⟨I,s,E,Q,c⟩,r⟩:=x;refine⟨O _ d,z,ne,k _ _ (.inl rfl) e,mA,⟨I,s,E,k _ _ (.inr d) Q,c⟩,r⟩
 |own y=>let⟨j,e⟩:=x;exact⟨j,k _ _ (.inl rfl) e⟩
 |xd fs=>let⟨mA,⟨I,s,E,e,c⟩,r⟩:=x;refine⟨mA,⟨I,s,E,k _ _ (.inl rfl) e,c⟩,r⟩
 |VW lo hi=>let⟨t,u,v,e⟩:=x;refine⟨t,u,v,k _ _ (.inl rfl) e⟩
 |BB j u ih=>let⟨e,q⟩:=x;exact⟨k _ _ (.inl rfl) e,ih q⟩
 |OJ ps=>
  have e  :=x;exact k a _ (.inl rfl) e
 |met f y=>
  have e  :=x;exact k a _ (.inl rfl) e
 |ext φ=>let⟨p,⟨o,e⟩,st⟩:=x;refine⟨st _ _ p λo q=>k _ _ (.inl rfl) q,⟨o,k _ _ (.inl rfl) e⟩,st⟩
theorem jy.lt(x:jy P w H h)(e:H a=some o):a<h.objs.size:=(x a o e).lt
def jy.fresh(x:jy P w H h)(e:h.objs.size<=a):H a=none:=by
 cases q:H a with
 |none=>rfl
 |some u=>exact absurd (zaU (x.lt q) e) (zch _)
def jy.kept(x:jy P w H h)(k:∀b u,h.get? b=some u->h'.get? b=some u):jy P w H h':=λa o e=>
 (x a o e).stay (λb u _ q=>k b u q) (λ_ q=>q) λ_ _ q=>q
def jy.laid(x:jy P w H h)(k:∀b u,h.get? b=some u->h'.get? b=some u)(y:h.objs.size<=a)(new:bq P w (upd H a o) h' a o):jy P w (upd H a o) h':=λb u e=>by
 have j:=x.fresh y;by_cases s:b=a
 ·subst s;rw[bL] at e;cases e;exact new
 ·rw[aQ s] at e;exact(x b u e).stay (λc v _ q=>k c v q) (λc q=>by rw[aQ (bK q j)];exact q) λc C q=>by rw[aQ (bK q j)];exact q
end
def Rd(H:Hp)(a:Addr)(u:HO):Prop:=H a=some u∨∃o,H a=some (.BB o u)
def Rd.ok(r:Rd H a u)(x:jy P w H h):bq P w H h a u:=by
 obtain r|⟨o,r⟩:=r
 ·exact x a u r
 ·let⟨_,q⟩:=x a _ r;exact q
def Sd:Option HO->Prop
 |some (.lst _)=>True
 |some (.dK _)=>True
 |some (.dT _)=>True
 |some (.set _ _)=>True
 |some (.ins _ _ _)=>True
 |some (.ext _)=>True
 |_=>False
section
variable {P:yaj}{w:yak}{H:Hp}{h h':Heap}{x e:Addr}{o':HO}
def jy.write(ok:jy P w H h)(j:Sd (H x))(L:e=x∨H e=some (.own x))(k:∀b u,b≠e->h.get? b=some u->h'.get? b=some u)(o:∃u,h'.get? e=some u)(new:bq P w (upd H x o') h' x o'):jy P w (upd H x o') h':=λb u q=>by
 have F:∀c y,H c=some (.own y)->c≠x:=λc y r z=>by subst z;rw[r] at j;exact j
 have G:∀c a,H c=some (.tup a)->c≠x:=λc a r z=>by subst z;rw[r] at j;exact j
 by_cases C:b=x
 ·subst C;rw[bL] at q;cases q;exact new
 ·rw[aQ C] at q;by_cases E:b=e
  ·have s:H b=some (.own x):=by
    lia
   rw[q] at s;cases s;let⟨v,I⟩:=o;exact⟨v,by simp_all⟩
  ·refine(ok b u q).stay (λc v O r=>k c v ?_ r) (λc r=>by rw[aQ (F c b r)];exact r) λc a r=>by rw[aQ (G c a r)];exact r
   grind
end
structure Un(fs ex:List Addr)(H H':Hp)(h h':Heap):Prop where
 keep:∀b o,h.get? b=some o->H b=none->b ∉ fs->b ∉ ex->h'.get? b=some o
 slot:∀b o,h.get? b=some o->H b=none->b∈fs->b ∉ ex->∃sl,h'.get? b=some {o with slots:=sl}
 free:∀b o,h.get? b=some o->H b=none->b ∉ ex->H' b=none
 there:∀b o,h.get? b=some o->b ∉ ex->∃o',h'.get? b=some o'
 tups:∀b xs,H b=some (.tup xs)->H' b=some (.tup xs)
 qZ:∀b o u,H b=some (.BB o u)->H' b=some (.BB o u)
 tH:∀b ps,H b=some (.OJ ps)->∃more,H' b=some (.OJ (ps++more))
section
variable {fs fs' ex ex':List Addr}{H H1 H2:Hp}{h h1 h2 h':Heap}{a x e:Addr}{o:HO}
def Un.any(u:Un fs ex H H1 h h1)(q:h.get? b=some j)(n:H b=none)(s:b ∉ ex):∃sl,h1.get? b=some {j with slots:=sl}:=by
 by_cases v:b∈fs
 ·exact u.slot b j q n v s
 ·exact⟨j.slots,u.keep b j q n v s⟩
def Un.kept(k:∀b u,h.get? b=some u->h'.get? b=some u):Un fs ex H H h h':=
 ⟨λb j q _ _ _=>k b j q,λb j q _ _ _=>⟨j.slots,k b j q⟩,λ_ _ _ n _=>n,λb j q _=>⟨j,k b j q⟩,λ_ _ q=>q,λ_ _ _ q=>q,λ_ s q=>⟨#[],by simp_all⟩⟩
def Un.refl:Un fs ex H H h h:=Un.kept λ_ _ q=>q
def Un.laid(k:∀b u,h.get? b=some u->h'.get? b=some u)(v:h.objs.size<=a)(j:H a=none):Un fs ex H (upd H a o) h h' where
 keep:=λb u q _ _ _=>k b u q
 slot:=λb u q _ _ _=>⟨u.slots,k b u q⟩
 free:=λb u q n _=>by rw[aQ (zco (zaU (zcy q) v))];exact n
 there:=λb u q _=>⟨u,k b u q⟩
 tups:=λb s q=>by rw[aQ (bK q j)];exact q
 qZ:=λb u s q=>by rw[aQ (bK q j)];exact q
 tH:=λb y q=>⟨#[],by rw[aQ (bK q j),q];simp⟩
def Un.write(y:Sd (H x))(I:e=x∨H e=some (.own x))(k:∀b u,b≠e->h.get? b=some u->h'.get? b=some u)(v:∃u,h'.get? e=some u):Un fs ex H (upd H x o) h h':=by
 have F:∀b,H b=none->b≠x:=λb n z=>by subst z;rw[n] at y;exact y
 have C:∀b,H b=none->b≠e:=λb n z=>by
  simp_all
 have s:∀b u,H b=some u->¬Sd (some u)->b≠x:=λb u q nm z=>by simp_all
 refine⟨λb u q n _ _=>k b u (C b n) q,λb u q n _ _=>⟨u.slots,k b u (C b n) q⟩,λb u q n _=>by rw[aQ (F b n)];exact n,λb u q _=>?_,
  λb E q=>by rw[aQ (s b _ q λz=>z)];exact q,λb u E q=>by rw[aQ (s b _ q λz=>z)];exact q,λb G q=>⟨#[],by rw[aQ (s b _ q λz=>z),q];simp⟩⟩
 by_cases j:b=e
 ·subst j;exact v
 ·exact⟨u,k b u j q⟩
end
noncomputable def Vo(h:Heap)(H:Hp):List Addr:=(zcE h.objs.size).filter λa=>(H a).isSome
noncomputable def wQ(h:Heap)(H:Hp):Heap:=PySem.W.hideAll h (Vo h H)
def Df(h)(H):(wQ h H).objs.size=h.objs.size:=PySem.W.hideAll_size _ _
def G4(e:h.get? b=some o)(n:H b=none):(wQ h H).get? b=some o:=
 PySem.W.hideAll_get _ e λa=>by
  have q  :=(zbD.mp a).2;simp_all
def KI(e:(wQ h H).get? b=some o):h.get? b=some o/\H b=none:=by
 have e'  :=PySem.W.of_hideAll (Vo h H) e;refine⟨e',?_⟩;cases q:H b with
 |none=>rfl
 |some x=>
  have a:b∈Vo h H:=zbD.mpr ⟨zbV.mpr (zcy e'),by simp[q]⟩;have z:(wQ h H).get? b=none:=PySem.W.hideAll_none (Vo h H) a;simp_all
noncomputable def LX(g h:Heap)(L:Addr):List (Addr×Obj):=(zcE h.objs.size).filterMap λa=>if a=L∨(g.get? a).isSome=true then none else(h.get? a).map λo=>(a,o)
noncomputable def rest(g h:Heap)(L d:Addr):List (Addr×Obj):=(LX g h L).filter λp=>decide (p.1≠d)
structure Mod(K:yaJ)(mg:Str->Option yai)(base:Heap):Prop where
 T7:K.In base
 glob:base.Ns yaq mg
 blt:∃mb,base.Ns builtinsNs mb/\∀x:Str,x≠"__name__"->mb x=bootBuiltins x
 nolimit:base.NoLimit
structure Cx where
 prog:yaj
 w:yak
 K:yaJ
 mg:Str->Option yai
 base:Heap
 A:yal
 N:List Str
 s₀:yah
 H₀:Hp
 env:Env
 outer:List Env
 stack:List Env
 ex:List Addr
 fn:Str->Bool
 calm:Bool
 pn:List (Addr×Obj)
 xe:yai->yah->Prop
end L2
variable {P prog:yaj}{w:yak}{K:yaJ}{mg:PySem.Str->Option yai}{base:PySem.Heap}{C fi:PySem.Addr}{X:L2.Cx}{A:yal}{E:yai->yah->Prop}{pins:List (PySem.Addr×PySem.Obj)}{σ:List (Option L2.V)}{s:yah}{H:L2.Hp}{Q:yai->yah->Prop}{XP:(PySem.Str->Option yai)->PySem.Heap->Prop}{es:Array (Int×yai)}{osl sl:Array (Option yai)}{p:Array Nat}{its:Array yai}{b neg:Bool}{H':L2.Hp}{v y:L2.V}{kvs:List (L2.Key×L2.V)}{caps:List (Option Nat)}{ts:List (PySem.Str×PySem.Str×PySem.Str)}{kw:List (PySem.Str×yai)}{ks B:List (yam×PySem.Addr)}{xs:List L2.V}{ys:List Nat}{ch fp:List PySem.Addr}{os:List PySem.Obj}{N ps loose ss ms:List PySem.Str}{us:List yai}{t' i j n m ep wb:Nat}{po:Option PySem.Obj}{a f l I G gi:PySem.Addr}{env:PySem.Env}{h h':PySem.Heap}{o:PySem.Obj}{scope:PySem.Scope}{t:PySem.SetTable}{x name qual:PySem.Str}{u:yai}{YP:yak->PySem.Heap->Prop}{fd:yap}{ifs:List PySem.Expr}{body:List PySem.Stmt}{e c tg value iter:PySem.Expr}{st:PySem.Stmt}{pos pos' apos cpos:PySem.Pos}
namespace L2
open PySem PySem.Spec PyProof.Rows
noncomputable def frs(l:List Env):List Addr:=l.filterMap (·.frame)
noncomputable abbrev Cx.fs(X:Cx):List Addr:=frs X.outer
def Vz(a:Scope)(x:Str):Prop:=a.names.lookup x=some .local∨a.names.lookup x=some .cell∨a.names.lookup x=some .free
def Loc(a:Scope)(x:Str):Prop:=a.names.lookup x=some .local∨a.names.lookup x=some .cell
def Look(env:Env)(h:Heap)(m:Str->Option yai)(x:Str)(u:yai):Prop:=
 (env.kindOf x=some .local/\m x=some u)∨((env.kindOf x=some .cell∨env.kindOf x=some .free)/\∃c,env.cells.lookup x=some c/\h.IsCell c (some u))
structure Cx.Ok(X:Cx):Prop where
 mod:Mod X.K X.mg X.base
 kind:X.env.scope.kind=.function
 glob:X.env.globals=yaq
 blt:X.env.builtins=builtinsNs
 above:X.s₀.heap.objs.size<=X.env.locals
 inj:∀x y c,X.env.cells.lookup x=some c->X.env.cells.lookup y=some c->x=y
 has:∀x,(X.env.kindOf x=some .cell∨X.env.kindOf x=some .free)->∃c,X.env.cells.lookup x=some c
 U0:∀x c,X.fn x=true->X.env.cells.lookup x=some c->X.s₀.heap.objs.size<=c
 hd:X.calm=true->X.A.handled=none
 frames:X.A.frames=some X.stack
 stk:X.stack=X.outer∨(X.stack=X.env::X.outer/\X.env.frame=some X.env.locals)
 Wt:∀b∈X.ex,b≠X.env.locals/\∀x c,X.env.cells.lookup x=some c->c≠b
 bs:∀b o,X.base.get? b=some o->X.s₀.heap.get? b=some o/\X.H₀ b=none
 LO:X.base.objs.size<=X.s₀.heap.objs.size
 Gn:∀b o,X.base.get? b=some o->b ∉ X.ex
 Lh:∀b∈X.ex,b ∉ X.fs
 nE:X.s₀.heap.FunFrames X.base X.outer
 QV:∀b∈X.fs,X.H₀ b=none
structure Inv(X:Cx)(pins:List (Addr×Obj))(σ:List (Option V))(H:Hp)(s:yah):Prop where
 ok:X.Ok
 os:s.os=X.s₀.os
 bare:AllBare s.gens
 base:Un X.fs X.ex X.H₀ H X.s₀.heap s.heap
 loc:∃m,s.heap.Ns X.env.locals m/\∀(i:Nat)(x:Str)(v:V),X.N[i]? =some x->σ[i]? =some (some v)->Vz X.env.scope x->∃u,RelV v u/\Look X.env s.heap m x u
 cell:∀x c,X.env.cells.lookup x=some c->∃v,s.heap.IsCell c v
 free:H X.env.locals=none
 g8:∀x c,X.env.cells.lookup x=some c->H c=none
 pin:∀p∈X.pn++pins,s.heap.get? p.1=some p.2/\H p.1=none/\p.1≠X.env.locals/\p.1 ∉ X.fs/\∀v,p.2.data≠ .cell v
 hok:jy X.prog X.w H s.heap
 len:σ.length=X.N.length
def Cx.Ok.Wb(ok:X.Ok)(e:X.base.get? d=some o):d ∉ X.fs:=λa=>by
 have:=(ok.nE.mem a).1;simp_all
theorem Inv.bs(I:Inv X pins σ H s):∀b o,X.base.get? b=some o->s.heap.get? b=some o/\H b=none:=λb o e=>
 ⟨I.base.keep b o (I.ok.bs b o e).1 (I.ok.bs b o e).2 (I.ok.Wb e) (I.ok.Gn b o e),I.base.free b o (I.ok.bs b o e).1 (I.ok.bs b o e).2 (I.ok.Gn b o e)⟩
def Inv.bk(I:Inv X pins σ H s):∀b o,X.base.get? b=some o->s.heap.get? b=some o:=λb o e=>(I.bs b o e).1
theorem Inv.mod(I:Inv X pins σ H s):Mod X.K X.mg X.base:=I.ok.mod
def Inv.lT(I:Inv X pins σ H s):X.K.In s.heap:=I.ok.mod.T7.keeps I.bk
theorem Inv.lt(I:Inv X pins σ H s):X.env.locals<s.heap.objs.size:=by let⟨_,a,_⟩:=I.loc;exact a.lt
def Inv.sz(I:Inv X pins σ H s):X.s₀.heap.objs.size<=s.heap.objs.size:=zcp I.ok.above (zcq I.lt)
def Inv.TU(I:Inv X pins σ H s)(h:s.heap.objs.size<=a):a ∉ X.fs:=λq=>by
 obtain⟨_,o,j,_⟩:=I.ok.nE.mem q;exact absurd (zaU (zcy j) (zcp I.sz h)) (zch _)
def Inv.Rr(I:Inv X pins σ H s):∀x c,X.env.cells.lookup x=some c->c≠X.env.locals:=λx c e z=>by
 let⟨v,o,u,hd⟩:=I.cell x c e;obtain⟨m,⟨q,y,C,a,j,_⟩,_⟩:=I.loc;simp_all
theorem Inv.nE(I:Inv X pins σ H s):s.heap.FunFrames X.base X.outer:=by
 have all:∀l,(∀b∈frs l,b∈X.fs)->X.s₀.heap.FunFrames X.base l->s.heap.FunFrames X.base l:=by
  intro l
  induction l with
  |nil=>intro _ _;trivial
  |cons env r ih=>
   intro j y;let⟨C,⟨L,o,q,x,v,hd⟩,u⟩:=y;have hL  :=j L (by delta frs;simp_all);let⟨E,e⟩:=I.base.slot L o v (I.ok.QV L hL) hL λz=>I.ok.Lh L z hL;refine⟨C,⟨L,_,q,x,e,hd⟩,ih (λb a=>j b (by delta frs;rw[List.filterMap_cons,q];exact zaC _ a)) u⟩
 exact all X.outer (λ_ a=>a) I.ok.nE
theorem Inv.stack(I:Inv X pins σ H s):s.heap.FunFrames X.base X.stack:=by
 obtain e|⟨e,j⟩:=I.ok.stk
 ·rw[e];exact I.nE
 ·rw[e];obtain⟨m,a,_⟩:=I.loc;refine .cons (by rw[I.ok.kind];decide) j a ?_ I.nE;exact Heap.get?_none_of_le (zcp I.ok.LO I.ok.above)
def Inv.oN(I:Inv X pins σ H s):∀b∈frs X.stack,b∈X.env.locals::X.fs:=λb a=>by
 obtain e|⟨e,j⟩:=I.ok.stk
 ·simp_all
 ·rw[e] at a;delta frs at a;rw[List.filterMap_cons,j] at a;exact a
def Inv.Al(I:Inv X pins σ H s):∀b∈frs X.stack,H b=none:=λb a=>by
 obtain e|a:=zcd.mp (I.oN b a)
 ·rw[e];exact I.free
 ·let⟨_,o,j,_⟩:=I.ok.nE.mem a;exact I.base.free b o j (I.ok.QV b a) λz=>I.ok.Lh b z a
def Inv.step{g':Array yaw}{d':Drawn}(I:Inv X pins σ H s)(j:∀b∈ch,(b∈X.ex∨X.s₀.heap.objs.size<=b)/\b≠X.env.locals/\(∀x c,X.env.cells.lookup x=some c->c≠b)/\∀p∈X.pn++pins,p.1≠b)(keep:∀b o,b≠X.env.locals->b ∉ X.fs->b ∉ ch->s.heap.get? b=some o->H b=none->h'.get? b=some o)(slot:∀b o,b≠X.env.locals->b∈X.fs->b ∉ ch->s.heap.get? b=some o->H b=none->∃sl,h'.get? b=some {o with slots:=sl})(free:∀b o,b ∉ ch->s.heap.get? b=some o->H b=none->H' b=none)(there:∀b o,b ∉ ch->s.heap.get? b=some o->∃o',h'.get? b=some o')(tups:∀b F,H b=some (.tup F)->H' b=some (.tup F))(qZ:∀b o u,H b=some (.BB o u)->H' b=some (.BB o u))(tH:∀b ps,H b=some (.OJ ps)->∃more,H' b=some (.OJ (ps++more)))(ns:∀m,s.heap.Ns X.env.locals m->h'.Ns X.env.locals m)(hok:jy X.prog X.w H' h')(Z:AllBare g'):
  Inv X pins σ H' {s with heap:=h',gens:=g',drawn:=d',toks:=t'}:=by
 have O:∀b o,X.s₀.heap.get? b=some o->b≠X.env.locals:=λb o e=>zco (zaU (zcy e) I.ok.above);have C:∀b o,X.s₀.heap.get? b=some o->b ∉ X.ex->b ∉ ch:=λb o e a G=>by
  rcases(j b G).1 with z|z
  ·exact a z
  ·exact absurd (zaU (zcy e) z) (zch _)
 have y:∀x c,X.env.cells.lookup x=some c->∀v,s.heap.IsCell c v->h'.IsCell c v:=λx c e v=>x1_1 λo L hd=>by
  have nch  :=λz=>(j c z).2.2.1 x c e rfl;by_cases U:c∈X.fs
  ·let⟨sl,q⟩:=slot c o (I.Rr x c e) U nch L (I.g8 x c e);refine⟨_,q,hd⟩
  ·refine⟨o,keep c o (I.Rr x c e) U nch L (I.g8 x c e),hd⟩
 refine⟨I.ok,I.os,Z,⟨λb o e n G a=>?_,λb o e n G a=>?_,λb o e n a=>?_,λb o e a=>?_,λb F e=>tups b F (I.base.tups b F e),λb o F e=>qZ b o F (I.base.qZ b o F e),λb ps e=>?_⟩,?_,λx c e=>?_,?_,λx c e=>?_,λp S=>?_,hok,I.len⟩
 ·exact keep b o (O b o e) G (C b o e a) (I.base.keep b o e n G a) (I.base.free b o e n a)
 ·let⟨sl,E⟩:=I.base.slot b o e n G a;let⟨Q,P⟩:=slot b _ (O b o e) G (C b o e a) E (I.base.free b o e n a);exact⟨Q,P⟩
 ·let⟨o',E⟩:=I.base.there b o e a;exact free b o' (C b o e a) E (I.base.free b o e n a)
 ·let⟨o',E⟩:=I.base.there b o e a;exact there b o' (C b o e a) E
 ·let⟨m1,E⟩:=I.base.tH b ps e;let⟨m2,P⟩:=tH b _ E;exact⟨m1++m2,by simp_all⟩
 ·obtain⟨m,W,Y⟩:=I.loc;refine⟨m,ns m W,λi x v E P e3=>?_⟩;let⟨u,r,l⟩:=Y i x v E P e3;refine⟨u,r,?_⟩;obtain l|⟨k,c,e,z⟩:=l
  ·exact .inl l
  ·exact .inr ⟨k,c,e,y x c e _ z⟩
 ·let⟨v,z⟩:=I.cell x c e;exact⟨v,y x c e v z⟩
 ·obtain⟨m,⟨o,_,_,L,_⟩,_⟩:=I.loc;exact free _ o (λz=>(j _ z).2.1 rfl) L I.free
 ·let⟨v,o,L,hd⟩:=I.cell x c e;exact free c o (λz=>(j c z).2.2.1 x c e rfl) L (I.g8 x c e)
 ·let⟨e,n,ne,nf,d⟩:=I.pin p S;have nch  :=λz=>(j p.1 z).2.2.2 p S rfl;refine⟨keep p.1 p.2 ne nf nch e n,free p.1 p.2 nch e n,ne,nf,d⟩
def Inv.un(I:Inv X pins σ H s)(u:Un X.fs [] H H' s.heap h')(hok:jy X.prog X.w H' h'):Inv X pins σ H' {s with heap:=h',toks:=t'}:=by
 let⟨m,⟨o,O,P,x,r⟩,_⟩:=id I.loc;let⟨F,E⟩:=u.any x I.free (by simp);exact I.step (ch:=[]) (λ_ z=>nomatch z) (λb o _ j _ e n=>u.keep b o e n j (by simp)) (λb o _ j _ e n=>u.slot b o e n j (by simp)) (λb o _ e n=>u.free b o e n (by simp)) (λb o _ e=>u.there b o e (by simp)) u.tups u.qZ u.tH (λL C=>by
  let⟨G,q,v,a,y⟩:=C;rw[x] at a;cases a;refine⟨_,q,v,E,y⟩) hok I.bare
def Inv.call{g':Array yaw}{P:Drawn}(I:Inv X pins σ H s)(u:Un (frs X.stack) ch H H' s.heap h')(hok:jy X.prog X.w H' h')(L:AllBare g')(q:∀b∈ch,(b∈X.ex∨X.s₀.heap.objs.size<=b)/\b≠X.env.locals/\(∀x c,X.env.cells.lookup x=some c->c≠b)/\∀p∈X.pn++pins,p.1≠b):
  Inv X pins σ H' {s with heap:=h',gens:=g',drawn:=P,toks:=t'}:=by
 let⟨m,⟨o,W,Y,E,r⟩,_⟩:=id I.loc;let⟨Q,v⟩:=u.any E I.free λz=>(q _ z).2.1 rfl;exact I.step q (λb o v O a e n=>u.keep b o e n (λz=>(zcd.mp (I.oN b z)).elim v O) a) (λb o _ _ a e n=>u.any e n a) (λb o a e n=>u.free b o e n a) (λb o a e=>u.there b o e a) u.tups u.qZ u.tH (λU G=>by
  let⟨S,y,C,j,F⟩:=G;rw[E] at j;cases j;refine⟨_,y,C,v,F⟩) hok L
def Inv.turned(I:Inv X pins σ H s)(k:∀b o,b≠it->s.heap.get? b=some o->h'.get? b=some o)(P:H it=none)(j:it≠X.env.locals)(h1:it∈X.ex∨X.s₀.heap.objs.size<=it)(h2:∀x c,X.env.cells.lookup x=some c->c≠it)(F:∀p∈X.pn++pins,p.1≠it):Inv X pins σ H {s with heap:=h',toks:=t'}:=by
 refine I.step (ch:=[it]) (λb E=>?_) (λb o _ _ a e _=>k b o (λz=>a (by simp[z])) e) (λb o _ _ a e _=>⟨o.slots,k b o (λz=>a (by simp[z])) e⟩) (λ_ _ _ _ n=>n)
  (λb o a e=>⟨o,k b o (λz=>a (by simp[z])) e⟩) (λ_ _ e=>e) (λ_ _ _ e=>e) (λb O e=>⟨#[],by simp_all⟩) (λm C=>?_) (λb u e=>?_) I.bare
 ·have e  :=by simpa using E
  subst e;refine⟨h1,j,h2,F⟩
 ·let⟨o,G,L,y,r⟩:=C;refine⟨o,G,L,k _ o (Ne.symm j) y,r⟩
 ·refine(I.hok b u e).stay (λc v a q=>k c v ?_ q) (λ_ q=>q) λ_ _ q=>q;lia
def Inv.tok(I:Inv X pins σ H s)(t):Inv X pins σ H {s with toks:=t}:=I.un (h':=s.heap) (t':=t) Un.refl I.hok
theorem Inv.kept(I:Inv X pins σ H s)(k:∀b u,s.heap.get? b=some u->h'.get? b=some u):Inv X pins σ H {s with heap:=h',toks:=t'}:=I.un (Un.kept k) (I.hok.kept k)
theorem Inv.laid{o:HO}(I:Inv X pins σ H s)(k:∀b u,s.heap.get? b=some u->h'.get? b=some u)(j:s.heap.objs.size<=a)(new:bq X.prog X.w (upd H a o) h' a o):
  Inv X pins σ (upd H a o) {s with heap:=h',toks:=t'}:=I.un (Un.laid k j (I.hok.fresh j)) (I.hok.laid k j new)
theorem Inv.write{x e:Addr}(I:Inv X pins σ H s)(j:Sd (H x))(q:e=x∨H e=some (.own x))(k:∀b u,b≠e->s.heap.get? b=some u->h'.get? b=some u)(a:∃u,h'.get? e=some u)(new:bq X.prog X.w (upd H x r) h' x r):Inv X pins σ (upd H x r) {s with heap:=h',toks:=t'}:=I.un (Un.write j q k a) (I.hok.write j q k a new)
def Inv.kE(I:Inv X pins σ H s)(h:∀p∈d,s.heap.get? p.1=some p.2/\H p.1=none/\p.1≠X.env.locals/\p.1 ∉ X.fs/\∀v,p.2.data≠ .cell v):Inv X d σ H s:=
 ⟨I.ok,I.os,I.bare,I.base,I.loc,I.cell,I.free,I.g8,λp j=>(zbE.mp j).elim (λz=>I.pin p (zaD _ z)) (h p),I.hok,I.len⟩
def wj(hN:N.Nodup)(a:N[i]? =some x)(b:N[j]? =some x):i=j:=by
 let⟨h1,q⟩:=zaf.mp a;let⟨h2,o⟩:=zaf.mp b;exact(List.getElem_inj hN).mp (q.trans o.symm)
def CA(I:Inv X pins σ H s)(hN:X.N.Nodup)(hi:X.N[i]? =some x)(L:Loc X.env.scope x)(r:RelV v u)(h:∀s',Inv X pins (σ.set i (some v)) H s'->(∃a,Heap.SameBut a s.heap s'.heap/\(a=X.env.locals∨X.env.cells.lookup x=some a))->g () s')(hf:X.fn x=true∨X.env.scope.names.lookup x=some .local:=by first|exact .inl rfl|exact .inr rfl|assumption):yar M A (storeName X.env x u) g E s:=by
 let⟨m,hn,hl⟩:=id I.loc;have ab:(X.env.scope.kind== .class||(X.env.scope.kind== .module&&X.env.locals != X.env.globals))=false:=by rw[I.ok.kind];rfl
 have S:i<σ.length:=by rw[I.len];exact(zaf.mp hi).1
 have Rr:=I.Rr;have F:∀{a:Addr}{h':Heap},(∃o,s.heap.get? a=some o/\H a=none)->Heap.SameBut a s.heap h'->jy X.prog X.w H h':=λ{a h'} ha C b ob e=>by
  refine(I.hok b ob e).stay (λc w' O q=>(C.2 c ?_).trans q) (λ_ q=>q) λ_ _ q=>q;lia
 obtain Z|Z:=L
 ·refine wpAny_storeName_local Z hn (λh' hn' C=>?_) ab;let⟨oL,_,_,hoL,_⟩:=id hn;refine h _ ⟨I.ok,I.os,I.bare,⟨λb o e n Y L=>?_,λb o e n Y L=>?_,I.base.free,λb o e L=>?_,I.base.tups,I.base.qZ,I.base.tH⟩,⟨_,hn',λj y v' G P e3=>?_⟩,λy c e=>?_,I.free,I.g8,λp hp=>?_,F ⟨oL,hoL,I.free⟩ C,by simpa using I.len⟩ ⟨_,C,.inl rfl⟩
  ·exact(C.2 b (zco (zaU (zcy e) I.ok.above))).trans (I.base.keep b o e n Y L)
  ·let⟨sl,G⟩:=I.base.slot b o e n Y L;exact⟨sl,(C.2 b (zco (zaU (zcy e) I.ok.above))).trans G⟩
  ·let⟨o',G⟩:=I.base.there b o e L;exact⟨o',(C.2 b (zco (zaU (zcy e) I.ok.above))).trans G⟩
  ·by_cases U:j=i
   ·subst U;rw[hi] at G;cases G;rw[List.getElem?_set_self S] at P;cases P;refine⟨u,r,.inl ⟨Z,by simp⟩⟩
   ·rw[zaE (Ne.symm U)] at P;let⟨u',r',q⟩:=hl j y v' G P e3;refine⟨u',r',?_⟩;rcases q with⟨k,e⟩|⟨k,c,e,z⟩
    ·refine .inl ⟨k,?_⟩;have:y≠x:=λe=>U (wj hN G (e▸hi));simp_all
    ·exact .inr ⟨k,c,e,z.sameBut C (Rr y c e)⟩
  ·let⟨w',z⟩:=I.cell y c e;exact⟨w',z.sameBut C (Rr y c e)⟩
  ·let⟨e,n,ne,nf,d⟩:=I.pin p hp;refine⟨(C.2 p.1 ne).trans e,n,ne,nf,d⟩
 ·have W:X.fn x=true:=by
   simp_all
  let⟨c,O⟩:=I.ok.has x (.inl Z);let⟨w',z⟩:=I.cell x c O;refine wpAny_storeName_cell I.ok.kind Z O z (λh' hc' C=>?_);let⟨oc,hoc,ac⟩:=id z;refine h {s with heap:=h'} ⟨I.ok,I.os,I.bare,⟨λb o e n Y L=>?_,λb o e n Y L=>?_,I.base.free,λb o e L=>?_,I.base.tups,I.base.qZ,I.base.tH⟩,⟨m,hn.sameBut C (Ne.symm (Rr x c O)),λj y v' G P e3=>?_⟩,λy c' e=>?_,I.free,I.g8,λp hp=>?_,F ⟨oc,hoc,I.g8 x c O⟩ C,by simpa using I.len⟩ ⟨c,C,.inr O⟩
  ·exact(C.2 b (zco (zaU (zcy e) (I.ok.U0 x c W O)))).trans (I.base.keep b o e n Y L)
  ·let⟨sl,G⟩:=I.base.slot b o e n Y L;exact⟨sl,(C.2 b (zco (zaU (zcy e) (I.ok.U0 x c W O)))).trans G⟩
  ·let⟨o',G⟩:=I.base.there b o e L;exact⟨o',(C.2 b (zco (zaU (zcy e) (I.ok.U0 x c W O)))).trans G⟩
  ·by_cases U:j=i
   ·subst U;rw[hi] at G;cases G;rw[List.getElem?_set_self S] at P;cases P;refine⟨u,r,.inr ⟨.inl Z,c,O,hc'⟩⟩
   ·rw[zaE (Ne.symm U)] at P;let⟨u',r',q⟩:=hl j y v' G P e3;refine⟨u',r',?_⟩;obtain q|⟨k,c',e,z'⟩:=q
    ·exact .inl q
    ·refine .inr ⟨k,c',e,z'.sameBut C ?_⟩;rintro rfl;exact U (wj hN G (I.ok.inj _ _ _ e O▸hi))
  ·by_cases hcc:c'=c
   ·subst hcc;exact⟨_,hc'⟩
   ·let⟨w2,z2⟩:=I.cell y c' e;exact⟨w2,z2.sameBut C hcc⟩
  ·let⟨e,n,ne,nf,d⟩:=I.pin p hp;refine⟨(C.2 p.1 ?_).trans e,n,ne,nf,d⟩
   grind
def j9(I:Inv X pins σ H s)(hN:X.N.Nodup)(o:X.N[i]? =some x)(j:Loc X.env.scope x)(r:RelV v u)(h:∀a,Inv X pins (σ.set i (some v)) H a->d () a)(q:X.fn x=true∨X.env.scope.names.lookup x=some .local:=by first|exact .inl rfl|exact .inr rfl|assumption):yar M A (storeName X.env x u) d E s:=
 CA I hN o j r (λa y _=>h a y) q
def Inv.UZ(I:Inv X pins σ H s)(o:d.os=s.os)(u:Un (frs X.stack) ch H H' s.heap d.heap)(hok:jy X.prog X.w H' d.heap)(q:AllBare d.gens)(j:∀b∈ch,(b∈X.ex∨X.s₀.heap.objs.size<=b)/\b≠X.env.locals/\(∀x c,X.env.cells.lookup x=some c->c≠b)/\∀p∈X.pn++pins,p.1≠b):Inv X pins σ H' d:=by
 obtain⟨C,E,F,v,y⟩:=d;have e  :=o;subst e;exact I.call u hok q j
abbrev XK:=yai->Option Addr->Hp->Prop
abbrev St:=List (Option V)
abbrev VK:=V->Hp->Prop
abbrev TE:=St->Hp->VK->Prop
abbrev TT:=St->Hp->(Bool->Hp->Prop)->Prop
abbrev TA:=St->Hp->(List V->Hp->Prop)->Prop
structure Ends where
 nx:St->Hp->Prop
 rt:VK
 bk:St->Hp->Prop:=λ_ _=>False
 ct:St->Hp->Prop:=λ_ _=>False
abbrev TS:=Ends->St->Hp->Prop
def EP(X:Cx)(a:List (Addr×Obj))(o:St)(Q:VK)(u:yai)(q:yah):Prop:=∃v j,Inv X a o j q/\RelV v u/\Q v j
def TP(X:Cx)(a:List (Addr×Obj))(o:St)(Q:Bool->Hp->Prop)(b:Bool)(q:yah):Prop:=∃j,Inv X a o j q/\Q b j
def AP(X:Cx)(a:List (Addr×Obj))(o:St)(Q:List V->Hp->Prop)(q:List yai)(s:yah):Prop:=∃vs j,Inv X a o j s/\Vals vs q/\Q vs j
def SP(X:Cx)(j:List (Addr×Obj))(D:Ends)(f:Flow)(q:yah):Prop:=
 match f with
 |.next=>∃a o,Inv X j a o q/\D.nx a o
 |.brk=>∃a o,Inv X j a o q/\D.bk a o
 |.cont=>∃a o,Inv X j a o q/\D.ct a o
 |.ret u=>∃v a o,Inv X j a o q/\RelV v u/\D.rt v o
def PE(X:Cx)(e:Expr)(t:TE):Prop:=
 ∀(a)(s)(j:St)(H)(Q),Inv X a j H s->t j H Q->yar (model X.prog X.w) X.A (eval e X.env) (EP X a j Q) X.xe s
def PT(X:Cx)(e:Expr)(t:TT):Prop:=
 ∀(a)(s)(j:St)(H)(Q),Inv X a j H s->t j H Q->yar (model X.prog X.w) X.A (isTrue e X.env (eval e X.env)) (TP X a j Q) X.xe s
def PW(X:Cx)(e:Expr)(t:TT):Prop:=
 ∀(j)(a)(s)(o:St)(H)(Q),Inv X a o H s->t o H Q->yar (model X.prog X.w) X.A (isTrue e X.env j) (TP X a o Q) X.xe s
def PW.pt(h:PW X e d):PT X e d:=h _
def PA(X:Cx)(es:List Expr)(t:TA):Prop:=
 ∀(o:Pos)(a:List (Addr×Obj))(s:yah)(j:St)(H:Hp)(Q:List V->Hp->Prop),Inv X a j H s->t j H Q->yar (model X.prog X.w) X.A (spliced (yau o (yao es X.env))) (AP X a j Q) X.xe s
def PS(X:Cx)(st:Stmt)(t:TS):Prop:=
 ∀(a)(s)(j:St)(H)(D),Inv X a j H s->t D j H->yar (model X.prog X.w) X.A (exec st X.env) (SP X a D) X.xe s
def z7(X:Cx)(st:List Stmt)(t:TS):Prop:=
 ∀(a)(s)(j:St)(H)(D),Inv X a j H s->t D j H->yar (model X.prog X.w) X.A (execs st X.env) (SP X a D) X.xe s
def cE{α:Type}{t:Sem α}{Q j:α->yah->Prop}(h:yar M A t Q E s)(o:∀a s,Q a s->j a s):yar M A t j E s:=yac h o λ_ _ x=>x
section
def Sk(i:Nat):TE:=λa H Q=>∃v,a[i]? =some (some v)/\Q v H
def tC(v:V):TE:=λ_ H Q=>Q v H
def P1(hN:X.N[i]? =some x)(F:Vz X.env.scope x)(hd:autoParam ((x==("__debug__":Str))=false) r1)(y:autoParam ((x==("__classdict__":Str))=false) r1):PE X (.Name x pos) (Sk i):=by
 intro q s E H Q I h;let⟨v,e,h⟩:=h;obtain⟨m,G,O⟩:=I.loc;let⟨u,r,l⟩:=O i x v hN e F;have o:EP X q E Q u s:=⟨v,H,I,r,h⟩
 rcases l with⟨j,L⟩|⟨j,c,C,a⟩
 ·exact wpAny_Name (wpAny_loadName_local I.ok.kind j G L o) hd
 ·obtain j|j:=j
  ·exact wpAny_Name (wpAny_loadName_cell I.ok.kind j C a o) hd
  ·exact wpAny_Name (wpAny_loadName_free I.ok.kind j C a o y) hd
def ai:PE X (.Constant (.int d) g k) (tC (.int d)):=λ_ _ _ H _ I h=>wpAny_Constant_int ⟨.int d,H,I.tok _,⟨_,rfl⟩,h⟩
def fj:PE X (.Constant (.bool d) g k) (tC (.bl d)):=λ_ _ _ H _ I h=>Constant_bool ⟨.bl d,H,I,rfl,h⟩
def l8:PE X (.Constant .none d g) (tC .bB):=λ_ _ _ H _ I h=>Constant_none ⟨.bB,H,I,rfl,h⟩
def aP:PE X (.Constant (.str d) g k) (tC (.str d)):=λ_ _ _ H _ I h=>Calls.Constant_str ⟨.str d,H,I.tok _,⟨_,rfl⟩,h⟩
def Gl(X:Cx)(x:Str):Prop:=X.env.kindOf x=some .globalImplicit
def kO(I:Inv X pins d H s)(o:Gl X x)(j:X.mg x=some u)(h:Q u s)(hd:autoParam ((x==("__debug__":Str))=false) r1):yar (model X.prog X.w) X.A (eval (.Name x pos) X.env) Q E s:=
 Calls.Name_function_global I.ok.kind o (Calls.loadGlobal_global (by rw[I.ok.glob];exact I.mod.glob.keeps I.bk) j h) hd
def gO(I:Inv X pins d H s)(v:Gl X x)(q:X.mg x=none)(j:bootBuiltins x=some u)(h:Q u s)(o:autoParam (x≠"__name__") r1)(hd:autoParam ((x==("__debug__":Str))=false) r1):yar (model X.prog X.w) X.A (eval (.Name x pos) X.env) Q E s:=by
 obtain⟨mb,h1,h2⟩:=I.mod.blt;exact Calls.Name_function_global I.ok.kind v (Calls.loadGlobal_builtin (by rw[I.ok.glob];exact I.mod.glob.keeps I.bk) q (by rw[I.ok.blt];exact h1.keeps I.bk) ((h2 x o).trans j) h) hd
def kH(j:Gl X x)(a:X.mg x=some u)(r:RelV v u)(hd:autoParam ((x==("__debug__":Str))=false) r1):PE X (.Name x pos) (tC v):=
 λ_ _ _ H _ I h=>kO I j a ⟨v,H,I,r,h⟩ hd
def KA(q:Gl X x)(o:X.mg x=none)(a:bootBuiltins x=some u)(r:RelV v u)(j:autoParam (x≠"__name__") r1)(hd:autoParam ((x==("__debug__":Str))=false) r1):PE X (.Name x pos) (tC v):=
 λ_ _ _ H _ I h=>gO I q o a ⟨v,H,I,r,h⟩ j hd
variable {a b:Expr}{ta tb:TE}
def tB(t:TE):TT:=λj H Q=>t j H λx o=>∃c,x=.bl c/\Q c o
variable {tA tB':TT}{rest:List Expr}
def Sz(t u:TT):TT:=λj H Q=>t j H λc o=>if c=true then u j o Q else Q false o
def WY(t u:TT):TT:=λj H Q=>t j H λc o=>if c=true then Q true o else u j o Q
def Sv(t:TT):TT:=λj H Q=>t j H λc o=>Q (!c) o
def pw_and1(q:PT X a tA):PW X (.BoolOp .And [a] pos) tA:=by
 intro u j s o H Q I h;refine isTrue_and (cE (q j s o H Q I h) λc v e=>?_);cases c with
 |true=>exact isTrue_and_nil e
 |false=>exact e
def pw_or1(q:PT X a tA):PW X (.BoolOp .Or [a] pos) tA:=by
 intro u j s o H Q I h;refine isTrue_or (cE (q j s o H Q I h) λc v e=>?_);cases c with
 |false=>exact isTrue_or_nil e
 |true=>exact e
def pw_and(F:PT X a tA)(E:PW X (.BoolOp .And (b::rest) pos) tB'):PW X (.BoolOp .And (a::b::rest) pos) (Sz tA tB'):=by
 intro y j s q H Q I h;refine isTrue_and (cE (F j s q H _ I h) λc C o=>?_);let⟨x,v,u⟩:=o;cases c with
 |true=>exact E y j C q x Q v u
 |false=>refine⟨x,v,u⟩
def pw_or(F:PT X a tA)(E:PW X (.BoolOp .Or (b::rest) pos) tB'):PW X (.BoolOp .Or (a::b::rest) pos) (WY tA tB'):=by
 intro y j s q H Q I h;refine isTrue_or (cE (F j s q H _ I h) λc C o=>?_);let⟨x,v,u⟩:=o;cases c with
 |true=>refine⟨x,v,u⟩
 |false=>exact E y j C q x Q v u
def iD(q:PT X a tA):PT X (.UnaryOp .Not a pos) (Sv tA):=by
 intro j s o H Q I h;exact isTrue_not (q j s o H (λc u=>Q (!c) u) I h)
def WZ(t:TT)(ta tb:TE):TE:=λj H Q=>t j H λc o=>if c=true then ta j o Q else tb j o Q
def pC(C:PT X c tA)(F:PE X a ta)(E:PE X b tb):PE X (.IfExp c a b pos) (WZ tA ta tb):=by
 intro j s o H Q I h;refine wpAny_IfExp (cE (C j s o H _ I h) λd u q=>?_);let⟨y,x,v⟩:=q;cases d with
 |true=>exact F j u o y Q x v
 |false=>exact E j u o y Q x v
end
def cW(K:yaJ)(H:Hp)(a:Addr)(q:List V):Prop:=
 Rd H a (.lst q)∨
  ∃(o:Obj)(j:Array yai)(n:Nat),K.lookup a=some o/\o.cls=.type "list"/\o.dict=none/\o.data=.seq j n/\j.size<=yag/\Vals q j.toList
def fR(K:yaJ)(H:Hp)(a:Addr)(q:List V):Prop:=
 Rd H a (.tup q)∨
  ∃(o:Obj)(j:Array yai)(n:Nat),K.lookup a=some o/\o.cls=.type "tuple"/\o.data=.seq j n/\j.size<=yag/\Vals q j.toList
noncomputable def WE:yai->Option V
 |.none=>some .bB
 |.bool b=>some (.bl b)
 |.int i _=>some (.int i)
 |.str x _=>some (.str x)
 |.bytes b _=>some (.ye b)
 |.float b _=>some (.QW b)
 |.ref a=>some (.ref a)
 |.type n=>some (.ty n)
 |_=>none
def RelV.abs(r:RelV d u):WE u=some d:=by
 cases d with
 |bB=>cases r;rfl
 |bl _=>cases r;rfl
 |int _=>let⟨t,rfl⟩:=r;rfl
 |str _=>let⟨t,rfl⟩:=r;rfl
 |ye _=>let⟨t,rfl⟩:=r;rfl
 |QW _=>let⟨t,rfl⟩:=r;rfl
 |ref _=>cases r;rfl
 |ty _=>cases r;rfl
theorem RelV.inj(r:RelV d u)(q:RelV y u):d=y:=zcD.inj (r.abs.symm.trans q.abs)
theorem Vals.inj:∀{j a:List V}{o:List yai},Vals j o->Vals a o->j=a:=by
 intro j a o h
 induction h generalizing a with
 |nil=>intro g;cases g;rfl
 |cons r t ih=>
  intro g;cases g with
  |cons r' t'=>rw[r.inj r',ih t']
section
variable {σ:St}{ys:List V}
def cW.of(h:H a=some (.lst xs)):cW K H a xs:=.inl (.inl h)
def fR.of(h:H a=some (.tup xs)):fR K H a xs:=.inl (.inl h)
def Inv.list(I:Inv X pins σ H s)(h:cW X.K H a xs):∃its:List yai,Vals xs its/\PlainL s.heap a its.toArray/\xs.length<=yag:=by
 obtain h|⟨o,its,n,j,q,hd,u,hz,r⟩:=h
 ·obtain⟨z,its,n,r,e⟩:=h.ok I.hok;refine⟨its,r,⟨_,n,e,rfl,rfl,rfl⟩,z⟩
 ·refine⟨its.toList,r,⟨o,n,I.lT a o j,q,hd,by simp_all⟩,?_⟩;have e:=r.length;simp_all
def Inv.tuple(I:Inv X pins σ H s)(h:fR X.K H a xs):∃its:List yai,Vals xs its/\IsTup s.heap a its.toArray/\xs.length<=yag:=by
 obtain h|⟨o,its,n,j,q,u,hz,r⟩:=h
 ·obtain⟨z,its,r,p⟩:=h.ok I.hok;refine⟨its,r,p,z⟩
 ·refine⟨its.toList,r,⟨o,I.lT a o j,q,n,by simp_all⟩,?_⟩;have e:=r.length;simp_all
def Inv.pS(I:Inv X pins σ H s)(h:cW X.K H a xs)(h':cW X.K H a ys):xs=ys:=by
 let⟨q,r,⟨o,n,e,_,_,d⟩,_⟩:=I.list h;let⟨j,u,⟨v,x,y,_,_,C⟩,_⟩:=I.list h';have:q=j:=by simp_all
 subst this;exact r.inj u
def Inv.Cy(I:Inv X pins σ H s)(h:fR X.K H a xs)(h':fR X.K H a ys):xs=ys:=by
 let⟨q,r,⟨o,e,_,n,d⟩,_⟩:=I.tuple h;let⟨j,u,⟨v,y,_,x,C⟩,_⟩:=I.tuple h';have:q=j:=by simp_all
 subst this;exact r.inj u
end
noncomputable abbrev Cx.qO(X:Cx)(E:yai->yah->Prop):Cx:={X with xe:=E}
noncomputable abbrev Cx.Gm(X:Cx):Cx:=X.qO λ_ _=>False
theorem Cx.Ok.qO(ok:X.Ok)(E):(X.qO E).Ok:=
 ⟨ok.mod,ok.kind,ok.glob,ok.blt,ok.above,ok.inj,ok.has,ok.U0,ok.hd,ok.frames,ok.stk,ok.Wt,ok.bs,ok.LO,ok.Gn,ok.Lh,ok.nE,ok.QV⟩
def Cx.Ok.iy(ok:(X.qO E).Ok):X.Ok:=
 ⟨ok.mod,ok.kind,ok.glob,ok.blt,ok.above,ok.inj,ok.has,ok.U0,ok.hd,ok.frames,ok.stk,ok.Wt,ok.bs,ok.LO,ok.Gn,ok.Lh,ok.nE,ok.QV⟩
section
variable {σ:St}
theorem Inv.qO(I:Inv X pins σ H s)(E):Inv (X.qO E) pins σ H s:=⟨I.ok.qO E,I.os,I.bare,I.base,I.loc,I.cell,I.free,I.g8,I.pin,I.hok,I.len⟩
theorem Inv.iy(I:Inv (X.qO E) pins σ H s):Inv X pins σ H s:=⟨I.ok.iy,I.os,I.bare,I.base,I.loc,I.cell,I.free,I.g8,I.pin,I.hok,I.len⟩
theorem SP.iy(h:SP (X.qO E) pins D d g):SP X pins D d g:=by
 cases d with
 |next=>let⟨a,j,I,q⟩:=h;refine⟨a,j,I.iy,q⟩
 |brk=>let⟨a,j,I,q⟩:=h;refine⟨a,j,I.iy,q⟩
 |cont=>let⟨a,j,I,q⟩:=h;refine⟨a,j,I.iy,q⟩
 |ret u=>let⟨v,a,j,I,r,q⟩:=h;refine⟨v,a,j,I.iy,r,q⟩
theorem z7.Gm(h:z7 X.Gm d g):z7 X d g:=λa s σ H D I hw=>
 yac (h a s σ H D (I.qO _) hw) (λ_ _ q=>q.iy) λ_ _ z=>False.elim z
end
section
variable {rest:List Stmt}{t u:TS}{te:TE}
def MN:TS:=λD a H=>D.nx a H
def So(t u:TS):TS:=λD a H=>t {D with nx:=u D} a H
def aN:z7 X [] MN:=λ_ _ a H _ I h=>yaG ⟨a,H,I,h⟩
def aa(h1:PS X st t)(h2:z7 X rest u):z7 X (st::rest) (So t u):=by
 intro a s o H D I h;refine yaH (cE (h1 a s o H {D with nx:=u D} I h) λf x q=>?_);cases f with
 |next=>
  let⟨j,C,y,q⟩:=q;exact h2 a x j C D y q
 |ret v=>exact q
 |brk=>exact q
 |cont=>exact q
def af(h1:PS X st t):z7 X [st] t:=by
 intro a s j H D I h;refine yaH (cE (h1 a s j H D I h) λf o q=>?_);cases f with
 |next=>exact yaG q
 |ret v=>exact q
 |brk=>exact q
 |cont=>exact q
def Inv.quiet(I:Inv X pins d H s):interactive X.env=false:=by simp[interactive,I.ok.kind]
def MR(te:TE):TS:=λD a H=>te a H λ_ j=>D.nx a j
def aK(C:PE X e te)(y:autoParam (yat e none pos.line X.env=pure false) r0):PS X (.Expr e pos) (MR te):=by
 intro a s o H D I h;refine wpAny_Expr_any (cE (C a s o H _ I h) λv G j=>?_) I.quiet y;let⟨x,F,E,L,q⟩:=j;refine⟨o,F,E,q⟩
def Ss(te:TE):TS:=λD a H=>te a H D.rt
def aJ(C:PE X e te):PS X (.Return (some e) pos) (Ss te):=by
 intro a s o H D I h;refine wpAny_Return_some (cE (C a s o H _ I h) λv G j=>?_);let⟨x,F,E,q,y⟩:=j;refine⟨x,o,F,E,q,y⟩
def Sx(c:TT)(t u:TS):TS:=λD a H=>c a H λb j=>if b=true then t D a j else u D a j
def bw(E:PT X c tc)(G:z7 X g t)(F:z7 X k u):PS X (.If c g k pos) (Sx tc t u):=by
 intro j s o H D I h;refine wpAny_If (cE (E j s o H _ I h) λd v q=>?_);let⟨C,y,x⟩:=q;cases d with
 |true=>exact G j v o C D y x
 |false=>exact F j v o C D y x
def OL:TS:=λ_ _ _=>False
def cF:PS X st OL:=λ_ _ _ _ _ _ h=>h.elim
end
abbrev TG:=V->St->Hp->(St->Hp->Prop)->Prop
abbrev Io:=List V->St->Hp->(St->Hp->Prop)->Prop
def PG(X:Cx)(a:Expr)(t:TG):Prop:=
 ∀(j)(s)(q:St)(H)(v)(u)(Q),Inv X j q H s->RelV v u->t v q H Q->
  yar (model X.prog X.w) X.A (assign a X.env u) (λ_ y=>∃o x,Inv X j o x y/\Q o x) X.xe s
def Oh(X:Cx)(ts:List Expr)(t:Io):Prop:=
 ∀(a:List (Addr×Obj))(s:yah)(o:St)(H:Hp)(vs:List V)(q:List yai)(Q:St->Hp->Prop),Inv X a o H s->Vals vs q->t vs o H Q->
  yar (model X.prog X.w) X.A (assignInOrder ((assignEach ts X.env).map (·.2)) q) (λ_ v=>∃j u,Inv X a j u v/\Q j u) X.xe s
abbrev VA:=V->V->Hp->VK->Prop
def Xh(X:Cx)(o:Operator)(t:VA):Prop:=
 ∀(a)(s)(j:St)(H)(x y)(v u)(Q),Inv X a j H s->RelV x v->RelV y u->t x y H Q->
  yar (model X.prog X.w) X.A (inplaceOp o v u) (EP X a j Q) X.xe s
def Bx(i:Nat):TG:=λv a H Q=>Q (a.set i (some v)) H
def aU(hN:X.N.Nodup)(o:X.N[i]? =some x)(j:Loc X.env.scope x)(q:X.fn x=true∨X.env.scope.names.lookup x=some .local:=by first|exact .inl rfl|exact .inr rfl|assumption):PG X (.Name x pos) (Bx i):=by
 intro a s C H v u Q I r h;exact wpAny_assign_Name (j9 I hN o j r (λE y=>⟨_,H,y,h⟩) q)
def Ur:Io:=λvs a H Q=>vs=[]/\Q a H
def NP(t:TG)(u:Io):Io:=λvs j H Q=>∃v r,vs=v::r/\t v j H λa o=>u r a o Q
def bY:Oh X [] Ur:=by
 intro a s j H vs o Q I r h;let⟨e,h⟩:=h;exact assignInOrder_nil ⟨j,H,I,h⟩
def aF(h1:PG X e g)(h2:Oh X d k)(y:autoParam ((assignEach (e::d) X.env).map (·.2)=assign e X.env::(assignEach d X.env).map (·.2)) r0):Oh X (e::d) (NP g k):=by
 intro a s o H vs L Q I r h;let⟨v,G,C,h⟩:=h;subst C;cases r with
 |cons r rr=>
  rw[y];refine assignInOrder_cons (cE (h1 a s o H _ _ _ I r h) λ_ q=>x2_1 λj F E x=>?_);exact h2 a q j F _ _ Q E rr x
def Uq(K:yaJ)(n:Nat)(t:Io):TG:=λv o H Q=>∃a j,v=.ref a/\fR K H a j/\j.length=n/\t j o H Q
def cR(S:X.calm=true)(h:Oh X d g)(O:autoParam ((assignEach d X.env).length=n) r0)(q:autoParam ((assignEach d X.env).findIdx? (·.1)=none) r0):PG X (.Tuple d k pos) (Uq X.K n g):=by
 intro j s x H v u Q I r hw;let⟨a,C,W,L,P,hw⟩:=hw;subst W;cases r;let⟨E,y,G,hz⟩:=I.tuple L;refine assign_Tuple_tuple (I.ok.hd S) G (by simp[O,<-P,y.length]) q λU F=>?_;have Y:Inv X j x H {s with heap:=U}:=I.kept λb o e=>F b o (zco (zcy e)) e;exact h j _ x H C _ Q Y (by simpa using y) hw
def JK(te:TE)(g:TG):TS:=λD a H=>te a H λx j=>g x a j D.nx
def o9(G:PE X e te)(F:PG X tg g)(E:autoParam (swapsWithSole [tg] e pos.line X.env=pure false) r0)(hw:autoParam (swappedStores [tg] e X.env=pure none) r0)(h1:autoParam ((assignEach [tg] X.env).map (·.2)=[assign tg X.env]) r0):PS X (.Assign [tg] e pos) (JK te g):=by
 intro a s o H D I h;refine wpAny_Assign_stores (cE (G a s o H _ I h) λv u j=>?_) E hw;let⟨x,O,L,y,C⟩:=j;rw[h1];exact cE (F a u o O x v _ L y C) λ_ P q=>q
def yQ(hN:X.N.Nodup)(F:X.N[i]? =some x)(C:Loc X.env.scope x)(L:PE X e te)(E:autoParam (yat e (some (.Name x pos')) pos.line X.env=pure false) r0)(G:X.fn x=true∨X.env.scope.names.lookup x=some .local:=by first|exact .inl rfl|exact .inr rfl|assumption):
  PS X (.Assign [.Name x pos'] e pos) (JK te (Bx i)):=by
 intro a s o H D I h;refine wpAny_Assign_Name (cE (L a s o H _ I h) λv U j=>?_) E;let⟨y,Q,P,q,u⟩:=j;exact j9 P hN F C q (λS O=>⟨_,Q,O,u⟩) G
def VI(i:Nat)(te:TE)(ti:VA):TS:=λD a H=>∃x,a[i]? =some (some x)/\te a H λy o=>ti x y o λz j=>D.nx (a.set i (some z)) j
def P0(hN:X.N.Nodup)(P:X.N[i]? =some x)(L:Loc X.env.scope x)(he:PE X e te)(Y:Xh X d ti)(hf:X.fn x=true∨X.env.scope.names.lookup x=some .local:=by first|exact .inl rfl|exact .inr rfl|assumption):
  PS X (.AugAssign (.Name x pos') d e pos) (VI i te ti):=by
 intro a s O H D I h;let⟨v,e1,h⟩:=h;let⟨m,Z,hl⟩:=I.loc;have F:Vz X.env.scope x:=by obtain k|k:=L;exact .inl k;exact .inr (.inl k)
 let⟨u,r,l⟩:=hl i x v P e1 F;refine wpAny_AugAssign_Name ?_;have go:yar (model X.prog X.w) X.A (eval e X.env) (λw E=>yar (model X.prog X.w) X.A (inplaceOp d u w) (λr C=>yar (model X.prog X.w) X.A (storeName X.env x r) (λ_=>SP X a D .next) X.xe C) X.xe E) X.xe s:=by
  refine cE (he a s O H _ I h) λw Q o=>?_;let⟨y,H1,I1,U,W⟩:=o;refine cE (Y a Q O H1 v y u w _ I1 r U W) λz s2 o=>?_;let⟨zv,H2,I2,S,q2⟩:=o;exact j9 I2 hN P L S (λs3 I3=>⟨_,H2,I3,q2⟩) hf
 rcases l with⟨j,hm⟩|⟨j,c,hc,q⟩
 ·exact wpAny_loadName_local I.ok.kind j Z hm go
 ·obtain j|j:=j
  ·exact wpAny_loadName_cell I.ok.kind j hc q go
  ·obtain k|k:=L
   ·have:X.env.scope.names.lookup x=some .free:=j;rw[k] at this;cases this
   ·have:X.env.scope.names.lookup x=some .free:=j;rw[k] at this;cases this
def ipI(f:Int->Int->Int):VA:=λx y H Q=>∃i j,x=.int i/\y=.int j/\Q (.int (f i j)) H
def QM:Xh X .Add (ipI λi j=>i+j):=by
 intro a s G H x y v u Q I C o h;let⟨i,j,F,E,q⟩:=h;subst F;subst E;let⟨t,rfl⟩:=C;let⟨L,rfl⟩:=o;exact iadd_int ⟨.int _,H,I.tok _,⟨_,rfl⟩,q⟩
structure It where
 go:Nat->Hp->Prop
 JB:Nat->Hp->V->Hp->Prop
 stop:Nat->Hp->Prop
def nI(X:Cx)(a:List (Addr×Obj))(H:Hp)(b:Addr):Prop:=
 H b=none/\b≠X.env.locals/\b ∉ X.fs/\(b∈X.ex∨X.s₀.heap.objs.size<=b)/\(∀x c,X.env.cells.lookup x=some c->c≠b)/\∀p∈X.pn++a,p.1≠b
def Inv.zA(I:Inv X pins d H s)(a:s.heap.objs.size<=g)(u:H' g=none):nI X pins H' g:=by
 refine⟨u,zcr (zaU I.lt a),I.TU a,.inr (zcp I.sz a),λx c e z=>?_,λp o z=>?_⟩
 ·let⟨v,q⟩:=I.cell x c e;exact absurd (zaU q.lt (by simp_all)) (zch _)
 ·exact absurd (zaU (zcy (I.pin p o).1) (by simp_all)) (zch _)
structure Turn(P:yaj)(w:yak)(K:yaJ)(tg:Expr)(J:It)(fp:List Addr)(it:Addr)(tn:Nat->Heap->Prop):Prop where
 mem:it∈fp
 obj:∀i h,tn i h->∀b∈fp,∃o,h.get? b=some o/\∀v,o.data≠ .cell v
 keep:∀i h h',tn i h->(∀b∈fp,∀o,h.get? b=some o->h'.get? b=some o)->tn i h'
 item:∀(X:Cx),X.prog=P->X.w=w->X.K=K->X.calm=true->∀(i:Nat)(pins:List (Addr×Obj))(s:yah)(σ:St)(H:Hp)(E:yai->yah->Prop),Inv X pins σ H s->(∀b∈fp,nI X pins H b)->tn i s.heap->J.go i H->
  yar (model P w) X.A (pyNext (.ref it)) (λr s1=>∃u,r=some u/\yar (model P w) X.A (letOwnedTupleGo tg (.ref it) u) (λ_ s2=>∃x H',Inv X pins σ H' s2/\RelV x u/\J.JB i H x H'/\tn (i+1) s2.heap/\∀b∈fp,H' b=none) E s1) E s
 done:∀(X:Cx),X.prog=P->X.w=w->X.K=K->X.calm=true->∀(i:Nat)(pins:List (Addr×Obj))(s:yah)(σ:St)(H:Hp)(E:yai->yah->Prop),Inv X pins σ H s->(∀b∈fp,nI X pins H b)->tn i s.heap->J.stop i H->
  yar (model P w) X.A (pyNext (.ref it)) (λr s1=>r=none/\Inv X pins σ H s1) E s
 self:∀(A:yal)(i:Nat)(s:yah)(Q:yai->yah->Prop)(E:yai->yah->Prop),tn i s.heap->Q (.ref it) s->yar (model P w) A (pyIter (.ref it)) Q E s
abbrev TI:=St->Hp->(It->Hp->Prop)->Prop
def Xi(X:Cx)(a:List (Addr×Obj))(u:St)(v:Expr)(R:It->Hp->Prop)(j:yai)(q:yah):Prop:=
 ∃(it:Addr)(s:List Addr)(tn:Nat->Heap->Prop)(J:It)(o:Hp),j=.ref it/\Inv X a u o q/\Turn X.prog X.w X.K v J s it tn/\tn 0 q.heap/\(∀b∈s,nI X a o b)/\R J o
def PI(X:Cx)(u j:Expr)(q:TI):Prop:=
 ∀(a)(s)(o:St)(H)(R),Inv X a o H s->q o H R->
  yar (model X.prog X.w) X.A (eval j X.env) (λv x=>yar (model X.prog X.w) X.A (pyIter v) (Xi X a o u R) X.xe x) X.xe s
def wV(j:s.heap.get? it=some o)(q:o.cls=.type d)(hd:o.data=.fields vs)(v:["enumerate","zip","dict_itemiterator","dict_reverseitemiterator","odict_iterator","itertools.zip_longest","itertools.pairwise"].contains d=false)(a:g () s):yar M A (letOwnedTupleGo tg (.ref it) u) g E s:=by
 cases tg<;>first
  |exact yab a
  |(cases u<;>first|exact yab a|(refine yaa (wpAny_load j ?_);rw[q,hd];show yar M A (if(["enumerate","zip","dict_itemiterator","dict_reverseitemiterator","odict_iterator","itertools.zip_longest","itertools.pairwise"].contains d&&vs[0]? ==some (rawInt _))=true then _ else _) g E s;rw[yIn (by lia)];exact yab a))
noncomputable def VD(K:yaJ)(a:Addr):It:=
 ⟨λi H=>∃j x,cW K H a j/\j[i]? =some x,λi H x o=>o=H/\∀j,cW K H a j->j[i]? =some x,λi H=>∃j,cW K H a j/\j.length<=i⟩
noncomputable def Xn(K:yaJ)(a:Addr):It:=
 ⟨λi H=>∃j x,fR K H a j/\j[i]? =some x,λi H x o=>o=H/\∀j,fR K H a j->j[i]? =some x,λi H=>∃j,fR K H a j/\j.length<=i⟩
noncomputable def Itr(lo:Int)(n:Nat):It:=⟨λi _=>i<n,λi H x a=>a=H/\x=.int (lo+i),λi _=>n<=i⟩
def Cu(a it):Turn P w K tg (VD K a) [it] it (λi h=>h.IsListIter it a i) where
 mem:=by simp
 obj:=λi h st b q=>by
  have e  :=by simpa using q
  subst e;let⟨o,e,c,d⟩:=st;refine⟨o,e,λv z=>by simp_all⟩
 keep:=λi h W st k=>st.at λo e=>k it (by simp) o e
 item:=by
  intro X S hw U hc i j s σ H E I F st Q;subst S hw U;let⟨xs,x,C,O⟩:=Q;let⟨L,G,p,hz⟩:=I.list C;let⟨u,hu,ru⟩:=G.get O;let⟨f0,f1,f2,f3,Z,Y⟩:=F it (by simp);refine wpAny_pyNext_list_item st p.isList (x:=u) (by simp_all) λW y sb=>?_;have I1:Inv X j σ H {s with heap:=W}:=I.turned (λb o q e=>(sb.2 b q).trans e) f0 f1 f3 Z Y;let⟨o,e,c,d⟩:=id y;refine⟨u,rfl,wV e c d (by decide) ⟨x,H,I1,ru,⟨rfl,λys hy=>by rw[I.pS hy C];exact O⟩,y,λb q=>(F b q).1⟩⟩
 done:=by
  intro X S hw U hc i j s σ H E I F st Q;subst S hw U;let⟨xs,C,O⟩:=Q;let⟨L,G,p,hz⟩:=I.list C;let⟨f0,f1,f2,f3,Z,Y⟩:=F it (by simp);have hl:=G.length;exact wpAny_pyNext_list_end (I.ok.hd hc) st p.isList (by simp;simp_all) λW eb=>⟨rfl,I.turned (λb o q e=>eb b o q e) f0 f1 f3 Z Y⟩
 self:=λ_ _ _ _ _ st h=>wpAny_pyIter_listiter st h
def yo(a it):Turn P w K tg (Xn K a) [it] it (λi h=>h.IsTupleIter it a i) where
 mem:=by simp
 obj:=λi h st b y=>by
  have e  :=by simpa using y
  subst e;let⟨o,e,c,d⟩:=st;refine⟨o,e,λv z=>by simp_all⟩
 keep:=λi h W st k=>st.at λo e=>k it (by simp) o e
 item:=by
  intro X S hw U hc i j s σ H E I G st Q;subst S hw U;let⟨xs,x,F,O⟩:=Q;let⟨q,L,p,hz⟩:=I.tuple F;let⟨u,hu,ru⟩:=L.get O;let⟨f0,f1,f2,f3,Z,Y⟩:=G it (by simp);refine wpAny_pyNext_tuple_item st (show s.heap.IsTuple a q.toArray from p) (x:=u) (by simp_all) λW C sb=>?_;have I1:Inv X j σ H {s with heap:=W}:=I.turned (λb o y e=>(sb.2 b y).trans e) f0 f1 f3 Z Y;let⟨o,e,c,d⟩:=id C;refine⟨u,rfl,wV e c d (by decide) ⟨x,H,I1,ru,⟨rfl,λys hy=>by rw[I.Cy hy F];exact O⟩,C,λb y=>(G b y).1⟩⟩
 done:=by
  intro X S hw U hc i j s σ H E I G st Q;subst S hw U;let⟨xs,F,O⟩:=Q;let⟨q,L,p,hz⟩:=I.tuple F;let⟨f0,f1,f2,f3,Z,Y⟩:=G it (by simp);have hl:=L.length;exact wpAny_pyNext_tuple_end (I.ok.hd hc) st (show s.heap.IsTuple a q.toArray from p) (by simp;simp_all) λW eb=>⟨rfl,I.turned (λb o y e=>eb b o y e) f0 f1 f3 Z Y⟩
 self:=λ_ _ _ _ _ st h=>wpAny_pyIter_tupleiter st h
def yp(it)(lo)(n):Turn P w K tg (Itr lo n) [it] it (λi h=>IsRangeIter h it (lo+(i:Nat)*1) ((n:Int) - (i:Nat)) 1) where
 mem:=by simp
 obj:=λi h st b j=>by
  have e  :=by simpa using j
  subst e;refine⟨_,st,λv z=>by
   simp_all⟩
 keep:=λi h C st k=>k it (by simp) _ st
 item:=by
  intro X U hw Y y i a s S H E I u st x;subst U hw Y;let⟨Q,O,f2,L,G,F⟩:=u it (by simp);have W:=Walks.range (prog:=X.prog) (w:=X.w) (I.ok.hd y) it lo 1 n;refine W.item i s _ _ x st λv C tk Z q kk=>?_;let⟨t,rfl⟩:=Z;have I1:Inv X a S H {s with heap:=C,toks:=tk}:=I.turned (λb o j e=>kk b o (by simp_all) e) Q O L G F;refine⟨_,rfl,wV q rfl rfl (by decide) ⟨.int (lo+i),H,I1,⟨t,?_⟩,⟨rfl,rfl⟩,q,λb j=>(u b j).1⟩⟩;simp
 done:=by
  intro X U hw Y y i a s S H E I u st x;let⟨Q,O,f2,L,G,F⟩:=u it (by simp);exact wpAny_pyNext_range_end (I.ok.hd y) st (by have:n<=i:=x;lia) λC eb=>⟨rfl,I.turned (λb o j e=>eb b o j e) Q O L G F⟩
 self:=λ_ _ _ _ _ st h=>wpAny_pyIter_rangeiter st h
noncomputable def pB(a:List Addr)(h:Heap):List (Addr×Obj):=a.filterMap λb=>(h.get? b).map λo=>(b,o)
def gM(a:d∈fp)(e:h.get? d=some o):(d,o)∈pB fp h:=List.mem_filterMap.mpr ⟨d,a,by rw[e];rfl⟩
def CS(a:d∈pB fp h):d.1∈fp/\h.get? d.1=some d.2:=by
 let⟨b,j,e⟩:=List.mem_filterMap.mp a;cases q:h.get? b with
 |none=>simp_all
 |some o=>
  grind
def Inv.pinned(I:Inv X pins g H s)(y:∀b∈fp,nI X pins H b)(x:∀b∈fp,∃o,s.heap.get? b=some o/\∀v,o.data≠ .cell v):Inv X (pins++pB fp s.heap) g H s:=
 I.kE λp u=>(zbE.mp u).elim (λz=>I.pin p (zax _ z)) λz=>by
  let⟨j,e⟩:=CS z;let⟨F,E,C,_⟩:=y p.1 j;let⟨o,q,d⟩:=x p.1 j;rw[e] at q;cases q;refine⟨e,F,E,C,d⟩
def Inv.iz(I:Inv X (pins++pl) d H s):Inv X pins d H s:=I.kE λp j=>I.pin p (zax _ (zaD _ j))
abbrev R2:=V->V->Hp->VK->Prop
def iw(X:Cx)(f:yai->yai->Sem yai)(r:R2):Prop:=
 ∀(a)(s)(j:St)(H)(x y)(v u)(Q),Inv X a j H s->RelV x v->RelV y u->r x y H Q->
  yar (model X.prog X.w) X.A (f v u) (EP X a j Q) X.xe s
def Sb(X:Cx)(f:yai->Sem yai)(r:V->Hp->VK->Prop):Prop:=
 ∀(a)(s)(j:St)(H)(x)(v)(Q),Inv X a j H s->RelV x v->r x H Q->
  yar (model X.prog X.w) X.A (f v) (EP X a j Q) X.xe s
def cJ(X:Cx)(f:yai)(r:List V->Hp->VK->Prop):Prop:=
 ∀(a)(s)(j:St)(H)(o)(q)(Q),Inv X a j H s->Vals o q->r o H Q->
  yar (model X.prog X.w) X.A (call f q) (EP X a j Q) X.xe s
def WJ(X:Cx)(r:V->Hp->(Bool->Hp->Prop)->Prop):Prop:=
 ∀(a)(s)(j:St)(H)(x)(v)(Q),Inv X a j H s->RelV x v->r x H Q->
  yar (model X.prog X.w) X.A (truthy v) (TP X a j Q) X.xe s
def Su(r:R2)(j tb:TE):TE:=λa H Q=>j a H λx q=>tb a q λy o=>r x y o Q
def WW(r:V->Hp->VK->Prop)(j:TE):TE:=λa H Q=>j a H λx o=>r x o Q
def rI(C:Int->Int->Prop)(g:Int->Int->V):R2:=λx y H Q=>∃i j,x=.int i/\y=.int j/\C i j/\Q (g i j) H
def Kq(g:Int->Int->V):R2:=λx y H Q=>∃i j,x=.int i/\y=.int j/\Q (g i j) H
def rU(g:Int->V):V->Hp->VK->Prop:=λx H Q=>∃i,x=.int i/\Q (g i) H
section
variable {a b:Expr}{ta tb tc:TE}
def Ru(W:PE X a ta)(U:PE X b tb){R:V->V->Hp->Prop}(I:Inv X pins d H s)(h:ta d H λx F=>tb d F λy o=>R x y o){f:yai->yai->Sem yai}(S:∀v u E x y o,Inv X pins d o E->RelV x v->RelV y u->R x y o->yar (model X.prog X.w) X.A (f v u) Q X.xe E):
  yar (model X.prog X.w) X.A (eval a X.env) (λv C=>yar (model X.prog X.w) X.A (eval b X.env) (λu q=>yar (model X.prog X.w) X.A (f v u) Q X.xe q) X.xe C) X.xe s:=by
 refine cE (W pins s d H _ I h) λv G=>x2_2 λx F Z O P=>?_;refine cE (U pins G d F _ Z P) λu E=>x2_2 λy o Y L q2=>?_;exact S v u E x y o Y O L q2
def ao(L:iw X (binaryOp d) r)(P:PE X a ta)(O:PE X b tb):PE X (.BinOp a d b pos) (Su r ta tb):=by
 intro j s C H Q I h;exact wpAny_BinOp (Ru P O I h λv u E x y U S G F q=>L j E C U x y v u Q S G F q)
def F5(F:Sb X (unaryOp d) r)(G:PE X a ta):PE X (.UnaryOp d a pos) (WW r ta):=by
 intro j s q H Q I h;refine UnaryOp_ (cE (G j s q H _ I h) λv y o=>?_);let⟨x,O,L,C,E⟩:=o;exact F j y q O x v Q L C E
def R7{g:Int->Int->Int}(o:∀(i j)(t u)(s)(Q)(E),k i j->Q (.int (g i j) s.toks) {s with toks:=s.toks+1}->yar (model X.prog X.w) X.A (d (.int i t) (.int j u)) Q E s):
  iw X d (rI k λi j=>.int (g i j)):=by
 intro F s S H x y v u Q I O L h;let⟨i,j,rfl,rfl,P,q⟩:=h;let⟨t,rfl⟩:=O;let⟨G,rfl⟩:=L;exact o i j t G s _ _ P ⟨.int (g i j),H,I.tok _,⟨_,rfl⟩,q⟩
def KH{g:Int->Int->Int}(o:∀(i j)(t u)(s)(Q)(E),Q (.int (g i j) s.toks) {s with toks:=s.toks+1}->yar (model X.prog X.w) X.A (d (.int i t) (.int j u)) Q E s):
  iw X d (Kq λi j=>.int (g i j)):=by
 intro C s O H x y v u Q I L G h;let⟨i,j,rfl,rfl,q⟩:=h;let⟨t,rfl⟩:=L;let⟨F,rfl⟩:=G;exact o i j t F s _ _ ⟨.int (g i j),H,I.tok _,⟨_,rfl⟩,q⟩
def TJ{g:Int->Int->Bool}(o:∀(i j)(t u)(s)(Q)(E),Q (.bool (g i j)) s->yar (model X.prog X.w) X.A (d (.int i t) (.int j u)) Q E s):
  iw X d (Kq λi j=>.bl (g i j)):=by
 intro C s O H x y v u Q I L G h;let⟨i,j,rfl,rfl,q⟩:=h;let⟨t,rfl⟩:=L;let⟨F,rfl⟩:=G;exact o i j t F s _ _ ⟨.bl (g i j),H,I,rfl,q⟩
def R3(i j:Int):Prop:=0<j/\j<1073741824
def MI(i j:Int):Prop:=0<=j/\j<=1000000/\i.natAbs<2 ^ 64
def DQ(i j:Int):Prop:=(-(2 ^ 64)<i/\i<2 ^ 64)∨(-(2 ^ 64)<j/\j<2 ^ 64)
def DQ.ok(h:DQ d g):IntMulOk d g:=by
 rcases h with⟨h1,h2⟩|⟨h1,h2⟩
 ·exact .of_left (intBits_le_64 h1 h2)
 ·exact .of_right (intBits_le_64 h1 h2)
def ym(k):(0:Int)<=2 ^ k:=by
 exact Int.natCast_nonneg _
def Qn:iw X (binaryOp .Add) (Kq λi j=>.int (i+j)):=KH λ_ _ _ _ _ _ _ q=>add_int q
def P7:iw X (binaryOp .Sub) (Kq λi j=>.int (i - j)):=KH λ_ _ _ _ _ _ _ q=>sub_int q
def Qg:iw X (binaryOp .Mult) (rI DQ λi j=>.int (i*j)):=R7 λ_ _ _ _ _ _ _ o q=>mul_int q o.ok
def KD:iw X (binaryOp .FloorDiv) (rI R3 λi j=>.int (i / j)):=R7 λi j _ _ _ _ _ o q=>by
 have h1  :=o.1;have h2  :=o.2;exact floordiv_int (by lia) (by rw[Int.fdiv_eq_ediv_of_nonneg i (by lia)];exact q) (.inl (PyProof.noPylong_small (by omega)))
def Qh:iw X (binaryOp .Mod) (rI (λ_ j=>0<j) λi j=>.int (i % j)):=R7 λi j _ _ _ _ _ o q=>by
 exact mod_int' (by lia) (by rw[Int.fmod_eq_emod_of_nonneg i (by lia)];exact q)
def Qe:iw X (binaryOp .Pow) (rI MI λi j=>.int (i ^ j.toNat)):=R7 λ_ _ _ _ _ _ _ o q=>pow_int_small o.1 o.2.1 o.2.2 q
def P9:iw X (binaryOp .LShift) (rI MI λi j=>.int (i*2 ^ j.toNat)):=R7 λ_ _ _ _ _ _ _ o q=>lshift_int_small o.1 o.2.1 o.2.2 q
def P8:iw X (binaryOp .RShift) (rI (λ_ j=>0<=j) λi j=>.int (i / 2 ^ j.toNat)):=R7 λi j _ _ _ _ _ o q=>
 rshift_int o (by rw[Int.fdiv_eq_ediv_of_nonneg i (ym _)];exact q)
def Qm:iw X (binaryOp .BitAnd) (Kq λi j=>.int (Builtin.bitAnd i j)):=KH λ_ _ _ _ _ _ _ q=>and_int q
def Tv:iw X (binaryOp .BitOr) (Kq λi j=>.int (Builtin.bitOr i j)):=KH λ_ _ _ _ _ _ _ q=>or_int q
def unI{g:Int->Int}(j:∀(i:Int)(t:Tok)(s:yah)(Q:yai->yah->Prop)(E:yai->yah->Prop),Q (.int (g i) s.toks) {s with toks:=s.toks+1}->yar (model X.prog X.w) X.A (d (.int i t)) Q E s):
  Sb X d (rU λi=>.int (g i)):=by
 intro o s y H x v Q I u h;let⟨i,rfl,q⟩:=h;let⟨t,rfl⟩:=u;exact j i t s _ _ ⟨.int (g i),H,I.tok _,⟨_,rfl⟩,q⟩
def OC:Sb X (unaryOp .Invert) (rU λi=>.int (Builtin.bitNot i)):=unI λ_ _ _ _ _ q=>invert_int q
end
noncomputable def SH:V->V->Bool
 |.bB,.bB=>true|.bB,.int _=>true|.int _,.bB=>true|.bB,.bl _=>true|.bl _,.bB=>true|.bB,.str _=>true|.str _,.bB=>true
 |.int _,.int _=>true|.bl _,.bl _=>true|.str _,.str _=>true|.ye _,.ye _=>true
 |.int _,.str _=>true|.str _,.int _=>true|.bl _,.str _=>true|.str _,.bl _=>true
 |_,_=>false
def rEq:R2:=λx y H Q=>SH x y=true/\Q (.bl (decide (x=y))) H
def rNe:R2:=λx y H Q=>SH x y=true/\Q (.bl (!decide (x=y))) H
def BO:decide (V.int d=V.int g)=(d==g):=by
 rw[zbQ];simp
def Hy:decide (V.bl d=V.bl g)=(d==g):=by
 rw[zbQ];simp
def BN:decide (V.str d=V.str g)=(d==g):=by
 rw[zbQ];simp
def BP:decide (V.ye d=V.ye g)=(d.toList==g.toList):=by
 rw[zbQ];simp
section
variable {a b:Expr}{ta tb tc:TE}
def bu(I:Inv X pins d H s)(q:g (.bl k) H)(e:k=r):EP X pins d g (.bool r) s:=by
 subst e;refine⟨.bl k,H,I,rfl,q⟩
def TH:iw X (yan .Eq) rEq:=by
 intro G s L H x y v u Q I F o h;let⟨E,q⟩:=h;cases x with
 |bB=>
  cases F;cases y with
  |bB=>cases o;exact PySem.EqNone.eq_none_none (bu I q (by simp))
  |bl j=>cases o;exact PySem.EqNone.eq_none_bool (bu I q (by simp))
  |int j=>let⟨C,rfl⟩:=o;exact PySem.EqNone.eq_none_int (bu I q (by simp))
  |str j=>let⟨C,rfl⟩:=o;exact PySem.EqNone.eq_none_str (bu I q (by simp))
  |_=>exact absurd (show false=true from E) zaW
 |bl i=>
  cases F;cases y with
  |bB=>cases o;exact PySem.EqNone.eq_bool_none (bu I q (by simp))
  |bl j=>cases o;exact eq_bool (bu I q Hy)
  |str j=>let⟨C,rfl⟩:=o;exact PySem.EqMixed.eq_bool_str (bu I q (by simp))
  |_=>exact absurd (show false=true from E) zaW
 |int i=>
  let⟨t,rfl⟩:=F;cases y with
  |bB=>cases o;exact PySem.EqNone.eq_int_none (bu I q (by simp))
  |int j=>let⟨C,rfl⟩:=o;exact eq_int (bu I q BO)
  |str j=>let⟨C,rfl⟩:=o;exact PySem.EqMixed.eq_int_str (bu I q (by simp))
  |_=>exact absurd (show false=true from E) zaW
 |str i=>
  let⟨t,rfl⟩:=F;cases y with
  |bB=>cases o;exact PySem.EqNone.eq_str_none (bu I q (by simp))
  |bl j=>cases o;exact PySem.EqMixed.eq_str_bool (bu I q (by simp))
  |int j=>let⟨C,rfl⟩:=o;exact PySem.EqMixed.eq_str_int (bu I q (by simp))
  |str j=>let⟨C,rfl⟩:=o;exact eq_str (bu I q BN)
  |_=>exact absurd (show false=true from E) zaW
 |ye i=>
  let⟨t,rfl⟩:=F;cases y with
  |ye j=>let⟨C,rfl⟩:=o;exact PySem.W.eq_bytes (bu I q BP)
  |_=>exact absurd (show false=true from E) zaW
 |_=>cases y<;>exact absurd (show false=true from E) zaW
def Tw:iw X (yan .NotEq) rNe:=by
 intro G s L H x y v u Q I F o h;let⟨E,q⟩:=h;cases x with
 |bB=>
  cases F;cases y with
  |bB=>cases o;exact PySem.EqNone.ne_none_none (bu I q (by simp))
  |bl j=>cases o;exact PySem.EqNone.ne_none_bool (bu I q (by simp))
  |int j=>let⟨C,rfl⟩:=o;exact PySem.EqNone.ne_none_int (bu I q (by simp))
  |str j=>let⟨C,rfl⟩:=o;exact PySem.EqNone.ne_none_str (bu I q (by simp))
  |_=>exact absurd (show false=true from E) zaW
 |bl i=>
  cases F;cases y with
  |bB=>cases o;exact PySem.EqNone.ne_bool_none (bu I q (by simp))
  |bl j=>cases o;exact ne_bool (bu I q (congrArg not Hy))
  |str j=>let⟨C,rfl⟩:=o;exact PySem.EqMixed.ne_bool_str (bu I q (by simp))
  |_=>exact absurd (show false=true from E) zaW
 |int i=>
  let⟨t,rfl⟩:=F;cases y with
  |bB=>cases o;exact PySem.EqNone.ne_int_none (bu I q (by simp))
  |int j=>let⟨C,rfl⟩:=o;exact ne_int (bu I q (congrArg not BO))
  |str j=>let⟨C,rfl⟩:=o;exact PySem.EqMixed.ne_int_str (bu I q (by simp))
  |_=>exact absurd (show false=true from E) zaW
 |str i=>
  let⟨t,rfl⟩:=F;cases y with
  |bB=>cases o;exact PySem.EqNone.ne_str_none (bu I q (by simp))
  |bl j=>cases o;exact PySem.EqMixed.ne_str_bool (bu I q (by simp))
  |int j=>let⟨C,rfl⟩:=o;exact PySem.EqMixed.ne_str_int (bu I q (by simp))
  |str j=>let⟨C,rfl⟩:=o;exact ne_str (bu I q (congrArg not BN))
  |_=>exact absurd (show false=true from E) zaW
 |ye i=>
  let⟨t,rfl⟩:=F;cases y with
  |ye j=>let⟨C,rfl⟩:=o;exact PySem.W.ne_bytes (bu I q (congrArg not BP))
  |_=>exact absurd (show false=true from E) zaW
 |_=>cases y<;>exact absurd (show false=true from E) zaW
def Tz:iw X (yan .Lt) (Kq λi j=>.bl (decide (i<j))):=TJ λ_ _ _ _ _ _ _ q=>lt_int q
def TF:iw X (yan .GtE) (Kq λi j=>.bl (decide (j<=i))):=TJ λ_ _ _ _ _ _ _ q=>ge_int q
def CQ:iw X (yan .Lt) (λx y H Q=>∃i j,x=.str i/\y=.str j/\Q (.bl (decide (i.cps.toList<j.cps.toList))) H):=by
 intro o s F H x y v u Q I E C h;let⟨i,j,rfl,rfl,q⟩:=h;let⟨t,rfl⟩:=E;let⟨G,rfl⟩:=C;exact lt_str (bu I q rfl)
def aT(b)(h:autoParam (d≠ .In) r1)(h2:autoParam (d≠ .NotIn) r1):behindInMarks d b=false:=by
 have q:(d==CmpOp.In)=false:=by simp_all
 have o:(d==CmpOp.NotIn)=false:=by simp_all
 cases b<;>simp[behindInMarks,q,o]
def eS(L:iw X (yan d) r)(S:PE X a ta)(P:PE X b tb)(O:behindInMarks d b=false):PE X (.Compare a [d] [b] pos) (Su r ta tb):=by
 intro j s C H Q I h;exact wpAny_Compare1 (Ru S P I h λv u E x y W U G F q=>L j E C W x y v u Q U G F q) O
def Sn(t:TE):TT:=λj H Q=>t j H λx o=>∃k,x=.bl k/\Q k o
def aD(W:iw X (yan F) r)(ha:PE X a ta)(Z:PE X b tb)(Y:behindInMarks F b=false):PT X (.Compare a [F] [b] pos) (Sn (Su r ta tb)):=by
 intro j s o H Q I h;refine wpAny_isTrue_Compare1 (cE (ha j s o H _ I h) λv L E=>?_) Y;let⟨x,H1,I1,S,U⟩:=E;refine cE (Z j L o H1 _ I1 U) λu G C=>?_;let⟨y,H2,I2,P,q2⟩:=C;refine cE (W j G o H2 x y v u _ I2 S P q2) λc s3 q=>?_;obtain⟨z,H3,I3,O,k,e,q3⟩:=q;subst e;cases O;exact wpAny_truthy_bool ⟨H3,I3,q3⟩
def Im(K:yaJ)(x:V)(H:Hp)(k:Bool):Prop:=
 match x with
 |.bB=>k=false
 |.bl b=>k=b
 |.int i=>k=(i != 0)
 |.str y=>y.length<=yag/\k=((y.length:Int) != 0)
 |.ye y=>y.size<=yag/\k=((y.size:Int) != 0)
 |.ref p=>(∃j,cW K H p j/\k= !j.isEmpty)∨(∃j,fR K H p j/\k= !j.isEmpty)∨∃o,H p=some (.dK o)/\k= !o.isEmpty
 |_=>False
def zq{o:Type}{j:List (o×V)}{vs:List (o×yai)}(r:KV j vs):(!vs.isEmpty)= !j.isEmpty:=by
 cases r<;>rfl
def pY(r:Vals xs d):(!d.toArray.isEmpty)= !xs.isEmpty:=by
 cases r<;>simp
def zj:(yag:Nat)<2 ^ 63:=by decide
def OG:WJ X (λx H Q=>∃k,Im X.K x H k/\Q k H):=by
 intro G s U H x v Q I u h;let⟨k,e,q⟩:=h;have hs  :=yaf;cases x with
 |bB=>
  cases u;have j  :=e;subst j;exact truthy_none ⟨H,I,q⟩
 |bl b=>
  cases u;have j  :=e;subst j;exact wpAny_truthy_bool ⟨H,I,q⟩
 |int i=>
  let⟨t,rfl⟩:=u;have j  :=e;subst j;exact PySem.P.truthy_int ⟨H,I,q⟩
 |str y=>
  let⟨t,rfl⟩:=u;obtain⟨O,j⟩:y.length<=yag/\k=((y.length:Int) != 0):=e;subst j;exact PySem.P.truthy_str (by lia) ⟨H,I.tok _,q⟩
 |ye y=>
  let⟨t,rfl⟩:=u;obtain⟨O,j⟩:y.size<=yag/\k=((y.size:Int) != 0):=e;subst j;exact PySem.W.truthy_bytes (by lia) ⟨H,I.tok _,q⟩
 |ref p=>
  cases u;have j  :=e;rcases j with⟨L,E,j⟩|⟨L,E,j⟩|⟨C,E,j⟩
  ·subst j;let⟨F,r,pl,hz⟩:=I.list E;have o:=r.length;exact wpAny_truthy_list pl.isList (by simp only[zba];lia) ⟨H,I.tok _,by rw[pY r];exact q⟩
  ·subst j;let⟨F,r,pl,hz⟩:=I.tuple E;have o:=r.length;exact truthy_tuple pl (by simp only[zba];lia) ⟨H,I.tok _,by rw[pY r];exact q⟩
  ·subst j;obtain⟨hz,S,vs,r,m⟩:C.length<=yag/\(p==yas)=false/\∃vs,KV C vs/\s.heap.DictOf (bJ X.prog X.w) p vs:=I.hok p _ E;have o  :=Paired.length r;exact wpAny_truthy_dict S m (by lia) ⟨H,I.tok _,by rw[zq r];exact q⟩
 |_=>exact(show False from e).elim
def F1(G:PE X a ta)(F:∀j,isTrue a X.env j=(do let v <-j;standAt a.pos;holding [v] (truthy v))):
  PT X a (λq H Q=>ta q H λx H'=>∃k,Im X.K x H' k/\Q k H'):=by
 intro o s q H Q I h;refine isTrue_plain (cE (G o s q H _ I h) λv y u=>?_) (F _);let⟨x,O,L,C,E⟩:=u;exact OG o y q O x v Q L C E
def yS:iw X (binaryOp .Add) (λx y H Q=>∃i j,x=.str i/\y=.str j/\i.length+j.length<=yag/\Q (.str (i++j)) H):=by
 intro o s G H x y v u Q I F E h;let⟨i,j,rfl,rfl,hz,q⟩:=h;let⟨t,rfl⟩:=F;let⟨C,rfl⟩:=E;exact add_str (λC tk=>⟨.str (i++j),H,I.tok _,⟨_,rfl⟩,q⟩) hz
def vals1(r:Vals [d] us):∃u,us=[u]/\RelV d u:=by
 cases r with
 |cons r1 r2=>cases r2;refine⟨_,rfl,r1⟩
def vals2(r:Vals [d,y] us):∃u j,us=[u,j]/\RelV d u/\RelV y j:=by
 cases r with
 |cons r1 r2=>
  cases r2 with
  |cons r3 r4=>cases r4;refine⟨_,_,rfl,r1,r3⟩
def Dq(y:X.calm=true):cJ X (.builtin "max") (λv H Q=>∃i j,v=[.int i,.int j]/\Q (.int (if j> i then j else i)) H):=by
 intro x s C H v F Q I r h;let⟨i,j,rfl,q⟩:=h;let⟨u,E,rfl,⟨t,rfl⟩,⟨G,rfl⟩⟩:=vals2 r;refine max_two_ints (I.ok.hd y) λL tk k=>⟨_,H,I.kept k,?_,q⟩
 by_cases o:j> i
 ·rw[yIp o,yIp o];exact⟨_,rfl⟩
 ·rw[yIn o,yIn o];exact⟨_,rfl⟩
def Dp(y:X.calm=true):cJ X (.builtin "min") (λv H Q=>∃i j,v=[.int i,.int j]/\Q (.int (if j<i then j else i)) H):=by
 intro x s C H v F Q I r h;let⟨i,j,rfl,q⟩:=h;let⟨u,E,rfl,⟨t,rfl⟩,⟨G,rfl⟩⟩:=vals2 r;refine min_two_ints (I.ok.hd y) λL tk k=>⟨_,H,I.kept k,?_,q⟩
 by_cases o:j<i
 ·rw[yIp o,yIp o];exact⟨_,rfl⟩
 ·rw[yIn o,yIn o];exact⟨_,rfl⟩
def WQ(K:yaJ)(x:V)(H:Hp)(n:Nat):Prop:=
 match x with
 |.str y=>y.length<=yag/\n=y.length
 |.ye y=>y.size<=yag/\n=y.size
 |.ref p=>(∃j,cW K H p j/\n=j.length)∨∃j,fR K H p j/\n=j.length
 |_=>False
def HJ:cJ X (.builtin "len") (λv H Q=>∃x n,v=[x]/\WQ X.K x H n/\Q (.int n) H):=by
 intro L s P H v S Q I r h;let⟨x,n,rfl,e,q⟩:=h;let⟨u,rfl,C⟩:=vals1 r;have hs  :=yaf;cases x with
 |str y=>
  let⟨t,rfl⟩:=C;obtain⟨O,o⟩:y.length<=yag/\n=y.length:=e;subst o;exact len_str (by lia) ⟨.int _,H,I.tok _,⟨_,rfl⟩,q⟩
 |ye y=>
  let⟨t,rfl⟩:=C;obtain⟨O,o⟩:y.size<=yag/\n=y.size:=e;subst o;exact PySem.W.len_bytes (by lia) ⟨.int _,H,I.tok _,⟨_,rfl⟩,q⟩
 |ref p=>
  cases C;have o  :=e;rcases o with⟨v,G,o⟩|⟨v,G,o⟩
  ·subst o;let⟨F,E,pl,hz⟩:=I.list G;have j:=E.length;exact Calls.call_len_list pl.isList (by simp only[zba];lia) ⟨.int v.length,H,I.tok _,⟨_,by simp only[zba];rw[j]⟩,q⟩
  ·subst o;let⟨F,E,pl,hz⟩:=I.tuple G;have j:=E.length;exact len_tuple pl (by simp only[zba];lia) ⟨.int v.length,H,I.tok _,⟨_,by simp only[zba];rw[j]⟩,q⟩
 |_=>exact(show False from e).elim
end
structure z9(h:Heap)(x dx C:Addr)(mA:Str->Option yai):Prop where
 obj:h.get? x=some (zbS C dx)
 ns:h.Ns1 dx mA
 ne:dx≠x
def C3(n:h.Ns1 d mA):∃q,h.get? d=some q/\∀name,PySem.W.lookIn name q=some (mA name):=by
 let⟨o,E,F,v,hd,C,_,x⟩:=n;refine⟨o,v,λname=>?_⟩;have e:=x name;unfold nsFind findBy at e;delta PySem.W.lookIn;rw[hd];dsimp only;split
 ·simp_all
 ·have a:E.toList.any (·.refKey)=false:=by
   rw[List.any_eq_false];intro y u;let⟨z,t,j⟩:=C y (Array.mem_toList_iff.mp u);simp[DictEntry.refKey,j]
  grind
def z9.look(I:z9 h d g C mA):∃a,PySem.W.InstAt h d (zbS C g) C (some a)/\∀name,PySem.W.lookIn name a=some (mA name):=
 by let⟨a,o,q⟩:=C3 I.ns;refine⟨a,⟨I.obj,rfl,rfl,o⟩,q⟩
section
variable {x dx:Addr}{mA:Str->Option yai}{v:yai}
def get_map(X:K.In s.heap)(I:z9 s.heap x dx C mA)(y:zbC K C name=true)(u:zbm K C=true)(F:zbZ K (.ref C) name=some none)(o:mA name=some v)(j:PySem.W.handedIn v=true)(h:Q v {s with toks:=s.toks+1}):
  yar (model prog w) A (getAttr (.ref x) name d) Q E s:=by
 obtain⟨G,J,q⟩:=I.look;exact PySem.W.get_value X J (PySem.W.plainGet_of y).1 (PySem.W.findObj_own u F rfl (by rw[q,o])) j h
def G8(X:K.In s.heap)(I:z9 s.heap x dx C mA)(a:zbC K C name=true)(q:zbZ K (.ref C) name=some (some (.ref f)))(o:zcv K (.ref f)=true)(u:mA name=none)(h:d (.ref f,[.ref x]) s):
  yar (model prog w) A (yaD (.ref x) name pl) d E s:=by
 let⟨j,J,y⟩:=I.look;exact PySem.W.method_fn X J (PySem.W.plainGet_of a).1 (PySem.W.plainGet_of a).2 q (beq_iff_eq.mp o) (by show(PySem.W.lookIn name j).map (·.isSome)=some false;simp_all) h
def JR(X:K.In s.heap)(I:z9 s.heap x dx C mA)(H:zbZ K (.ref C) "__setattr__"=some (some (.builtin "object.__setattr__")))(L:zbn K C=true)(G:PySem.W.takerIn K C name=some none)(O:zbm K C=true)(hw:PySem.Within mA ns)(hsz:ns.length<=yag)(h:∀h',z9 h' x dx C (λy=>if y=name then some v else mA y)->Heap.SameBut dx s.heap h'->d () {s with heap:=h',toks:=s.toks+2}):
  yar (model prog w) A (setAttr (.ref x) name v) d E s:=by
 let⟨Y,J,hl⟩:=I.look;refine PySem.W.set_plain X J H (PySem.W.osa_open X J L G λb=>?_);let⟨cd,P,u⟩:=PySem.W.any_some O;have hx  :=I.obj;refine yaa (yab (yaa (yaa (wpAny_loadPart hx (yaa (PySem.W.Looks.here (PySem.W.looks_clsIn X P) ?_))))));rw[u];refine yab (yaa (yab (yaa ?_)));refine wpAny_nsSet1 I.ns λh' j a=>?_;let⟨Z,S,U,o,q,F⟩:=j.count (PySem.Within.cons name v hw);refine yaa (wpAny_lookBehind o (by rw[q];exact pastItsLine_dict (zcp F (by simp_all))) ?_);exact yab (h _ ⟨(a.2 _ (Ne.symm I.ne)).trans I.obj,j,I.ne⟩ a)
def Gw(X:K.In s.heap)(a:zbT K C=true)(j:zbZ K (.ref C) "__init__"=some (some (.ref f)))(o:PySem.W.typeIn K (.ref f)=some (.type "function"))(h:codeAny (model prog w) (A.under (.builtin "type.__call__" ⟨.ref C::vs,kw⟩)) (.call (.ref f) ⟨.ref (s.heap.objs.size+1)::vs,kw⟩) (PySem.W.InitBack (s.heap.objs.size+1) R) {s with heap:=(s.heap.push zbo).push (zbS C s.heap.objs.size)}):
  codeAny (model prog w) A (.call (.ref C) ⟨vs,kw⟩) R s:=by
 exact PySem.W.make_core (PySem.W.makes_of X a) (PySem.W.looks_findIn X j) (λself=>PySem.W.bind_fn X self o) (.inl rfl) h
end
noncomputable def ic(f:Str)(v:V):List (Str×V)->List (Str×V)
 |[]=>[(f,v)]
 |(g,x)::r=>if g=f then(g,v)::r else(g,x)::ic f v r
theorem m9(f g)(v):∀fs:List (Str×V),(ic f v fs).lookup g=if g=f then some v else fs.lookup g
 |[]=>by
  show List.lookup g [(f,v)]=_
  grind
 |(k,x)::r=>by
  have a:=m9 f g v r;rw[show ic f v ((k,x)::r)=(if k=f then(k,v)::r else(k,x)::ic f v r) from rfl]
  grind
theorem mq(f)(v):∀fs:List (Str×V),f∈(ic f v fs).map (·.1)/\∀g,g∈fs.map (·.1)->g∈(ic f v fs).map (·.1)
 |[]=>⟨by simp[ic],λg h=>by simp at h⟩
 |(k,x)::r=>by
  let⟨j,a⟩:=mq f v r;rw[show ic f v ((k,x)::r)=(if k=f then(k,v)::r else(k,x)::ic f v r) from rfl]
  grind
theorem ng(f:Str)(v:V):∀fs:List (Str×V),(ic f v fs).length<=fs.length+1
 |[]=>by simp[ic]
 |(k,x)::r=>by
  have a:=ng f v r;rw[show ic f v ((k,x)::r)=(if k=f then(k,v)::r else(k,x)::ic f v r) from rfl];by_cases j:k=f
  ·simp_all
  simp_all
def gX.some_of(r:gX (some v) d):∃u,d=some u/\RelV v u:=by
 cases d with
 |none=>exact(show False from r).elim
 |some u=>refine⟨u,rfl,r⟩
def gX.none_of(r:gX none d):d=none:=by
 cases d with
 |none=>rfl
 |some u=>exact(show False from r).elim
def Dg(r:RelV v u):PySem.W.handedIn u=true:=by
 cases v with
 |bB=>cases(show u=Value.none from r);rfl
 |bl b=>cases(show u=Value.bool b from r);rfl
 |int i=>let⟨t,e⟩:=(show∃t,u=Value.int i t from r);cases e;rfl
 |str x=>let⟨t,e⟩:=(show∃t,u=Value.str x t from r);cases e;rfl
 |ye b=>let⟨t,e⟩:=(show∃t,u=Value.bytes b t from r);cases e;rfl
 |QW b=>let⟨t,e⟩:=(show∃t,u=Value.float b t from r);cases e;rfl
 |ref a=>cases(show u=Value.ref a from r);rfl
 |ty n=>cases(show u=Value.type n from r);rfl
section
variable {dx:Addr}{fs fs':List (Str×V)}
def nZ(hok:jy P w H h)(e:H a=some (.ins C dx fs)):∃mA,z9 h a dx C mA/\(∀f,gX (fs.lookup f) (mA f))/\PySem.Within mA (fs.map (·.1))/\fs.length<=1000/\H dx=some (.own a):=by
 obtain⟨d,z,ne,j,mA,n,r,q⟩:=(show bq P w H h a (.ins C dx fs) from hok a _ e)
 refine⟨mA,⟨j,n,ne⟩,r,q,z,d⟩
end
structure yi(K:yaJ)(C:Addr):Prop where
 pg:zbC K C Str.empty=true
 hd:zbm K C=true
 po:zbn K C=true
 sa:zbZ K (.ref C) "__setattr__"=some (some (.builtin "object.__setattr__"))
def yi.get(c:yi K C)(f):zbC K C f=true:=c.pg
def dI(K:yaJ)(C:Addr)(f:Str):Prop:=zbZ K (.ref C) f=some none
def dI.Si(n:dI K C d):PySem.W.takerIn K C d=some none:=by
 delta PySem.W.takerIn;rw[show zbZ K (.ref C) d=some none from n];rfl
structure Meth(K:yaJ)(C:Addr)(m:Str)(f:Addr):Prop where
 at_:zbZ K (.ref C) m=some (some (.ref f))
 fn:zcv K (.ref f)=true
 kp:zca K (.ref f)=true
section
variable {σ:St}{dx:Addr}{fs:List (Str×V)}{f:Str}
def zy(I:Inv X pins σ H s)(e:H a=some (.ins C dx fs))(c:yi X.K C)(n:dI X.K C f)(l:fs.lookup f=some v)(h:∀u j,Inv X pins σ H j->RelV v u->Q u j):yar (model X.prog X.w) A (getAttr (.ref a) f b) Q E s:=by
 let⟨mA,O,r,_,_,_⟩:=nZ I.hok e;let⟨u,o,ru⟩:=gX.some_of (by rw[<-l];exact r f);exact get_map I.lT O (c.get f) c.hd n o (Dg ru) (h u _ (I.tok _) ru)
def p9(I:Inv X pins σ H s)(e:H a=some (.ins C dx fs))(c:yi X.K C)(k:Meth X.K C d g)(l:fs.lookup d=none)(h:q (.ref g,[.ref a]) s):yar (model X.prog X.w) A (yaD (.ref a) d pl) q E s:=by
 let⟨mA,O,r,_,_,_⟩:=nZ I.hok e;have hn  :=gX.none_of (by rw[<-l];exact r d);exact G8 I.lT O (c.get d) k.at_ k.fn hn h
def yy(I:Inv X pins σ H s)(e:H a=some (.ins C dx fs))(c:yi X.K C)(n:dI X.K C f)(W:fs.length<1000)(G:RelV y u)(h:∀x,Inv X pins σ (upd H a (.ins C dx (ic f y fs))) x->d () x):yar (model X.prog X.w) A (setAttr (.ref a) f u) d E s:=by
 let⟨mA,O,r,v,_,F⟩:=nZ I.hok e;have hz:(fs.map (·.1)).length<=yag:=by rw[zbF,yaf];lia
 refine JR I.lT O c.sa c.po n.Si c.hd v hz λS j sb=>h _ ?_;have hd:∃o,S.get? dx=some o:=by obtain⟨o,_,_,U,_⟩:=j.ns;exact⟨o,U⟩
 refine I.write (by rw[e];exact True.intro) (.inr F) (λb q P z=>(sb.2 b P).trans z) hd ?_;refine⟨by rw[aQ O.ne];exact F,?_,O.ne,j.obj,_,j.ns,λg=>?_,λg L=>?_⟩
 ·have:=ng f y fs;lia
 ·rw[m9];by_cases q:g=f
  ·rw[yIp q,yIp q];exact G
  ·rw[yIn q,yIn q];exact r g
 ·by_cases q:g=f
  ·rw[q];exact(mq f y fs).1
  ·refine(mq f y fs).2 g (v g λz=>L ?_);simp_all
def Inv.made(I:Inv X pins σ H s):Inv X pins σ (upd (upd H s.heap.objs.size (.own (s.heap.objs.size+1))) (s.heap.objs.size+1) (.ins C s.heap.objs.size []))
  {s with heap:=(s.heap.push zbo).push (zbS C s.heap.objs.size)}:=by
 have a:(s.heap.push zbo).get? s.heap.objs.size=some zbo:=zaO s.heap rfl;have E:((s.heap.push zbo).push (zbS C s.heap.objs.size)).get? (s.heap.objs.size+1)=some (zbS C s.heap.objs.size):=by
  have:=zaO (s.heap.push zbo) (o:=zbS C s.heap.objs.size) rfl;simp_all
 have x:(s.heap.push zbo).Ns s.heap.objs.size (λ_=>none):=⟨zbo,#[],_,a,rfl,(λe v=>absurd v (by simp)),λ_=>rfl⟩
 have F:=I.laid (o:=.own (s.heap.objs.size+1)) (t':=s.toks) (λb u q=>zau _ q) (zcA _) ⟨_,a⟩;refine F.laid (λb u q=>zau _ q) (Nat.le_of_eq (zcc _ _)) ?_;have ne:s.heap.objs.size≠s.heap.objs.size+1:=zco (Nat.lt_succ_self _);refine⟨by rw[aQ ne,bL],zcB _,ne,E,λ_=>none,(Heap.Ns1.of_empty x).at λo q=>zau _ q,λ_=>True.intro,λy j=>absurd rfl j⟩
def LU(j:attributeBase e d env (eval e env)=eval e env)(h:yar (model prog w) A (eval e env) (λo a=>yar (model prog w) A (getAttr o d true) Q E a) E g):yar (model prog w) A (eval (.Attribute e d pos) env) Q E g:=
 Attribute_any_ h (by rw[arm_eval_Attribute,j])
end
def VG(K:yaJ)(q:TE)(f:Str):TE:=λo H Q=>q o H λx j=>∃a C s fs v,x=.ref a/\j a=some (.ins C s fs)/\yi K C/\dI K C f/\fs.lookup f=some v/\Q v j
def VU(K:yaJ)(u s:TE)(f:Str):TS:=λD j H=>s j H λy v=>u j v λx q=>∃a C o fs,x=.ref a/\q a=some (.ins C o fs)/\yi K C/\dI K C f/\fs.length<1000/\
 D.nx j (upd q a (.ins C o (ic f y fs)))
section
variable {o:Expr}{f:Str}{tpos:Pos}{ta tv:TE}
def bF(G:PE X e ta)(L:attributeBase e f X.env (eval e X.env)=eval e X.env):PE X (.Attribute e f pos) (VG X.K ta f):=by
 intro j s E H Q I h;refine LU L (cE (G j s E H _ I h) λu Z y=>?_);obtain⟨x,U,S,F,a,C,dx,fs,v,ex,O,c,n,l,q⟩:=y;subst ex;obtain rfl:u=Value.ref a:=F;exact zy S O c n l λW Y P ru=>⟨v,U,P,ru,q⟩
def iE(U:PE X o ta)(Q:PE X value tv)(S:yat value (some (.Attribute o f pos')) pos.line X.env=pure false):PS X (.Assign [.Attribute o f pos'] value pos) (VU X.K ta tv f):=by
 intro j s v H D I h;refine plainObj_wpAny_Assign_Attribute (cE (Q j s v H _ I h) λu G F=>?_) S;let⟨y,H1,I1,L,q⟩:=F;refine cE (U j G v H1 _ I1 q) λP s2 E=>?_;obtain⟨x,H2,Z,O,a,C,dx,fs,ex,W,c,n,l,q2⟩:=E;subst ex;obtain rfl:P=Value.ref a:=O;exact yy Z W c n l L λs3 Y=>⟨v,_,Y,q2⟩
end
section
variable {σ:St}{c:yai}
inductive lg(K:yaJ)(H:Hp):V->yai->Prop where
 |bB:lg K H .bB (.type "NoneType")
 |bl (x:Bool):lg K H (.bl x) (.type "bool")
 |int (i:Int):lg K H (.int i) (.type "int")
 |str (x:Str):lg K H (.str x) (.type "str")
 |QW (x:UInt64):lg K H (.QW x) (.type "float")
 |lst {a:Addr}{xs:List V} (e:H a=some (.lst xs)):lg K H (.ref a) (.type "list")
 |BB {a:Addr}{o:Obj}{xs:List V} (e:H a=some (.BB o (.lst xs))):lg K H (.ref a) (.type "list")
 |tup {a:Addr}{xs:List V} (e:H a=some (.tup xs)):lg K H (.ref a) (.type "tuple")
 |dK {a:Addr}{kvs:List (Key×V)} (e:H a=some (.dK kvs)):lg K H (.ref a) (.type "dict")
 |dT {a:Addr}{kvs:List (List Key×V)} (e:H a=some (.dT kvs)):lg K H (.ref a) (.type "dict")
 |ins {a C dx:Addr}{fs:List (Str×V)} (e:H a=some (.ins C dx fs)) (cl:yi K C) (ha:zbZ K (.ref C) "__class__"=some (some (.builtin "object.__class__")))
   (hn:PySem.W.specialIn K (.builtin "object.__class__") "__get__"=some (some (.builtin "getset_descriptor.__get__"))) (htk:PySem.W.takesIn K (.builtin "object.__class__")=some true)
   (hm:PySem.W.mroIn K C (.type "object")=some true):lg K H (.ref a) (.ref C)
theorem C8(I:Inv X pins σ H s)(j:RelV d u)(ty:lg X.K H d g)(e:PySem.W.kitOne X.K g c=some b)(h:∀tk,Q (.bool b) {s with toks:=tk}):
  yar (model X.prog X.w) A (call (.builtin "isinstance") [u,c]) Q E s:=by
 cases ty with
 |bB=>cases(show u=Value.none from j);exact zbU PySem.W.kitx_none I.lT True.intro e (λz=>nomatch z) h
 |bl y=>cases(show u=Value.bool y from j);exact zbU PySem.W.kitx_bool I.lT True.intro e (λz=>nomatch z) h
 |int i=>let⟨g,q⟩:=(show∃g,u=Value.int i g from j);cases q;exact zbU PySem.W.kitx_int I.lT True.intro e (λz=>nomatch z) h
 |str y=>let⟨g,q⟩:=(show∃g,u=Value.str y g from j);cases q;exact zbU PySem.W.kitx_str I.lT True.intro e (λz=>nomatch z) h
 |QW y=>let⟨g,q⟩:=(show∃g,u=Value.float y g from j);cases q;exact zbU PySem.W.kitx_float I.lT True.intro e (λz=>nomatch z) h
 |@lst a v ea=>
  cases(show u=Value.ref a from j);obtain⟨_,_,n,_,h1⟩:=(show bq X.prog X.w H s.heap a (.lst v) from I.hok a _ ea)
  exact zbU PySem.W.kitx_list I.lT ⟨_,h1,rfl⟩ e (λz=>nomatch z) h
 |@BB a ob v ea=>
  cases(show u=Value.ref a from j);obtain⟨_,_,_,n,_,h1⟩:=(show bq X.prog X.w H s.heap a (.BB ob (.lst v)) from I.hok a _ ea)
  exact zbU PySem.W.kitx_list I.lT ⟨_,h1,rfl⟩ e (λz=>nomatch z) h
 |@tup a v ea=>
  cases(show u=Value.ref a from j);obtain⟨_,_,_,p⟩:=(show bq X.prog X.w H s.heap a (.tup v) from I.hok a _ ea)
  let⟨o,h1,h2,_⟩:=p;exact zbU PySem.W.kitx_tuple I.lT ⟨o,h1,h2⟩ e (λz=>nomatch z) h
 |@dK a kvs ea=>
  cases(show u=Value.ref a from j);obtain⟨_,_,vs,_,p⟩:=(show bq X.prog X.w H s.heap a (.dK kvs) from I.hok a _ ea)
  let⟨o,F,G,h1,h2,_⟩:=p;exact zbU PySem.W.kitx_dict I.lT ⟨o,h1,h2.1⟩ e (λz=>nomatch z) h
 |@dT a kvs ea=>
  cases(show u=Value.ref a from j);obtain⟨_,_,v,_,o,F,G,h1,h2,_⟩:=(show bq X.prog X.w H s.heap a (.dT kvs) from I.hok a _ ea)
  exact zbU PySem.W.kitx_dict I.lT ⟨o,h1,h2.1⟩ e (λz=>nomatch z) h
 |@ins a C dx fs ea cl ha hn htk hm=>
  cases(show u=Value.ref a from j);let⟨mA,O,_⟩:=nZ I.hok ea;obtain⟨L,J,_⟩:=O.look;exact zbU (PySem.W.kitx_own (cl.get _) cl.hd ha hn htk hm) I.lT J e (λz=>nomatch z) h
end
structure aW(k:Nat)(A:yal):Prop where
 hd:A.handled=none
 dp:A.depth+3*k+5<recursionLimit
 un:A.units+16*k+200<cLine
 gd:A.guards=some []
def aW.mono(r:aW k A)(h:j<=k):aW j A:=⟨r.hd,by have:=r.dp;lia,by have:=r.un;lia,r.gd⟩
theorem aW.deeper(r:aW (k+1) A)(env:Env):aW k (A.deeper env):=
 ⟨r.hd,by have:=r.dp;show A.depth+1+3*k+5<_;lia,by have:=r.un;show A.units+3+16*k+200<_;lia,r.gd⟩
def zc:(A.under (.builtin "type.__call__" ⟨.ref C::us,kw⟩)).depth=A.depth+1:=by
 rfl
def zb:(A.under (.builtin "type.__call__" ⟨.ref C::us,kw⟩)).units=A.units+1:=by
 rfl
def aW.make(r:aW (k+1) A)(C)(a)(j):aW k (A.under (.builtin "type.__call__" ⟨.ref C::a,j⟩)):=
 ⟨r.hd,by have:=r.dp;rw[zc];lia,by have:=r.un;rw[zb];lia,r.gd⟩
theorem aW.depth(r:aW k A):A.depth<recursionLimit:=by have:=r.dp;lia
theorem aW.units(r:aW k A):A.units+64<cLine:=by have:=r.un;lia
def Ej:TA:=λ_ H Q=>Q [] H
def Er(o:TE)(tr:TA):TA:=λa H Q=>o a H λx s=>tr a s λj q=>Q (x::j) q
section
variable {es:List Expr}{te:TE}{t:TA}
def aj:PA X [] Ej:=λ_ _ _ _ H Q I h=>zbp ⟨[],H,I,.nil,h⟩
def KC(O:PE X e te)(L:PA X es t)(G:autoParam (yao (e::es) X.env=(false,eval e X.env)::yao es X.env) r0):PA X (e::es) (Er te t):=by
 intro o a s q H Q I h;rw[G];refine zaZ (cE (O a s q H _ I h) λu y j=>?_);let⟨x,W,S,E,F⟩:=j;refine cE (L o a y q W _ S F) λY Z j=>?_;let⟨v,U,P,C,q2⟩:=j;refine⟨x::v,U,P,.cons E C,q2⟩
def Sl(t:TA):TE:=λo H Q=>t o H λa j=>a.length<=yag/\∀p,j p=none->Q (.ref p) (upd j p (.tup a))
def Sw(t:TA):TE:=λo H Q=>t o H λa j=>a.length<=yag/\∀p,j p=none->Q (.ref p) (upd j p (.lst a))
def aH(h:PA X es t):PE X (.Tuple es x1 pos) (Sl t):=by
 intro a s x H Q I E;refine wpAny_Tuple_spliced (cE (h pos a s x H _ I E) λC o j=>?_);let⟨y,F,v,r,z,q⟩:=j;refine⟨by rw[<-r.length];exact z,?_⟩;have hf  :=v.hok.fresh (zcA _);refine⟨.ref o.heap.objs.size,upd F o.heap.objs.size (.tup y),v.laid (λb u e=>zau _ e) (zcA _) ?_,rfl,q _ hf⟩;refine⟨z,C,r,⟨_,zaO _ rfl,rfl,_,rfl⟩⟩
def aR(h:PA X es t):PE X (.List es pos) (Sw t):=by
 intro a s x H Q I E;refine wpAny_List_spliced (cE (h pos a s x H _ I E) λC o j=>?_);let⟨y,F,v,r,z,q⟩:=j;refine⟨by rw[<-r.length];exact z,?_⟩;have hf  :=v.hok.fresh (zcA _);refine⟨.ref o.heap.objs.size,upd F o.heap.objs.size (.lst y),v.laid (λb u e=>zau _ e) (zcA _) ?_,rfl,q _ hf⟩;refine⟨z,C,0,r,zaO _ rfl⟩
end
abbrev Sp:=List V->Hp->VK->XK->Prop
abbrev Jp:=List Env->Hp->yah->XK->yai->yah->Prop
structure Ad(P:yaj)(w:yak)(K:yaJ)(mg:Str->Option yai)(base:Heap)(A:yal)(outer:List Env)(s:yah)(H:Hp):Prop where
 frames:A.frames=some outer
 mod:Mod K mg base
 bs:∀b o,base.get? b=some o->s.heap.get? b=some o/\H b=none
 LO:base.objs.size<=s.heap.objs.size
 nE:s.heap.FunFrames base outer
 QV:∀b∈frs outer,H b=none
 hok:jy P w H s.heap
 bare:AllBare s.gens
def CE(outer:List Env)(P:yaj)(w:yak)(H:Hp)(s:yah)(Q:VK)(u:yai)(a:yah):Prop:=
 ∃v j,a.os=s.os/\AllBare a.gens/\Un (frs outer) [] H j s.heap a.heap/\jy P w j a.heap/\RelV v u/\Q v j
def CR(CX:Jp)(outer:List Env)(P:yaj)(w:yak)(H:Hp)(s:yah)(Q:VK)(E:XK)(r:Result)(a:yah):Prop:=
 match r with
 |.ok (.ret u)=>CE outer P w H s Q u a
 |.ok _=>False
 |.error e=>CX outer H s E e a
structure cY(P:yaj)(w:yak)(K:yaJ)(mg:Str->Option yai)(base:Heap)(CX:Jp)(k:Nat)(f:Addr)(fd:yap)(ps:List Str)(sp:Sp):Prop where
 len:∀vs H Q E,sp vs H Q E->vs.length=ps.length
 run:∀(A:yal)(outer:List Env)(s:yah)(H:Hp)(args:Args)(us:List yai)(vs:List V)(Q:VK)(E:XK),aW k A->Ad P w K mg base A outer s H->yaB s fd args (ps.zip us)->Vals vs us->sp vs H Q E->
  codeAny (model P w) A (.call (.ref f) args) (CR CX outer P w H s Q E) s
def cY.imp(F:cY P w K mg base CX k f fd ps sp)(h:∀vs H Q E,d vs H Q E->sp vs H Q E):cY P w K mg base CX k f fd ps d:=
 ⟨λvs H Q E q=>F.len vs H Q E (h _ _ _ _ q),λA outer s H j o vs Q E x y C u v=>F.run A outer s H j o vs Q E x y C u (h _ _ _ _ v)⟩
def Ad.make(e:Ad P w K mg base A outer s H)(C)(a)(j):
  Ad P w K mg base (A.under (.builtin "type.__call__" ⟨.ref C::a,j⟩)) outer s H:=⟨by first|exact e.frames|(simpa[Around.under,Code.envs,Code.isFrame,pushEnvs] using e.frames),e.mod,e.bs,e.LO,e.nE,e.QV,e.hok,e.bare⟩
section
variable {σ:St}{s':yah}
def Inv.Uw(I:Inv X pins σ H s):Ad X.prog X.w X.K X.mg X.base X.A X.stack s H:=
 ⟨I.ok.frames,I.ok.mod,I.bs,zcp I.ok.LO I.sz,I.stack,I.Al,I.hok,I.bare⟩
def Inv.after(I:Inv X pins σ H s)(h:CE X.stack X.prog X.w H s k u s'):EP X pins σ k u s':=by
 let⟨v,j,os,bare,un,hok,r,q⟩:=h;obtain⟨o,g,d,t,a⟩:=s';obtain rfl:a=s.os:=os;refine⟨v,j,I.call un hok bare (λb z=>absurd z (by simp)),r,q⟩
end
def Ai(sp:Sp)(a:List V)(E:XK)(t:TA):TE:=λj H Q=>t j H λvs o=>sp (vs++a) o Q E
def Ek(C:Addr)(m:Str)(sp:Sp)(j:List V)(E:XK)(s:TE)(t:TA):TE:=λo H Q=>s o H λx q=>∃a u fs,x=.ref a/\q a=some (.ins C u fs)/\fs.lookup m=none/\
 t o q λvs v=>sp (x::(vs++j)) v Q E
def MP(C:Addr)(sp:Sp)(j:List V)(E:XK)(t:TA):TE:=λq H Q=>t q H λvs o=>∀x a,o x=none->o a=none->a≠x->
 sp (.ref x::(vs++j)) (upd (upd o a (.own x)) x (.ins C a [])) (λv s=>v=.bB/\Q (.ref x) s) E
def Binds(K:yaJ)(fd:yap)(ps:List Str)(ds:List yai):Prop:=
 ∀(s)(a),K.In s.heap->(a++ds).length=ps.length->yaB s fd ⟨a,[]⟩ (ps.zip (a++ds))
def Binds.all(h:∀a:List yai,a.length=ps.length->yaA fd ⟨a,[]⟩=pure (ps.zip a)):Binds K fd ps []:=λs a _ j=>by
 rw[zbG] at j⊢;exact .of_eq (h a j)
def Passes(CX:Jp)(X:Cx)(E:XK):Prop:=∀(a:List (Addr×Obj))(o:St)(H:Hp)(s:yah)(e:yai)(j:yah),Inv X a o H s->CX X.stack H s E e j->X.xe e j
section
variable {CX:Jp}{k:Nat}{sp:Sp}{dvs:List V}{ds:List yai}{E:XK}{m:Str}{p:Pos}{o:Expr}{es:List Expr}{ta:TE}{t:TA}
def tR(F:cY X.prog X.w X.K X.mg X.base CX k f fd ps sp)(x:aW k X.A)(C:Binds X.K fd ps ds)(hd:Vals dvs ds)(v:Passes CX X E)(I:Inv X pins d H s)(r:Vals vs us)(h:sp (vs++dvs) H g E):yar (model X.prog X.w) X.A (call (.ref f) us) (EP X pins d g) X.xe s:=by
 have r2  :=r.append hd;have y:(us++ds).length=ps.length:=by rw[<-r2.length];exact F.len _ _ _ _ h
 refine yaI (yax (F.run X.A X.stack s H ⟨us,[]⟩ (us++ds) (vs++dvs) g E x I.Uw (C s us I.lT y) r2 h) λr q a=>?_);cases r with
 |error e=>exact v pins d H s e q I a
 |ok fl=>
  cases fl with
  |ret u=>exact I.after a
  |next=>exact False.elim a
  |brk=>exact False.elim a
  |cont=>exact False.elim a
def Kz(F:cY X.prog X.w X.K X.mg X.base CX k f fd ps sp)(L:aW k X.A)(S:Gl X x)(O:X.mg x=some (.ref f))(P:zca X.K (.ref f)=true)(Y:Binds X.K fd ps ds)(hd:Vals dvs ds)(G:Passes CX X E)(Z:PA X (e::es) t)(v:autoParam ((x==("__debug__":Str))=false) r1)(U:autoParam (yao (e::es) X.env=(false,eval e X.env)::yao es X.env) r0)(u:autoParam ((yau pos (yao es X.env)).any (·.1)=false) r0):
  PE X (.Call (.Name x p) (e::es) [] pos) (Ai sp dvs E t):=by
 intro a s C H Q I h;refine wpAny_Call_Name_kw (kO I S O ?_ v);refine PySem.W.callWith_K I.ok.mod.T7 P (cE (Z pos a s C H _ I h) λus s1 j=>?_) U u;let⟨vs,H1,y,r,q⟩:=j;refine⟨y.lT,?_⟩;exact tR F L Y hd G y r q
def Gb(F:cY X.prog X.w X.K X.mg X.base CX k f fd ps sp)(u:aW k X.A)(C:Gl X x)(v:X.mg x=some (.ref f))(y:zca X.K (.ref f)=true)(G:Binds X.K fd ps ds)(hd:Vals dvs ds)(q:Passes CX X E)(a:autoParam ((x==("__debug__":Str))=false) r1):PE X (.Call (.Name x p) [] [] pos) (Ai sp dvs E Ej):=by
 intro j s L H Q I h;refine wpAny_Call_Name_kw (kO I C v ?_ a);exact PySem.W.callWith_K0 I.lT y (tR F u G hd q I .nil h)
def aZ{pl:Sem Bool}(he:PE X o ta)(c:yi X.K C)(O:Meth X.K C m f)(F:cY X.prog X.w X.K X.mg X.base CX k f fd ps sp)(hr:aW k X.A)(hb:Binds X.K fd ps ds)(hd:Vals dvs ds)(Z:Passes CX X E)(ha:PA X (e::es) t)(y:autoParam (yao (e::es) X.env=(false,eval e X.env)::yao es X.env) r0)(G:autoParam ((yau pos (yao es X.env)).any (·.1)=false) r0)(ht:autoParam (eval (.Call (.Attribute o m apos) (e::es) [] pos) X.env=(do
   let ov <-eval o X.env
   standAt apos.atName
   let(f,first) <-holding [ov] (yaD ov m pl)
   yaz pos f first (yau pos (yao (e::es) X.env)) (yaF pos (yaE [] X.env)))) r0):
  PE X (.Call (.Attribute o m apos) (e::es) [] pos) (Ek C m sp dvs E ta t):=by
 intro j s L H Q I h;refine PySem.W.methodCall_KW (cE (he j s L H _ I h) λu U v=>?_) ht;obtain⟨x,H1,S,Y,a,dx,fs,ex,ea,l,q⟩:=v;subst ex;obtain rfl:u=Value.ref a:=Y;refine p9 S ea c O l ?_;refine PySem.W.callWith_K I.ok.mod.T7 O.kp (cE (ha pos j U L H1 _ S q) λus s2 v=>?_) y G;let⟨vs,H2,P,r,q2⟩:=v;refine⟨P.lT,?_⟩;exact tR (vs:=.ref a::vs) F hr hb hd Z P (.cons rfl r) q2
def iG(Y:PE X o ta)(c:yi X.K C)(G:Meth X.K C m f)(F:cY X.prog X.w X.K X.mg X.base CX k f fd ps sp)(U:aW k X.A)(Z:Binds X.K fd ps ds)(hd:Vals dvs ds)(P:Passes CX X E)(S:autoParam (eval (.Call (.Attribute o m apos) [] [] pos) X.env=(do
   let ov <-eval o X.env
   standAt apos.atName
   let(f,first) <-holding [ov] (yaD ov m pl)
   yaz pos f first (yau pos (yao [] X.env)) (yaF pos (yaE [] X.env)))) r0):
  PE X (.Call (.Attribute o m apos) [] [] pos) (Ek C m sp dvs E ta Ej):=by
 intro j s L H Q I h;refine PySem.W.methodCall_KW (cE (Y j s L H _ I h) λu s1 v=>?_) S;obtain⟨x,H1,y,O,a,dx,fs,ex,ea,l,q⟩:=v;subst ex;obtain rfl:u=Value.ref a:=O;refine p9 y ea c G l ?_;exact PySem.W.callWith_K0 y.lT G.kp (tR (vs:=[.ref a]) F U Z hd P y (.cons rfl .nil) q)
structure Mk(K:yaJ)(C f:Addr):Prop where
 makes:zbT K C=true
 init:zbZ K (.ref C) "__init__"=some (some (.ref f))
 fn:zcv K (.ref f)=true
 kp:zca K (.ref C)=true
theorem vE(M:Mk X.K C f)(F:cY X.prog X.w X.K X.mg X.base CX k f fd ps sp)(U:aW (k+1) X.A)(W:Binds X.K fd ps ds)(hd:Vals dvs ds)(S:Passes CX X E)(I:Inv X pins d H s)(r:Vals vs us)(h:∀x j,H x=none->H j=none->j≠x->sp (.ref x::(vs++dvs)) (upd (upd H j (.own x)) x (.ins C j [])) (λv H2=>v=.bB/\g (.ref x) H2) E):
  yar (model X.prog X.w) X.A (call (.ref C) us) (EP X pins d g) X.xe s:=by
 have L:=h (s.heap.objs.size+1) s.heap.objs.size (I.hok.fresh (zcC _)) (I.hok.fresh (zcA _)) (zco (Nat.lt_succ_self _));have q:=Inv.made (C:=C) I;have G:Vals (V.ref (s.heap.objs.size+1)::(vs++dvs)) (Value.ref (s.heap.objs.size+1)::(us++ds)):=.cons rfl (r.append hd);have hl  :=by
  have e:=G.length;rw[F.len _ _ _ _ L] at e;exact e.symm
 refine yaI (Gw I.lT M.makes M.init (beq_iff_eq.mp M.fn) (yax (F.run _ X.stack _ _ ⟨Value.ref (s.heap.objs.size+1)::us,[]⟩ (Value.ref (s.heap.objs.size+1)::(us++ds)) _ _ E (U.make C us []) (q.Uw.make C us []) (W _ (Value.ref (s.heap.objs.size+1)::us) q.lT hl) G L) λr O a=>?_));cases r with
 |error e=>exact S pins d _ _ e O q a
 |ok fl=>
  cases fl with
  |ret u=>
   let⟨v,H',Z,P,Y,q3⟩:=q.after a;subst Y;exact⟨P,⟨V.ref (s.heap.objs.size+1),H',Z,rfl,q3⟩⟩
  |next=>exact False.elim a
  |brk=>exact False.elim a
  |cont=>exact False.elim a
def nV(M:Mk X.K C f)(F:cY X.prog X.w X.K X.mg X.base CX k f fd ps sp)(O:aW (k+1) X.A)(S:Gl X x)(P:X.mg x=some (.ref C))(Y:Binds X.K fd ps ds)(hd:Vals dvs ds)(L:Passes CX X E)(Z:PA X (e::es) t)(v:autoParam ((x==("__debug__":Str))=false) r1)(U:autoParam (yao (e::es) X.env=(false,eval e X.env)::yao es X.env) r0)(u:autoParam ((yau pos (yao es X.env)).any (·.1)=false) r0):
  PE X (.Call (.Name x p) (e::es) [] pos) (MP C sp dvs E t):=by
 intro a s G H Q I h;refine wpAny_Call_Name_kw (kO I S P ?_ v);refine PySem.W.callWith_K I.ok.mod.T7 M.kp (cE (Z pos a s G H _ I h) λus s1 j=>?_) U u;let⟨vs,H1,y,r,q⟩:=j;refine⟨y.lT,?_⟩;exact vE M F O Y hd L y r q
def kF(M:Mk X.K C f)(F:cY X.prog X.w X.K X.mg X.base CX k f fd ps sp)(u:aW (k+1) X.A)(y:Gl X x)(v:X.mg x=some (.ref C))(G:Binds X.K fd ps ds)(hd:Vals dvs ds)(q:Passes CX X E)(a:autoParam ((x==("__debug__":Str))=false) r1):PE X (.Call (.Name x p) [] [] pos) (MP C sp dvs E Ej):=by
 intro j s L H Q I h;refine wpAny_Call_Name_kw (kO I y v ?_ a);exact PySem.W.callWith_K0 I.lT M.kp (vE M F u G hd q I .nil h)
end
structure ak(N P:List Str)(sc:Scope):Prop where
 kind:sc.kind=.function
 co:sc.isCoroutine=false
 gen:sc.isGenerator=false
 nd:N.Nodup
 pre:N.take P.length=P
 par:∀x∈P,sc.names.lookup x=some .local∨sc.names.lookup x=some .cell
 Qq:∀y∈sc.names,y.2≠ .free
theorem sQ:∀{binds:List (Str×yai)}{m:Str->Option yai},(∀v,(g,v) ∉ binds)->bindL d binds m g=m g
 |[],_,_=>rfl
 |(n,v)::r,m,h=>by
  unfold bindL;rw[sQ λw hw=>h w (zaC _ hw)];split
  ·grind
  ·rfl
theorem sS:∀{binds:List (Str×yai)}{m:Str->Option yai},(∀v,(g,v) ∉ binds)->bindC d binds m g=m g
 |[],_,_=>rfl
 |(n,v)::r,m,h=>by
  unfold bindC;rw[sS λw hw=>h w (zaC _ hw)];split
  ·rfl
  grind
theorem sR{a:Str->Option NameKind}{x:Str}{v:yai}:∀{P:List Str}{vs:List yai}{i:Nat}{m:Str->Option yai},P.Nodup->P[i]? =some x->vs[i]? =some v->a x=some .local->
  bindL a (P.zip vs) m x=some v
 |[],_,_,_,_,h,_,_=>by simp at h
 |_::_,[],_,_,_,_,h,_=>by simp at h
 |p::P,w::vs,0,m,nd,h1,h2,hk=>by
  simp at h1 h2;subst h1;subst h2;show bindL a ((p,w)::P.zip vs) m p=_;unfold bindL;rw[sQ λv j=>(zbH.mp nd).1 (zbI j).1,yIp hk];simp
 |p::P,w::vs,i+1,m,nd,h1,h2,hk=>by
  show bindL a ((p,w)::P.zip vs) m x=_;exact sR (zbH.mp nd).2 (by simpa using h1) (by simpa using h2) hk
theorem sU{a:Str->Option NameKind}{x:Str}{v:yai}:∀{P:List Str}{vs:List yai}{i:Nat}{m:Str->Option yai},P.Nodup->P[i]? =some x->vs[i]? =some v->a x≠some .local->
  bindC a (P.zip vs) m x=some v
 |[],_,_,_,_,h,_,_=>by simp at h
 |_::_,[],_,_,_,_,h,_=>by simp at h
 |p::P,w::vs,0,m,nd,h1,h2,hk=>by
  simp at h1 h2;subst h1;subst h2;show bindC a ((p,w)::P.zip vs) m p=_;unfold bindC;rw[sS λv j=>(zbH.mp nd).1 (zbI j).1,yIn hk];simp
 |p::P,w::vs,i+1,m,nd,h1,h2,hk=>by
  show bindC a ((p,w)::P.zip vs) m x=_;exact sU (zbH.mp nd).2 (by simpa using h1) (by simpa using h2) hk
noncomputable def start(N:List Str)(vs:List V):St:=vs.map some++zbW (N.length - vs.length) none
noncomputable def mz(CX:Jp)(P:yaj)(w:yak)(K:yaJ)(mg:Str->Option yai)(base:Heap)(N:List Str)(a:Str)(scope:Scope)(f:Addr)(o:yai)(A:yal)(outer:List Env)(s:yah)(H:Hp)(E:XK):Cx where
 prog:=P
 w:=w
 K:=K
 mg:=mg
 base:=base
 A:=A.deeper (envOfC a scope s.heap.objs.size f o)
 N:=N
 s₀:=s
 H₀:=H
 env:=envOfC a scope s.heap.objs.size f o
 outer:=outer
 stack:=envOfC a scope s.heap.objs.size f o::outer
 ex:=[]
 calm:=true
 fn:=λ_=>true
 pn:=[]
 xe:=λe q=>yar (model P w) (A.deeper (envOfC a scope s.heap.objs.size f o)) (leaving (envOfC a scope s.heap.objs.size f o) e) (λ_ j=>CX outer H s E e j) (λu j=>CX outer H s E u j) q
def xG{a:Scope}(h:a.names.lookup x=some .cell):∃c,(cellsFrom n a.names []).lookup x=some c:=by
 have q:=PySem.W.cellsFrom_some a.names n [] (.inl h);exact Option.isSome_iff_exists.mp q
def C9(S:ak N ps scope)(hd:A.handled=none)(a:Ad P w K mg base A outer s H)(X:vs.length=ps.length)(r:Vals vs us)(x:InCallC s s.heap.objs.size (bindL (envOfC qual scope s.heap.objs.size f d).kindOf (ps.zip us) λ_=>none) (cellsFrom (s.heap.objs.size+1) scope.names []) (bindC (envOfC qual scope s.heap.objs.size f d).kindOf (ps.zip us) λ_=>none) s1):
  Inv (mz CX P w K mg base N qual scope f d A outer s H g) [] (start N vs) H s1:=by
 have U:ps.length<=N.length:=by have:=congrArg zcz S.pre;rw[zbq] at this;lia
 obtain⟨h1,tk,rfl,O⟩:=x.done;have j:∀b,b ∉ (mz CX P w K mg base N qual scope f d A outer s H g).ex:=λb z=>absurd (show b∈([]:List Addr) from z) (by simp);refine⟨⟨a.mod,S.kind,rfl,rfl,zcA _,λy z c h1 h2=>?_,λy C=>?_,λy c _ h=>?_,λ_=>hd,Around.frames_deeper a.frames,.inr ⟨rfl,rfl⟩,λb z=>absurd z (j b),a.bs,a.LO,λb _ _=>j b,λb z=>absurd z (j b),a.nE,a.QV⟩,rfl,a.bare,Un.kept O,⟨_,x.toInCall.ns,λi y v h1 h2 Y=>?_⟩,λy c h=>⟨_,x.cell y c h⟩,a.hok.fresh (zcA _),λy c h=>?_,λp F=>absurd (show p∈([]:List (Addr×Obj)) from F) (by simp),a.hok.kept O,?_⟩
 ·exact name_of_addr x.apart (PySem.mem_of_lookup h1) (PySem.mem_of_lookup h2)
 ·obtain C|C:=C
  ·exact xG C
  ·exact absurd rfl (S.Qq _ (PySem.mem_of_lookup C))
 ·exact zcq (x.above y c (PySem.mem_of_lookup h))
 ·have G:i<vs.length:=by
   unfold start at h2;by_cases G:i<vs.length
   ·exact G
   ·rw[zac (by simpa using G)] at h2;rw[List.getElem?_replicate] at h2;simp_all
  have W:vs[i]? =some v:=by
   unfold start at h2;rw[zag (by simpa using G)] at h2;(clear G;simp_all)
  let⟨u,L,Q⟩:=r.get W;have F:ps[i]? =some y:=by
   rw[<-S.pre,List.getElem?_take_of_lt (by simp_all)];exact h1
  have o:ps.Nodup:=by rw[<-S.pre];exact S.nd.sublist (List.take_sublist _ _)
  refine⟨u,Q,?_⟩;obtain k|k:=S.par y (zaF F)
  ·exact .inl ⟨k,sR o F L k⟩
  ·obtain⟨c,e⟩:=xG k;refine .inr ⟨.inl k,c,e,?_⟩;have q:=x.cell y c e;rw[sU o F L (by show scope.names.lookup y≠_;simp_all)] at q;exact q
 ·exact a.hok.fresh (zcq (x.above y c (PySem.mem_of_lookup h)))
 ·delta start;show _=N.length;simp_all
theorem Uu(lk:K.lookup f=some ⟨oc,od,.func (zcw name qual d body scope dV g Y pm an z ct),osl⟩)(hcd:zcb K z qual=true)(S:ak N ps scope)(len:∀vs H Q E,sp vs H Q E->vs.length=ps.length)(G:∀(A)(outer)(s)(H)(vs)(Q)(E),aW k (A.deeper (envOfC qual scope s.heap.objs.size f z))->sp vs H Q E->∃t,z7 (mz CX P w K mg base N qual scope f z A outer s H E) body t/\t {nx:=λ_ H'=>Q .bB H',rt:=Q} (start N vs) H):
  cY P w K mg base CX (k+1) f (zcw name qual d body scope dV g Y pm an z ct) ps sp:=by
 refine⟨len,λA outer s H ab us vs Q E hr X hb r O=>?_⟩;have hl:=len _ _ _ _ O;have KX  :=X.mod.T7.keeps λb o e=>(X.bs b o e).1;have lim  :=X.mod.nolimit.keeps λb o e=>(X.bs b o e).1;have F:∀y∈ps.zip us,scope.names.lookup y.1=some .local∨(scope.names.lookup y.1=some .cell/\((cellsFrom (s.heap.objs.size+1) scope.names []).lookup y.1).isSome=true):=λ⟨n,v⟩ hy=>by
  obtain q|q:=S.par n (zbI hy).1
  ·exact .inl q
  ·exact .inr ⟨q,PySem.W.cellsFrom_some _ _ _ (.inl q)⟩
 refine codeAny_call_function hr.depth (KX _ _ lk) rfl S.co S.gen rfl (PySem.W.codeRec_of KX hcd) (hb _ _ _ _ ?_);refine wpAny_newFunctionEnv_cells S.kind F λenv he s1 x=>?_;subst he;refine⟨lim.keeps x.toInCall.keep,codeAny_func ?_⟩;let⟨t,ht,hq⟩:=G A outer s H vs Q E (hr.deeper _) O;have I:Inv (mz CX P w K mg base N qual scope f z A outer s H E) [] (start N vs) H s1:=C9 S hr.hd X hl r x;refine yac (ht [] s1 (start N vs) H _ I hq) (λfl Z L=>?_) λe Z L=>L;have U:∀{C:St}{H':Hp}{v:V}{u:yai},Inv (mz CX P w K mg base N qual scope f z A outer s H E) [] C H' Z->RelV v u->Q v H'->CE outer P w H s Q u Z:=
  λ{C H' v u} J rv q=>⟨v,H',J.os,J.bare,J.base,J.hok,rv,q⟩
 cases fl with
 |ret u=>
  let⟨v,C,H',J,rv,q⟩:=L;exact U J rv q
 |next=>
  let⟨C,H',J,q⟩:=L;exact U (v:=V.bB) J rfl q
 |brk=>
  let⟨_,_,_,q⟩:=L;exact False.elim q
 |cont=>
  let⟨_,_,_,q⟩:=L;exact False.elim q
section
variable {p:Pos}{es:List Expr}{t:TA}{id T:String}{r:List V->Hp->VK->Prop}
def Sy(r:List V->Hp->VK->Prop)(t:TA):TE:=λa H Q=>t a H λvs j=>r vs j Q
def Ga(S:cJ X (.builtin id) r)(O:Gl X x)(L:X.mg x=none)(F:bootBuiltins x=some (.builtin id))(U:PA X (e::es) t)(G:autoParam (x≠"__name__") r1)(q:autoParam ((x==("__debug__":Str))=false) r1)(P:autoParam (yao (e::es) X.env=(false,eval e X.env)::yao es X.env) r0)(o:autoParam ((yau pos (yao es X.env)).any (·.1)=false) r0):PE X (.Call (.Name x p) (e::es) [] pos) (Sy r t):=by
 intro a s u H Q I h;refine wpAny_Call_Name_kw (gO I O L F ?_ G q);refine PyProof.Rows.callWith_builtin1 (cE (U pos a s u H _ I h) λv y j=>?_) P o;let⟨vs,Y,W,C,E⟩:=j;exact S a y u Y vs v Q W C E
def CL(P:cJ X (.type T) r)(L:Gl X x)(G:X.mg x=none)(E:bootBuiltins x=some (.type T))(S:PA X (e::es) t)(F:autoParam (x≠"__name__") r1)(o:autoParam ((x==("__debug__":Str))=false) r1)(O:autoParam (yao (e::es) X.env=(false,eval e X.env)::yao es X.env) r0)(j:autoParam ((yau pos (yao es X.env)).any (·.1)=false) r0):PE X (.Call (.Name x p) (e::es) [] pos) (Sy r t):=by
 intro a s q H Q I h;refine wpAny_Call_Name_kw (gO I L G E ?_ F o);exact PyProof.Rows.callWith_type1 (cE (S pos a s q H _ I h) λu v=>x2_2 λvs W U y C=>P a v q W vs u Q U y C) O j
end
section
variable {κ:Type}[DecidableEq κ]
noncomputable def eY(a:List (κ×V))(k:κ):Option V:=(a.find? λj=>decide (j.1=k)).map (·.2)
noncomputable def putK(a:List (κ×V))(k:κ)(v:V):List (κ×V):=
 if(a.any λj=>decide (j.1=k))=true then a.map (λj=>if j.1=k then(j.1,v) else j) else a++[(k,v)]
noncomputable def nq(a:List (κ×V))(k:κ):List (κ×V):=a.filter λj=>decide (j.1≠k)
def oE{k:κ}(e:d.1=k):eY (d::r) k=some d.2:=by simp[eY,e]
def oF{k:κ}(e:¬d.1=k):eY (d::r) k=eY r k:=by simp[eY,e]
theorem oG(k):∀a:List (κ×V),(a.any λj=>decide (j.1=k))=(eY a k).isSome
 |[]=>rfl
 |p::r=>by
  rw[zce];by_cases e:p.1=k
  ·simp only[oE e,yDt e,Bool.true_or,Option.isSome_some]
  ·rw[oF e,yDf e];exact oG k r
def iM(a:List (κ×V))(k)(v):(putK a k v).length<=a.length+1:=by
 delta putK;split
 ·simp
 simp
def gX.gj(r:gX d g):d.isSome=g.isSome:=by
 cases d with
 |none=>cases g with
  |none=>rfl
  |some _=>exact(show False from r).elim
 |some _=>cases g with
  |none=>exact(show False from r).elim
  |some _=>rfl
theorem gX.getD(r:gX g k)(rd:RelV d q):RelV (g.getD d) (k.getD q):=by
 cases g with
 |none=>cases k with
  |none=>exact rd
  |some _=>exact(show False from r).elim
 |some _=>cases k with
  |none=>exact(show False from r).elim
  |some _=>exact r
def KV.val(r:KV d vs)(k:κ):gX (eY d k) (valueAt vs k):=by
 induction r with
 |nil=>exact True.intro
 |@cons p q ps qs h t ih=>
  let⟨h1,h2⟩:=h;by_cases e:p.1=k
  ·have j  :=h1.symm.trans e;have b:valueAt (q::qs) k=some q.2:=by simp[valueAt,j]
   rw[oE e,b];exact h2
  ·have j:¬q.1=k:=λz=>e (h1.trans z);have b:valueAt (q::qs) k=valueAt qs k:=by simp[valueAt,j]
   rw[oF e,b];exact ih
theorem KV.any(r:KV d vs)(k:κ):(d.any λj=>decide (j.1=k))=vs.any λj=>decide (j.1=k):=by
 induction r with
 |nil=>rfl
 |cons h t ih=>simp_all
theorem KV.repl(r:KV d vs)(k:κ)(o:RelV y u):
  KV (d.map λa=>if a.1=k then(a.1,y) else a) (vs.map λa=>if a.1=k then(a.1,u) else a):=by
 induction r with
 |nil=>exact .nil
 |@cons p q ps qs h t ih=>
  refine .cons ?_ ih;lia
def KV.put(r:KV d vs)(k:κ)(j:RelV y u):KV (putK d k y) (stored vs k u):=by
 delta putK stored;rw[r.any k];by_cases e:(vs.any λo=>decide (o.1=k))=true
 ·rw[yIp e,yIp e];exact r.repl k j
 ·rw[yIn e,yIn e];exact Paired.snoc r ⟨rfl,j⟩
def KV.drop(r:KV d vs)(k:κ):KV (nq d k) (without vs k):=by
 delta nq without
 induction r with
 |nil=>exact .nil
 |@cons p q ps qs h t ih=>
  let⟨h1,h2⟩:=h;rw[zbr,zbr];by_cases e:p.1=k
  ·have a:¬decide (p.1≠k)=true:=by simp[e]
   have b:¬decide (q.1≠k)=true:=by simp_all
   rw[yIn a,yIn b];exact ih
  ·have o:¬q.1=k:=λz=>e (h1.trans z);have a:decide (p.1≠k)=true:=by simp[e]
   have b:decide (q.1≠k)=true:=by simp[o]
   rw[yIp a,yIp b];exact .cons ⟨h1,h2⟩ ih
theorem KV.length{vs:List (κ×yai)}(r:KV d vs):d.length=vs.length:=Paired.length r
def Ht(a:List (κ×V))(k):(nq a k).length<=a.length:=zay _ _
end
def kQ(r:RelV (kV k) u):(bJ P w).is k u=true:=by
 cases k with
 |inl i=>let⟨t,e⟩:=(show∃t,u=Value.int i t from r);subst e;exact wz P w i t
 |inr x=>let⟨t,e⟩:=(show∃t,u=Value.str x t from r);subst e;exact wu P w x t
theorem sr:∀{ks:List Key}{a:List yai},Vals (ks.map kV) a->ItemsAre (bJ d g) ks a
 |[],_,r=>by cases r;exact .nil
 |k::ks,_,r=>by
  cases r with
  |cons h t=>exact .cons (kQ h) (sr t)
abbrev KT(H:Hp):List (List Key×V)->List (List Key×Addr×yai)->Prop:=Paired λp q=>p.1=q.1/\H q.2.1=some (.tup (p.1.map kV))/\RelV p.2 q.2.2
def KT.val(r:KT H d g)(k):gX (eY d k) ((atKey g k).map (·.2)):=by
 induction r with
 |nil=>exact True.intro
 |@cons p q ps qs h t ih=>
  let⟨h1,_,h2⟩:=h;by_cases e:p.1=k
  ·have j  :=h1.symm.trans e;have b:atKey (q::qs) k=some q.2:=by simp[atKey,j]
   rw[oE e,b];exact h2
  ·have j:¬q.1=k:=λz=>e (h1.trans z);have b:atKey (q::qs) k=atKey qs k:=by simp[atKey,j]
   rw[oF e,b];exact ih
theorem KT.repl(r:KT H d g)(k)(s:RelV y u):
  KT H (d.map λj=>if j.1=k then(j.1,y) else j) (g.map (putAt k u)):=by
 induction r with
 |nil=>exact .nil
 |@cons p q ps qs h t ih=>
  rw[zcf];refine .cons ?_ ih;let⟨h1,h2,v⟩:=h;delta putAt;by_cases e:p.1=k
  ·rw[yIp e,yIp (h1.symm.trans e)];refine⟨h1,h2,s⟩
  simp_all
def KT.put(r:KT H d g)(k)(v:H z=some (.tup (k.map kV)))(o:RelV y u):
  KT H (putK d k y) (storedH g k z u):=by
 have e:(d.any λs=>decide (s.1=k))=(atKey g k).isSome:=by
  rw[oG,(r.val k).gj,Option.isSome_map]
 delta putK storedH;rw[e];by_cases q:(atKey g k).isSome=true
 ·rw[yIp q,yIp q];exact r.repl k o
 ·rw[yIn q,yIn q];exact Paired.snoc r ⟨rfl,v,o⟩
def KT.keeps(r:KT H d g)(q:∀b j,H b=some (.tup j)->H' b=some (.tup j)):KT H' d g:=
 Paired.T4 r λ_ _ z=>⟨z.1,q _ _ z.2.1,z.2.2⟩
def Nk(ok:jy P w H h)(e:Rd H a d):bq P w H h a d:=e.ok ok
def nv(ok:jy P w H h)(e:Rd H a (.dK kvs)):kvs.length<=yag/\(a==yas)=false/\∃vs,KV kvs vs/\h.DictOf (bJ P w) a vs:=
 show bq P w H h a (.dK kvs) from Nk ok e
def BJ(ok:jy P w H h)(e:H a=some (.dK kvs)):kvs.length<=yag/\(a==yas)=false/\∃vs,KV kvs vs/\h.DictOf (bJ P w) a vs:=nv ok (.inl e)
def mw(ok:jy P w H h)(e:H a=some (.tup (d.map kV))):(tupleKind (bJ P w)).is h d a:=by
 obtain⟨_,j,r,o,h1,h2,n,q⟩:=(show bq P w H h a (.tup (d.map kV)) from ok a _ e)
 refine⟨o,j.toArray,n,h1,h2,q,by simpa using sr r⟩
def qd(ok:jy P w H h)(e:Rd H a (.dT d)):d.length<=yag/\(a==yas)=false/\
  ∃u,KT H d u/\h.DictOfH (tupleKind (bJ P w)) a u:=by
 let⟨z,y,u,r,o,F,G,h1,h2,E,C,v⟩:=(show bq P w H h a (.dT d) from Nk ok e)
 refine⟨z,y,u,r,o,F,G,h1,h2,E,C,λx s=>?_,v⟩;have all:∀{l:List (List Key×V)}{m:List (List Key×Addr×yai)},KT H l m->∀x∈m,(tupleKind (bJ P w)).is h x.1 x.2.1:=by
  intro l m q
  induction q with
  |nil=>intro x s;exact nomatch s
  |@cons p q ps qs hq t ih=>
   intro x s;obtain e|s:=zcd.mp s
   ·exact mw ok (by simp_all)
   ·exact ih x s
 exact all r x s
def Uz(ok:jy P w H h)(e:H a=some (.dT d)):d.length<=yag/\(a==yas)=false/\
  ∃o,KT H d o/\h.DictOfH (tupleKind (bJ P w)) a o:=qd ok (.inl e)
def nJ(H:Hp)(a:Addr)(y:V)(r:Option V):Prop:=
 (∃j k,Rd H a (.dK j)/\y=kV k/\r=eY j k)∨∃j k b,Rd H a (.dT j)/\y=.ref b/\H b=some (.tup (k.map kV))/\r=eY j k
def Jo(H:Hp)(a:Addr)(y v:V)(H':Hp):Prop:=
 (∃j k,H a=some (.dK j)/\y=kV k/\j.length<yag/\H'=upd H a (.dK (putK j k v)))∨
 ∃j k b,H a=some (.dT j)/\y=.ref b/\H b=some (.tup (k.map kV))/\j.length<yag/\H'=upd H a (.dT (putK j k v))
theorem nJ.k{H:Hp}{a:Addr}{j:List (Key×V)}{k:Key}(e:H a=some (.dK j)):nJ H a (kV k) (eY j k):=.inl ⟨j,k,.inl e,rfl,rfl⟩
theorem Jo.k{H:Hp}{a:Addr}{j:List (Key×V)}{k:Key}{v:V}(e:H a=some (.dK j))(o:j.length<yag):Jo H a (kV k) v (upd H a (.dK (putK j k v))):=.inl ⟨j,k,e,rfl,o,rfl⟩
section
variable {σ:St}{r:yai}{o:Option V}
def Inv.big(I:Inv X pins σ H s):yas<s.heap.objs.size:=by
 have h  :=(I.mod.glob.keeps I.bk).lt;exact zcs (by decide) h
def Dj(S:A.units+1<cLine)(I:Inv X pins σ H s)(g:nJ H a y (some v))(P:RelV y u)(h:∀x O,Inv X pins σ H O->RelV v x->Q x O):
  yar (model X.prog X.w) A (getItem (.ref a) u) Q E s:=by
 rcases g with⟨C,k,e,G,l⟩|⟨C,k,b,e,G,W,l⟩
 ·subst G;obtain⟨z,hd,vs,q,L⟩:=nv I.hok e;let⟨x,hw,j⟩:=gX.some_of (by rw[l];exact q.val k);exact wpAny_getItem_of (kQ P) L.mapOf hw (h x _ (I.tok _) j)
 ·subst G;cases(show u=Value.ref b from P);obtain⟨z,hd,Y,q,L⟩:=qd I.hok e;let⟨x,hw,j⟩:=gX.some_of (by rw[l];exact q.val k);let⟨p,U,F⟩:=zat.mp hw;refine wpAny_getItem_heap (tupleKind_room_in1 S) (mw I.hok W) L U ?_;rw[F];exact h x _ (I.tok _) j
def Ww(L:A.units+1<cLine)(I:Inv X pins σ H s)(g:nJ H a y o)(G:RelV y u)(h:∀F,Inv X pins σ H F->Q (.bool o.isSome) F):
  yar (model X.prog X.w) A (yan .In u (.ref a)) Q E s:=by
 rcases g with⟨v,k,e,x,l⟩|⟨v,k,b,e,x,O,l⟩
 ·subst x;let⟨z,hd,vs,j,C⟩:=nv I.hok e;refine wpAny_in_of (kQ G) hd C.mapOf ?_;rw[<-(j.val k).gj,<-l];exact h _ (I.tok _)
 ·subst x;cases(show u=Value.ref b from G);let⟨z,hd,P,j,C⟩:=qd I.hok e;refine wpAny_in_heap (tupleKind_room_in1 L) (mw I.hok O) hd C ?_;have q:=(j.val k).gj;rw[Option.isSome_map] at q;rw[<-q,<-l];exact h _ (I.tok _)
def Lq(L:A.units+1<cLine)(I:Inv X pins σ H s)(g:nJ H a y o)(G:RelV y u)(h:∀F,Inv X pins σ H F->Q (.bool (!o.isSome)) F):
  yar (model X.prog X.w) A (yan .NotIn u (.ref a)) Q E s:=by
 rcases g with⟨v,k,e,x,l⟩|⟨v,k,b,e,x,O,l⟩
 ·subst x;let⟨z,hd,vs,j,C⟩:=nv I.hok e;refine wpAny_notIn_of (kQ G) hd C.mapOf ?_;rw[<-(j.val k).gj,<-l];exact h _ (I.tok _)
 ·subst x;cases(show u=Value.ref b from G);let⟨z,hd,P,j,C⟩:=qd I.hok e;refine wpAny_notIn_heap (tupleKind_room_in1 L) (mw I.hok O) hd C ?_;have q:=(j.val k).gj;rw[Option.isSome_map] at q;rw[<-q,<-l];exact h _ (I.tok _)
def oj(I:Inv X pins σ H s)(u:Sd (H a))(v:Heap.SameBut a s.heap h')(y:∃q,h'.get? a=some q)(new:bq X.prog X.w (upd H a d) h' a d):
  Inv X pins σ (upd H a d) {s with heap:=h',toks:=t'}:=
 I.write (x:=a) (e:=a) u (.inl rfl) (λb q C z=>(v.2 b C).trans z) y new
def Hv(z:kvs.length<=yag)(hd:(a==yas)=false)(j:KV kvs vs)(q:h'.DictOf (bJ P w) a vs):
  bq P w H' h' a (.dK kvs):=⟨z,hd,vs,j,q⟩
def Di(hu:A.units+1<cLine)(I:Inv X pins σ H s)(g:Jo H a y v H')(W:RelV y u)(Y:RelV v r)(h:∀U,Inv X pins σ H' U->d () U):
  yar (model X.prog X.w) A (setItem (.ref a) u r) d E s:=by
 rcases g with⟨x,k,e,O,l,P⟩|⟨x,k,b,e,O,eb,l,P⟩
 ·subst O P;let⟨z,hd,vs,j,S⟩:=BJ I.hok e;have hz:vs.length<=yag:=by rw[<-j.length];exact z
  have L:(putK x k v).length<=yag:=by have:=iM x k v;lia
  refine wpAny_setItem_pairs (kQ W) S λZ C G=>h _ ?_;have he:∃q,Z.get? a=some q:=by let⟨q,_,_,F,_⟩:=C;exact⟨q,F⟩
  exact oj I (by rw[e];exact True.intro) G he (Hv L hd (j.put k Y) C)
 ·subst O P;cases(show u=Value.ref b from W);let⟨z,hd,xs,j,S⟩:=Uz I.hok e;have hz:xs.length<=yag:=by rw[<-Paired.length j];exact z
  have L:(putK x k v).length<=yag:=by have:=iM x k v;lia
  refine wpAny_setItem_heap (tupleKind_room_in1 hu) (mw I.hok eb) S λZ C G=>h _ ?_;let⟨q,es,ep,F,h2,h3,h4,_,h5⟩:=C;refine oj I (by rw[e];exact True.intro) G ⟨q,F⟩ ⟨L,hd,_,(j.put k eb Y).keeps λc ys ec=>?_,q,es,ep,F,h2,h3,h4,h5⟩;rw[aQ (TX ec e (λz=>nomatch z))];exact ec
end
section
variable {σ:St}{k:Key}
def UB(I:Inv X pins σ H s)(e:H a=some (.dK kvs))(C:RelV (kV k) u)(l:eY kvs k=some v)(O:more=[]∨∃x,more=[x])(h:∀o L,Inv X pins σ (upd H a (.dK (nq kvs k))) L->RelV v o->Q o L):yar (model X.prog X.w) A (call (.builtin "dict.pop") (.ref a::u::more)) Q E s:=by
 obtain⟨z,hd,vs,j,P⟩:=BJ I.hok e;let⟨o,hw,G⟩:=gX.some_of (by rw[<-l];exact j.val k);have W:(keyPart u).isSome=true:=by
  cases k with
  |inl i=>let⟨t,q⟩:=(show∃t,u=Value.int i t from C);subst q;rfl
  |inr x=>let⟨t,q⟩:=(show∃t,u=Value.str x t from C);subst q;rfl
 have Z:argsOk "dict.pop" ⟨.ref a::u::more,[]⟩:=by
  obtain q|⟨x,q⟩:=O
  ·subst q;exact PySem.F.args_dict_pop_2 _ _
  ·subst q;exact PySem.F.args_dict_pop_3 _ _ _
 refine call_meetsIn PySem.F.slot_dict_pop P.typeIs PySem.F.entry_dict_pop Z (meets_dict_pop_there (bJ X.prog X.w) a (kQ C) more O W)
  ⟨vs,o,P,by rw[<-j.length];exact z,hw,λh' y S=>h o _ ?_ G⟩
 have Y:∃q,h'.get? a=some q:=by let⟨q,_,_,U,_⟩:=y;exact⟨q,U⟩
 exact oj I (by rw[e];exact True.intro) S Y (Hv (zcp (Ht kvs k) z) hd (j.drop k) y)
def UC(I:Inv X pins σ H s)(e:Rd H a (.dK kvs))(h:∀t o,Inv X pins σ H o->Q (.int kvs.length t) o):yar (model X.prog X.w) A (call (.builtin "len") [.ref a]) Q E s:=by
 let⟨z,hd,vs,j,q⟩:=nv I.hok e;refine call_len_dict hd q (by rw[<-j.length];rw[yaf] at z;lia) ?_;rw[<-j.length];exact h _ _ (I.tok _)
end
def DN(i:Expr):Prop:=∀a j,subscripted i false a j=operate [a,j] (getItem a j)
def tK(H:typeLookup (.type T) "__getitem__"=pure (some (.builtin g)))(G:DN d)(h:yar (model prog w) A (eval value env) (λo v=>yar (model prog w) A (eval d env) (λi j=>j.TypeIs o T/\yar (model prog w) A (getItem o i) Q E j) E v) E s):
  yar (model prog w) A (eval (.Subscript value d pos) env) Q E s:=by
 refine Subscript_ (yac h (λo v F=>yac F (λi j q=>?_) λ_ _ x=>x) λ_ _ x=>x);let⟨I,q⟩:=q;refine yaa ?_;refine yaa (wpAny_specialOf I H ?_);have y:yar (model prog w) A (subscripted d false o i) (λr u=>yar (model prog w) A (letTemporaryGo value o r >>= λ_=>pure r) Q E u) E j:=by
  rw[G o i];exact wpAny_operating (yac q (λr u C=>yaa (wpAny_letTemporaryGo (yab C))) λ_ _ x=>x)
 first
  |exact yab (yaa y)
  |exact yaa (yab (yaa y))
  |exact yaa y
def xq(I:Inv X pins d H s)(g:nJ H a y r):s.TypeIs (.ref a) "dict":=by
 rcases g with⟨j,k,e,_,_⟩|⟨j,k,b,e,_,_,_⟩
 ·let⟨_,_,vs,_,q⟩:=nv I.hok e;exact q.typeIs
 ·let⟨_,_,v,_,q⟩:=qd I.hok e;exact q.typeIs
def MS(q ty:TE):TE:=λj H Q=>q j H λx s=>ty j s λy o=>∃a v,x=.ref a/\nJ o a y (some v)/\Q v o
def Nh(s ty q:TE):TS:=λD j H=>q j H λv E=>s j E λx C=>ty j C λy u=>∃a o,x=.ref a/\Jo u a y v o/\D.nx j o
section
variable {o i:Expr}{tpos:Pos}{td ty tv:TE}
def Ky(W:X.A.units+1<cLine)(Z:PE X o td)(hi:PE X i ty)(Y:DN i):PE X (.Subscript o i pos) (MS td ty):=by
 intro j s G H Q I h;refine tK PySem.F.slot_dict_getitem.lookup Y (cE (Z j s G H _ I h) λu O C=>?_);let⟨x,H1,I1,S,U⟩:=C;refine cE (hi j O G H1 _ I1 U) λiv s2 q=>?_;obtain⟨y,H2,L,P,a,v,ex,g,q2⟩:=q;subst ex;obtain rfl:u=Value.ref a:=S;exact⟨xq L g,Dj W L g P λw' s3 I3 E=>⟨v,H2,I3,E,q2⟩⟩
def Ku(W:X.A.units+1<cLine)(Z:PE X o td)(hi:PE X i ty)(U:PE X value tv)(Y:yat value (some (.Subscript o i pos')) pos.line X.env=pure false):
  PS X (.Assign [.Subscript o i pos'] value pos) (Nh td ty tv):=by
 intro j s q H D I h;refine wpAny_Assign_Subscript (cE (U j s q H _ I h) λr L F=>?_) Y;let⟨v,H1,I1,Q,S⟩:=F;refine cE (Z j L q H1 _ I1 S) λu G E=>?_;let⟨x,H2,I2,P,q2⟩:=E;refine cE (hi j G q H2 _ I2 q2) λiv s3 C=>?_;obtain⟨y,H3,I3,O,a,H4,ex,g,q3⟩:=C;subst ex;obtain rfl:u=Value.ref a:=P;exact Di W I3 g O Q λs4 I4=>⟨q,H4,I4,q3⟩
end
def Hw(h:Heap)(a:yas<h.objs.size):bq P w H (h.push {cls:=.type "dict",data:=.dict #[]}) h.objs.size (.dK []):=
 ⟨zcB _,beq_eq_false_iff_ne.mpr (Ne.symm (zco a)),[],.nil,Heap.DictOf.new h⟩
def Em:TE:=λ_ H Q=>∀p,H p=none->Q (.ref p) (upd H p (.dK []))
def gg:PE X (.Dict [] [] pos) Em:=λj s u H Q I h=>
 wpAny_Dict_empty ⟨.ref s.heap.objs.size,_,I.laid (a:=s.heap.objs.size) (o:=.dK []) (t':=s.toks) (λ_ _ q=>zau _ q) (zcA _) (Hw s.heap I.big),rfl,h _ (I.hok.fresh (zcA _))⟩
structure M1(X:Cx)(o:Expr)(m:Str)(apos:Pos)(e:Expr)(cpos:Pos):Prop where
 base:attributeBase o m X.env (eval o X.env)=eval o X.env
 few:((yau cpos (yao [e] X.env)).all (λx=>!x.1)&&(yaF cpos (yaE [] X.env)).all (λx=>x.1.isSome)&&decide (([e]:List Expr).length+([]:List Keyword).length+(if([]:List Keyword).isEmpty then 0 else 1)<30))=true
 line:(apos.endLine==cpos.line)=true
 trees:yau cpos (yao [e] X.env)=[(false,eval e X.env)]
structure M2(X:Cx)(o:Expr)(m:Str)(apos:Pos)(e f:Expr)(cpos:Pos):Prop where
 base:attributeBase o m X.env (eval o X.env)=eval o X.env
 few:((yau cpos (yao [e,f] X.env)).all (λx=>!x.1)&&(yaF cpos (yaE [] X.env)).all (λx=>x.1.isSome)&&decide (([e,f]:List Expr).length+([]:List Keyword).length+(if([]:List Keyword).isEmpty then 0 else 1)<30))=true
 line:(apos.endLine==cpos.line)=true
 trees:yau cpos (yao [e,f] X.env)=[(false,eval e X.env),(false,eval f X.env)]
def WT(H:Hp)(a:Addr):Prop:=(∃j,Rd H a (.dK j))∨∃j,Rd H a (.dT j)
def GZ(I:Inv X pins g H s)(d:WT H a):
  s.TypeIs (.ref a) "dict"/\(∀b,Value.ref a=.ref b->∃j,s.heap.get? b=some j/\j.dict=none)/\(a==yas)=false:=by
 rcases d with⟨u,e⟩|⟨u,e⟩
 ·let⟨_,hd,vs,_,o⟩:=nv I.hok e;refine⟨o.typeIs,λb q=>?_,hd⟩;cases q;let⟨j,_,_,h1,h2,_⟩:=o;refine⟨j,h1,h2.2.1⟩
 ·let⟨_,hd,x,_,o⟩:=qd I.hok e;refine⟨o.typeIs,λb q=>?_,hd⟩;cases q;let⟨j,_,_,h1,h2,_⟩:=o;refine⟨j,h1,h2.2.1⟩
section
variable {σ:St}{d:V}{r:yai}{o:Option V}
def QZ(P:A.units+1<cLine)(I:Inv X pins σ H s)(g:nJ H a y o)(L:RelV y u)(rd:RelV d r)(h:∀C G,Inv X pins σ H G->RelV (o.getD d) C->Q C G):
  yar (model X.prog X.w) A (call (.builtin "dict.get") [.ref a,u,r]) Q E s:=by
 rcases g with⟨v,k,e,x,l⟩|⟨v,k,b,e,x,S,l⟩
 ·subst x;let⟨z,hd,vs,j,q⟩:=nv I.hok e;refine call_meetsIn PySem.F.slot_dict_get q.typeIs PySem.F.entry_dict_get (PySem.F.args_dict_get_3 _ _ _) (meets_dict_get_default (bJ X.prog X.w) a (kQ L) hd r) ⟨_,q.mapOf,h _ _ (I.tok _) ?_⟩;rw[l];exact(j.val k).getD rd
 ·subst x;cases(show u=Value.ref b from L);let⟨z,hd,O,j,q⟩:=qd I.hok e;refine call_meetsIn PySem.F.slot_dict_get q.typeIs PySem.F.entry_dict_get (PySem.F.args_dict_get_3 _ _ _) (meetsH_dict_get_default (tupleKind (bJ X.prog X.w)) a b hd r) ⟨tupleKind_room_in1 P,k,O,mw I.hok S,q,h _ _ (I.tok _) ?_⟩;rw[l];exact(j.val k).getD rd
end
def Ep(u ty tx:TE):TE:=λj H Q=>u j H λx s=>∃a,x=.ref a/\WT s a/\ty j s λy v=>tx j v λz q=>∃o,nJ q a y o/\Q (o.getD z) q
def El(u ty:TE):TE:=λo H Q=>u o H λx s=>∃a,x=.ref a/\WT s a/\ty o s λy q=>∃j k v,q a=some (.dK j)/\y=kV k/\eY j k=some v/\Q v (upd q a (.dK (nq j k)))
section
variable {o f:Expr}{td ty tx:TE}
def pF(hu:X.A.units+1<cLine)(ho:PE X o td)(he:PE X e ty)(hf:PE X f tx)(m:M2 X o "get" apos e f cpos):PE X (.Call (.Attribute o "get" apos) [e,f] [] cpos) (Ep td ty tx):=by
 intro j s v H Q I h;refine wpAny_Call_method m.base m.few m.line PySem.F.plainAttrs_dict PySem.F.slot_dict_get PySem.F.type_dict_get (cE (ho j s v H _ I h) λu S q=>?_);obtain⟨x,H1,G,Y,a,ex,d,Z⟩:=q;subst ex;obtain rfl:u=Value.ref a:=Y;let⟨O,L,_⟩:=GZ G d;refine⟨O,L,?_⟩;rw[m.trees];refine zaw rfl (zaH (zaZ (cE (he j S v H1 _ G Z) λiv P q=>?_)));let⟨y,H2,I2,W,q2⟩:=q;refine zaZ (cE (hf j P v H2 _ I2 q2) λfv s3 C=>?_);obtain⟨z,H3,I3,U,ov,g,q3⟩:=C;refine zbp ?_;exact QZ hu I3 g W U λw' s4 I4 E=>⟨_,H3,I4,E,q3⟩
def F7(Z:PE X o td)(he:PE X e ty)(m:M1 X o "pop" apos e cpos):PE X (.Call (.Attribute o "pop" apos) [e] [] cpos) (El td ty):=by
 intro j s E H Q I h;refine wpAny_Call_method m.base m.few m.line PySem.F.plainAttrs_dict PySem.F.slot_dict_pop PySem.F.type_dict_pop (cE (Z j s E H _ I h) λu P q=>?_);obtain⟨x,H1,G,U,a,ex,d,W⟩:=q;subst ex;obtain rfl:u=Value.ref a:=U;let⟨O,L,_⟩:=GZ G d;refine⟨O,L,?_⟩;rw[m.trees];refine zaw rfl (zaH (zaZ (cE (he j P E H1 _ G W) λiv s2 q=>?_)));obtain⟨y,H2,I2,S,Y,k,v,ea,ey,l,q2⟩:=q;refine zbp ?_;subst ey;exact UB I2 ea S l (.inl rfl) λw' s3 I3 C=>⟨v,_,I3,C,q2⟩
end
end L2
variable {te:L2.TE}
namespace HT
open PySem PyProof.Rows
def LK(I:IsTup s.heap d vs.toArray)(O:IsTup s.heap g ws.toArray)(P:vs≠[])(h1:ws=[]->Q (.ref d) s)(h2:ws≠[]->Q (.ref s.heap.objs.size) {s with heap:=s.heap.push {cls:=.type "tuple",data:=.seq (vs++ws).toArray}})(hsz:vs.length+ws.length<=yag):yar (model prog w) A (binaryOp .Add (.ref d) (.ref g)) Q E s:=by
 let⟨⟨cls,G,data,y⟩,q,L,n,hd⟩:=id I;let⟨⟨H,o,x,j⟩,a,v,C,u⟩:=id O;subst L hd v u;have e:vs.toArray++ws.toArray=(vs++ws).toArray:=by simp
 by_cases hw:ws=[]
 ·exact concat_meets ⟨_,q,rfl⟩ ⟨_,a,rfl⟩ noFill_tuple_add seq_tuple_add PySem.F.slot_tuple_add PySem.F.entry_tuple_add (PySem.F.args_tuple_add_2 _ _)
   (tuple_addW1 d g vs.toArray ws.toArray n C G o y j (by simp_all) (by simp[hw])) ⟨q,a,h1 hw⟩
 ·refine concat_meets ⟨_,q,rfl⟩ ⟨_,a,rfl⟩ noFill_tuple_add seq_tuple_add PySem.F.slot_tuple_add PySem.F.entry_tuple_add (PySem.F.args_tuple_add_2 _ _)
   (tuple_addW2 d g vs.toArray ws.toArray n C G o y j (by simp_all) (by simp_all) (by simp_all)) ⟨q,a,?_⟩
  rw[e];exact h2 hw
noncomputable def tQ(n d:Nat):Option Int->Nat
 |none=>d
 |some v=>if v<0 then(v+(n:Int)).toNat else min v.toNat n
def jc(n d k:Nat):tQ n d (some (k:Int))=min k n:=by
 rfl
end HT
namespace L2
open PySem PySem.Spec PyProof.Rows
abbrev TO:=St->Hp->(Option Int->Hp->Prop)->Prop
def PO(X:Cx)(e:Option Expr)(t:TO):Prop:=
 ∀(a:List (Addr×Obj))(s:yah)(j:St)(H:Hp)(Q:Option Int->Hp->Prop),Inv X a j H s->t j H Q->
  yar (model X.prog X.w) X.A (evalPart e X.env) (λu v=>∃o q,Inv X a j q v/\IsPart u o/\Q o q) X.xe s
def Ah:TO:=λ_ H Q=>Q none H
def MM(t:TE):TO:=λa H Q=>t a H λx j=>∃i,x=.int i/\Q (some i) j
def intsAre_of:∀{a:List yai},Vals (ns.map V.int) a->IntsAre a ns:=by
 induction ns with
 |nil=>intro a r;cases r;exact .nil
 |cons n ns ih=>
  intro a r;cases r with
  |cons r1 r2=>
   let⟨t,e⟩:=r1;subst e;exact .cons n t (ih r2)
section
variable {lo hi:Option Expr}{tl th:TO}{p2:Pos}
def nU:PO X none Ah:=by
 intro a s j H Q I h;exact yab ⟨none,H,I,.none,h⟩
def fN(h:PE X e te):PO X (some e) (MM te):=by
 intro a s o H Q I hw;refine cE (h a s o H _ I hw) λu F j=>?_;let⟨x,E,C,v,y⟩:=j;let⟨i,rfl,q⟩:=y;let⟨t,rfl⟩:=v;refine⟨some i,E,C,.int i t,q⟩
def RM(X:Cx)(r:V->Option Int->Option Int->Hp->VK->Prop):Prop:=
 ∀(a)(s)(j:St)(H)(x)(v q o)(lo hi)(u)(Q),Inv X a j H s->RelV x v->s.heap.IsSliceOf u q o .none->IsPart q lo->IsPart o hi->r x lo hi H Q->
  ∃T id,typeLookup (.type T) "__getitem__"=pure (some (.builtin id))/\s.TypeIs v T/\yar (model X.prog X.w) X.A (getItem v (.ref u)) (EP X a j Q) X.xe s
def RM.or(h:RM X r)(h':RM X d):RM X (λx lo hi H Q=>r x lo hi H Q∨d x lo hi H Q):=by
 intro a s j H x v u o lo hi y Q I C F pl pu q;obtain q|q:=q
 ·exact h a s j H x v u o lo hi y Q I C F pl pu q
 ·exact h' a s j H x v u o lo hi y Q I C F pl pu q
def WX(r:V->Option Int->Option Int->Hp->VK->Prop)(te:TE)(tl th:TO):TE:=λa H Q=>te a H λx q=>tl a q λl o=>th a o λu j=>r x l u j Q
def gf(Y:RM X r)(he:PE X e te)(Z:PO X lo tl)(U:PO X hi th):PE X (.Subscript e (.Slice lo hi none p2) pos) (WX r te tl th):=by
 intro a s o H Q I h;refine Subscript_ (cE (he a s o H _ I h) λv O j=>?_);let⟨x,H1,I1,P,S⟩:=j;refine wpAny_Slice (cE (Z a O o H1 _ I1 S) λF L j=>?_);let⟨l,H2,I2,pl,q2⟩:=j;refine cE (U a L o H2 _ I2 q2) λE y C=>?_;let⟨u,G,I3,pu,q3⟩:=C;refine yab ?_;have I4:Inv X a o G {y with heap:=y.heap.push {cls:=.type "slice",data:=.fields #[F,E,.none]}}:=I3.kept λb ob q=>zau _ q;let⟨T,id,hT,W,hg⟩:=Y a {y with heap:=y.heap.push {cls:=.type "slice",data:=.fields #[F,E,.none]}} o G x v F E l u y.heap.objs.size Q I4 P (Heap.IsSliceOf.new ..) pl pu q3;exact tail_any W hT hg (by rfl)
noncomputable def HC(a:List V)(lo hi:Option Int):List V:=(a.drop (HT.tQ a.length 0 lo)).take (HT.tQ a.length a.length hi - HT.tQ a.length 0 lo)
def xy(a)(lo hi):(HC a lo hi).length<=a.length:=by
 delta HC;rw[zbq,List.length_drop];omega
def Tr(K:yaJ):R2:=λx y H Q=>∃a b o j,x=.ref a/\y=.ref b/\fR K H a o/\fR K H b j/\o≠[]/\o.length+j.length<=yag/\
 (j=[]->Q (.ref a) H)/\(j≠[]->∀p,H p=none->Q (.ref p) (upd H p (.tup (o++j))))
def Vals.uo(r:Vals xs us):us=[]↔xs=[]:=by
 cases r with
 |nil=>simp
 |cons _ _=>simp
def KG:iw X (binaryOp .Add) (Tr X.K):=by
 intro C s Y H x y v u Q I G F h;let⟨a,b,xs,Z,rfl,rfl,W,U,S,hz,L,q2⟩:=h;cases G;cases F;let⟨P,o,O,_⟩:=I.tuple W;let⟨E,j,p2,_⟩:=I.tuple U;refine HT.LK O p2 (λz=>S (o.uo.mp z)) (λz=>⟨.ref a,H,I,rfl,L (j.uo.mp z)⟩) (λz=>?_) (by rw[<-o.length,<-j.length];exact hz);refine⟨.ref s.heap.objs.size,_,I.laid (λb ob q=>zau _ q) (zcA _) ?_,rfl,q2 (λw=>z (j.uo.mpr w)) _ (I.hok.fresh (zcA _))⟩;refine⟨by simp_all,_,o.append j,IsTup.new _ _⟩
end
noncomputable def NC(n:Nat)(i:Int):Option Nat:=if 0<=i then(if i<n then some i.toNat else none) else if -(n:Int)<=i then some (i+n).toNat else none
noncomputable def ia{α:Type}(a:List α)(i:Int):Option α:=(NC a.length i).bind λj=>a[j]?
def K3(h:NC n d=some j):seqIndex? d n=some j/\j<n/\-(n:Int)<=d/\d<n:=by
 delta NC at h;by_cases a:0<=d
 ·rw[yIp a] at h;by_cases h1:d<n
  ·rw[yIp h1] at h;have e  :=zcD.inj h;refine⟨by rw[seqIndex_of a h1,e],by lia,by lia,h1⟩
  simp_all
 ·rw[yIn a] at h;by_cases h1: -n<=d
  ·rw[yIp h1] at h;have e  :=zcD.inj h;refine⟨by rw[seqIndex_neg (by simp_all) h1,e],by lia,h1,by lia⟩
  simp_all
def uO{α:Type}{a:List α}{v:α}(h:ia a d=some v):∃j,seqIndex? d a.length=some j/\a[j]? =some v/\j<a.length/\-(a.length:Int)<=d/\d<a.length:=by
 delta ia at h;cases e:NC a.length d with
 |none=>rw[e] at h;cases h
 |some j=>
  rw[e] at h;let⟨h1,h2,q,o⟩:=K3 e;refine⟨j,h1,h,h2,q,o⟩
def dX{α:Type}{a:List α}{v:α}(h:a[j]? =some v):ia a (j:Int)=some v:=by
 have hj  :=(zaf.mp h).1;have e:NC a.length j=some j:=by
  delta NC;simp_all
 delta ia;rw[e];exact h
def oz(b:Expr):Prop:=∀o i,subscripted b false o i=operate [o,i] (getItem o i)
def Jx(X:Cx)(r:R2):Prop:=
 ∀(o a)(j)(s)(q:St)(H)(x y)(v u)(Q),Inv X j q H s->RelV x v->RelV y u->r x y H Q->
  subscripted a false v u=operate [v,u] (getItem v u)->yar (model X.prog X.w) X.A (subscriptTail o a v u) (EP X j q Q) X.xe s
def DW(X:Cx)(id:String)(r:V->List V->Hp->VK->Prop):Prop:=
 ∀(a)(s)(j:St)(H)(x)(o)(v)(q)(Q),Inv X a j H s->RelV x v->Vals o q->r x o H Q->
  yar (model X.prog X.w) X.A (call (.builtin id) (v::q)) (EP X a j Q) X.xe s
section
variable {a b:Expr}{ta tb:TE}
def Jx.or(h:Jx X r)(h':Jx X L):Jx X (λx y H Q=>r x y H Q∨L x y H Q):=by
 intro j o C s E H x y v u Q I G F q O;obtain q|q:=q
 ·exact h j o C s E H x y v u Q I G F q O
 ·exact h' j o C s E H x y v u Q I G F q O
def DW.or(h:DW X d r)(h':DW X d F):DW X d (λx o H Q=>r x o H Q∨F x o H Q):=by
 intro j s u H x o v y Q I C E q;obtain q|q:=q
 ·exact h j s u H x o v y Q I C E q
 ·exact h' j s u H x o v y Q I C E q
def A9(L:Jx X r)(P:PE X a ta)(O:PE X b tb)(G:oz b):PE X (.Subscript a b pos) (Su r ta tb):=by
 intro j s o H Q I h;exact Subscript_ (Ru P O I h λv u C x y U S F E q=>L a b j C o U x y v u Q S F E q (G _ _))
def Tq(K:yaJ):R2:=λx y H Q=>∃p j i v,x=.ref p/\y=.int i/\cW K H p j/\ia j i=some v/\Q v H
def To(K:yaJ):R2:=λx y H Q=>∃p j i v,x=.ref p/\y=.int i/\fR K H p j/\ia j i=some v/\Q v H
def Tp:R2:=λx y H Q=>∃z i c,x=.str z/\y=.int i/\z.length<=yag/\ia z.cps.toList i=some c/\Q (.str ⟨#[c]⟩) H
def K1:Jx X (Tq X.K):=by
 intro E F o s W H x y v u Q I Z Y h P;let⟨p,xs,i,z,rfl,rfl,hq,he,q⟩:=h;cases Z;let⟨t,rfl⟩:=Y;let⟨L,r,pl,hz⟩:=I.list hq;let⟨j,h1,h2,h3,h4,h5⟩:=uO he;let⟨w,U,G⟩:=r.get h2;have hl:=r.length;have hn:=zj;have C:EP X o W Q w s:=⟨z,H,I,G,q⟩
 by_cases S:0<=i
 ·have O:i.toNat=j:=by
   rw[seqIndex_of S h5] at h1;simp_all
  exact item_listR pl.isList S (by lia) (by rw[O];simpa using U) C P
 ·have O:(i+L.toArray.size).toNat=j:=by
   rw[seqIndex_neg (by lia) h4] at h1;simp_all
  exact subscriptTail_builtinR pl.isList.typeIs slot_list_getitem.lookup
   (wpAny_getItem_list_neg pl.isList (by lia) (by simp_all) (by lia) (by rw[O];simpa using U) ⟨rfl,C⟩) P
def aG:Jx X (To X.K):=by
 intro C E o s L H x y v u Q I P O h U;let⟨p,xs,i,z,rfl,rfl,W,Y,q⟩:=h;cases P;let⟨t,rfl⟩:=O;let⟨S,r,pl,hz⟩:=I.tuple W;let⟨j,h1,h2,h3,h4,h5⟩:=uO Y;let⟨w,Z,F⟩:=r.get h2;have hl:=r.length;have hn:=zj;have G:EP X o L Q w s:=⟨z,H,I,F,q⟩
 exact subscriptTail_builtinR pl.typeIs slot_tuple_getitem.lookup
  (getItem_tuple (j:=j) pl (by lia) (by lia) (by simp_all) (by simpa using Z) ⟨rfl,G⟩) U
def QH:Jx X Tp:=by
 intro o C E s W H x y v u Q I G F h L;let⟨z,i,c,rfl,rfl,hz,P,q⟩:=h;let⟨t,rfl⟩:=G;let⟨Y,rfl⟩:=F;let⟨j,h1,h2,h3,U,S⟩:=uO P;have O:z.cps.toList.length=z.length:=by rfl
 rw[O] at h1 U S;have Z:=zj;exact tail_any (typeIs_str s z t) slot_str_getitem.lookup (getItem_str (by
  lia) (by rw[h1];simpa using h2) ⟨.str ⟨#[c]⟩,H,I.tok _,⟨_,rfl⟩,q⟩) L
def rIx(K:yaJ):R2:=λx y H Q=>Tq K x y H Q∨To K x y H Q∨Tp x y H Q
def QI:Jx X (rIx X.K):=K1.or (aG.or QH)
theorem Inv.lst{j:St}{p:Addr}(I:Inv X pins j H s)(h:H p=some (.lst xs)):
  ∃(its:List yai)(n:Nat),Vals xs its/\s.heap.get? p=some {cls:=.type "list",data:=.seq its.toArray n}/\xs.length<=yag:=by
 let⟨z,its,n,r,e⟩:=I.hok p _ h;refine⟨its,n,r,e,z⟩
def tN(lo j)(n):(sliceBounds lo j none n).1=((HT.tQ n 0 lo:Nat):Int)/\(sliceBounds lo j none n).2.1=((HT.tQ n n j:Nat):Int)/\(sliceBounds lo j none n).2.2=1:=by
 refine⟨?_,?_,rfl⟩
 ·cases lo with
  |none=>rfl
  |some i=>
   simp only[sliceBounds,HT.tQ,Option.getD_none];by_cases h:i<0
   ·simp only[h,if_true]<;>lia
   ·simp only[h,if_false]<;>(clear h;grind)
 ·cases j with
  |none=>rfl
  |some i=>
   simp only[sliceBounds,HT.tQ,Option.getD_none];by_cases h:i<0
   ·simp only[h,if_true]<;>lia
   ·simp only[h,if_false]<;>(clear h;grind)
def qQ(its:List yai)(lo j):slicePick its.toArray lo j none=((its.drop (HT.tQ its.length 0 lo)).take (HT.tQ its.length its.length j - HT.tQ its.length 0 lo)).toArray:=by
 let⟨h1,h2,o⟩:=tN lo j its.toArray.size;delta slicePick;rw[h1,h2,o];simp only[sliceRange_one,pick_run]<;>rfl
def VY(K:yaJ):V->Option Int->Option Int->Hp->VK->Prop:=λx lo o H Q=>∃a j,x=.ref a/\cW K H a j/\∀p,H p=none->Q (.ref p) (upd H p (.lst (HC j lo o)))
def JP:RM X (VY X.K):=by
 intro u s O H x v S P lo C U Q I E L pl pu h;let⟨a,j,rfl,G,q⟩:=h;cases E;let⟨F,r,y,hz⟩:=I.list G;have o:=r.length;refine⟨"list",_,slot_list_getitem.lookup,y.isList.typeIs,?_⟩;refine wpAny_getItem_list_slice y.isList L pl pu .none (by simp) ?_ (by simp_all);rw[qQ,<-o];refine⟨.ref s.heap.objs.size,_,I.laid (λb W q=>zau _ q) (zcA _) ?_,rfl,q _ (I.hok.fresh (zcA _))⟩;refine⟨zcp (xy j lo C) hz,_,0,(r.drop (HT.tQ j.length 0 lo)).take (HT.tQ j.length j.length C - HT.tQ j.length 0 lo),zaO _ rfl⟩
def uM:cJ X (.type "list") (λS H Q=>∃p x,S=[.ref p]/\(cW X.K H p x∨fR X.K H p x)/\∀l,H l=none->Q (.ref l) (upd H l (.lst x))):=by
 intro E s W H S Z Q I r h;let⟨p,x,rfl,F,q⟩:=h;let⟨u,rfl,Y⟩:=vals1 r;cases Y;have L:∀j,Vals x j->x.length<=yag->∀v C,(∀b U,s.heap.get? b=some U->v.get? b=some U)->
   v.get? s.heap.objs.size=some {cls:=.type "list",dict:=none,data:=.seq j.toArray C,slots:=#[]}->EP X E W Q (.ref s.heap.objs.size) {s with heap:=v}:=λj y hz v C kp e=>
  ⟨.ref s.heap.objs.size,_,I.laid kp (zcA _) (show bq X.prog X.w _ v _ (.lst x) from⟨hz,j,C,y,e⟩),rfl,q _ (I.hok.fresh (zcA _))⟩
 obtain F|F:=F
 ·let⟨j,y,pl,hz⟩:=I.list F;have G:=y.length;let⟨o,O,P,n,hd⟩:=pl.isList;exact call_list_seq p (.inl rfl) O P hd (λv C kp e=>L j y hz v C kp e) (by simp_all)
 ·let⟨j,y,pl,hz⟩:=I.tuple F;have G:=y.length;let⟨o,O,P,n,hd⟩:=pl;exact call_list_seq p (.inr rfl) O P hd (λv C kp e=>L j y hz v C kp e) (by simp_all)
def ri:cJ X (.type "tuple") (λG H Q=>∃p x,G=[.ref p]/\((cW X.K H p x/\∀l,H l=none->Q (.ref l) (upd H l (.tup x)))∨(fR X.K H p x/\Q (.ref p) H))):=by
 intro j s F H G U Q I r h;let⟨p,x,rfl,h⟩:=h;let⟨u,rfl,P⟩:=vals1 r;cases P;rcases h with⟨E,q⟩|⟨E,q⟩
 ·let⟨v,C,pl,hz⟩:=I.list E;have L:=C.length;refine call_tuple_list pl.isList (λy kp=>?_) (by simp_all);have O:Inv X j F H {s with heap:=y}:=I.kept kp;have S:Inv X j F (upd H y.objs.size (.tup x)) {s with heap:=y.push {cls:=.type "tuple",data:=.seq v.toArray}}:=
   O.laid (λb o e=>zau _ e) (zcA _) (show bq X.prog X.w _ _ _ (.tup x) from⟨hz,v,C,IsTup.new _ _⟩)
  refine⟨.ref y.objs.size,_,S,rfl,q _ (O.hok.fresh (zcA _))⟩
 ·let⟨v,C,pl,hz⟩:=I.tuple E;exact call_tuple_same pl ⟨.ref p,H,I,rfl,q⟩
def VF(K:yaJ)(T:String)(x:V)(H:Hp):Prop:=match x with
 |.str _=>T="str"
 |.int _=>T="int"
 |.ref p=>(T="list"/\∃q,cW K H p q)∨(T="tuple"/\∃o,K.lookup p=some o/\o.cls=.type "tuple"/\o.dict=none)∨
   (T="dict"/\((∃j,H p=some (.dK j))∨∃j,H p=some (.dT j)))∨(T="set"/\∃S n,H p=some (.set S n))
 |_=>False
theorem OE(I:Inv X pins d H s)(r:RelV g k)(ty:VF X.K T g H):
  s.TypeIs k T/\∀a,k=.ref a->∃y,s.heap.get? a=some y/\y.dict=none:=by
 cases g with
 |str z=>
  let⟨t,rfl⟩:=r;cases(show T="str" from ty);exact⟨typeIs_str s z t,λ_ e=>nomatch e⟩
 |int i=>
  let⟨t,rfl⟩:=r;cases(show T="int" from ty);exact⟨typeIs_int s i t,λ_ e=>nomatch e⟩
 |ref p=>
  cases r;rcases ty with⟨rfl,L,F⟩|⟨rfl,o,j,G,hd⟩|⟨rfl,j⟩|⟨rfl,S,n,j⟩
  ·let⟨E,_,pl,_⟩:=I.list F;refine⟨pl.isList.typeIs,λa e=>?_⟩;cases e;let⟨o,n,e,c,hd,_⟩:=pl;refine⟨o,e,hd⟩
  ·refine⟨⟨o,I.lT p o j,G⟩,λa e=>?_⟩;cases e;refine⟨o,I.lT _ o j,hd⟩
  ·have z:∃o,s.heap.get? p=some o/\o.ExactDict:=by
    rcases j with⟨q,j⟩|⟨q,j⟩
    ·obtain⟨_,_,_,_,o,_,_,e,ex,_⟩:=I.hok p _ j;refine⟨o,e,ex⟩
    ·obtain⟨_,_,_,_,o,_,_,e,ex,_⟩:=I.hok p _ j;refine⟨o,e,ex⟩
   let⟨o,e,ex⟩:=z;refine⟨⟨o,e,ex.1⟩,λa u=>?_⟩;cases u;refine⟨o,e,ex.2.1⟩
  ·let⟨o,_,_,_,e,ex,_⟩:=I.hok p _ j;refine⟨⟨o,e,ex.1⟩,λa u=>?_⟩;cases u;refine⟨o,e,ex.2.1⟩
 |_=>exact False.elim ty
def VH(K:yaJ)(T:String)(r:V->List V->Hp->VK->Prop)(to:TE)(t:TA):TE:=λj H Q=>to j H λx o=>VF K T x o/\t j o λq s=>r x q s Q
variable {o:Expr}{es:List Expr}{to:TE}{t:TA}{T id:String}{r:V->List V->Hp->VK->Prop}
def dz(pa:PlainAttrs T)(slot:Slot T name id)(G:typeOf (.builtin id)=pure (.type "method_descriptor"))(hm:DW X id r)(ho:PE X o to)(ha:PA X (e::es) t)(C:autoParam (attributeBase o name X.env (eval o X.env)=eval o X.env) r0)(E:autoParam (((yau cpos (yao (e::es) X.env)).all (λx=>!x.1)&&(yaF cpos (yaE [] X.env)).all (λx=>x.1.isSome)&&decide ((e::es).length+([]:List Keyword).length+(if([]:List Keyword).isEmpty then 0 else 1)<30))=true) r0)(y:autoParam ((apos.endLine==cpos.line)=true) r0)(hs:autoParam (yao (e::es) X.env=(false,eval e X.env)::yao es X.env) r0)(q:autoParam ((yau cpos (yao es X.env)).any (·.1)=false) r0):
  PE X (.Call (.Attribute o name apos) (e::es) [] cpos) (VH X.K T r to t):=by
 intro j s F H Q I h;refine wpAny_Call_method_late C E y rfl (cE (ho j s F H _ I h) λv W u=>?_);let⟨x,H1,P,L,ty,Z⟩:=u;let⟨h1,h2⟩:=OE P L ty;refine⟨T,id,pa,slot,G,h1,h2,?_⟩;have O:=ha cpos j W F H1 _ P Z;rw[hs] at O⊢;refine zaw (by show(false||(yau cpos (yao es X.env)).any (·.1))=false;rw[q]<;>rfl) (zaH ?_);refine cE O λS U u=>?_;let⟨vs,H2,I2,Y,q2⟩:=u;exact hm j U F H2 x vs v S Q I2 L Y q2
end
def Xm(X:Cx)(id:String)(r:V->List V->Hp->VK->Prop):Prop:=
 ∀(a)(s)(j:St)(H)(x)(o)(v)(q)(Q),Inv X a j H s->RelV x v->Vals o q->r x o H Q->
  yar (model X.prog X.w) X.A (call (.builtin id) (v::q)) (EP X a j Q) X.xe s
def Vals.one:∀{x:V}{a:List yai},Vals [x] a->∃u,a=[u]/\RelV x u:=by
 intro x a h;cases h with
 |cons r t=>cases t;refine⟨_,rfl,r⟩
theorem Vals.rep(h:Vals xs us):∀k:Nat,Vals (zbW k xs).flatten (zbW k us).flatten
 |0=>.nil
 |k+1=>by
  exact Vals.append h (Vals.rep h k)
theorem foldl_rep(its:List yai):∀(k)(a),
  List.foldl (λo j=>o++j) a.toArray (zbW k its.toArray)=(a++(zbW k its).flatten).toArray
 |0,a=>by simp
 |k+1,a=>by
  have e:a.toArray++its.toArray=(a++its).toArray:=by simp
  have q:(a++its)++(zbW k its).flatten=a++(zbW (k+1) its).flatten:=by
   grind
  rw[<-q,<-foldl_rep its k (a++its),<-e,List.replicate_succ,zbJ]
section
variable {σ:St}{b:Addr}{ys zs:List V}
def Inv.KY{its a:List yai}(I:Inv X pins σ H s)(y:H l=some (.lst xs))(e:s.heap.get? l=some {cls:=.type "list",data:=.seq its.toArray n})(v:d its.toArray=a.toArray)(j:Vals ys a)(hz:ys.length<=yag):
  Inv X pins σ (upd H l (.lst ys)) {s with heap:=s.heap.update l (Obj.mapSeq d),toks:=t'}:=by
 have q:=PySem.IsL.update e d;rw[v] at q;refine I.write (by rw[y];exact trivial) (.inl rfl) (λC u x o=>(zav s.heap (Obj.mapSeq d) (Ne.symm x)).trans o) ⟨_,q⟩ ?_;refine⟨hz,a,_,j,q⟩
def Inv.T5(I:Inv X pins σ H s)(a:Vals ys d)(hz:ys.length<=yag):
  Inv X pins σ (upd H s.heap.objs.size (.lst ys)) {s with heap:=s.heap.push {cls:=.type "list",data:=.seq d.toArray},toks:=t'}:=
 I.laid (λ_ _ q=>zau _ q) (zcA _) ⟨hz,d,0,a,zaO _ rfl⟩
theorem Inv.fresh(I:Inv X pins σ H s):H s.heap.objs.size=none:=I.hok.fresh (zcA _)
def Inv.ze(I:Inv X pins σ H s)(a:H l=some (.lst xs)):xs.length<=yag/\∃(its:List yai)(n:Nat),Vals xs its/\xs.length=its.length/\s.heap.get? l=some {cls:=.type "list",data:=.seq its.toArray n}:=by
 let⟨z,its,n,r,e⟩:=I.hok l _ a;refine⟨z,its,n,r,r.length,e⟩
def pL(h:n<=yag):Builtin.List.listTooLong n=false:=by
 delta Builtin.List.listTooLong;simp_all
end
def AW:V->List V->Hp->VK->Prop:=λx vs H Q=>∃l a y,x=.ref l/\vs=[y]/\H l=some (.lst a)/\a.length<yag/\Q .bB (upd H l (.lst (a++[y])))
def CY:Xm X "list.append" AW:=by
 intro j s G H x vs v O Q I C E h;let⟨l,L,y,rfl,rfl,o,hz,q⟩:=h;cases C;obtain⟨u,rfl,ru⟩:=E.one;obtain⟨z,a,n,r,P,e⟩:=I.ze o;refine call_meets F.slot_list_append ⟨_,e,rfl⟩ F.entry_list_append (F.args_list_append_2 _ _) (PySem.list_append l a.toArray n u (by simp_all)) ⟨e,?_⟩;refine⟨.bB,_,I.KY o e (by simp) (r.append (.cons ru .nil)) ?_,rfl,q⟩;rw[zaP,List.length_singleton];assumption
def AV:V->List V->Hp->VK->Prop:=λx vs H Q=>∃l b j a,x=.ref l/\vs=[.ref b]/\H l=some (.lst j)/\H b=some (.lst a)/\j.length+a.length<=yag/\Q .bB (upd H l (.lst (j++a)))
def CW:Xm X "list.extend" AV:=by
 intro y s Y H x vs v us Q I G L h;let⟨l,b,xs,Z,rfl,rfl,C,U,hz,q⟩:=h;cases G;obtain⟨u,rfl,ru⟩:=L.one;cases ru;obtain⟨z,j,n,r,hl,e⟩:=I.ze C;obtain⟨z2,a,P,O,S,W⟩:=I.ze U;have o:j.toArray.size+a.toArray.size<=yag:=by simp_all
 have E:¬(!j.toArray.isEmpty&&Builtin.List.listTooLong (j.toArray.size+a.toArray.size))=true:=by
  rw[pL o];simp
 refine call_meets F.slot_list_extend ⟨_,e,rfl⟩ F.entry_list_extend (F.args_list_extend_2 _ _)
  (AutoSeq1.list_extend_list_list_0 l j.toArray n b a.toArray P E (by simp_all) (by lia)) ⟨e,W,?_⟩
 refine⟨.bB,_,I.KY C e (by simp) (r.append O) ?_,rfl,q⟩;simp_all
def V3:R2:=λx y H Q=>∃l b j a,x=.ref l/\y=.ref b/\H l=some (.lst j)/\H b=some (.lst a)/\j.length+a.length<=yag/\∀p,H p=none->Q (.ref p) (upd H p (.lst (j++a)))
def Ql:iw X (binaryOp .Add) V3:=by
 intro o s W H x y v u Q I E C h;let⟨l,b,xs,Y,rfl,rfl,L,O,hz,q⟩:=h;cases E;cases C;let⟨z,j,n,r,hl,e⟩:=I.ze L;let⟨Z,a,n2,F,G,U⟩:=I.ze O;refine PySem.P.add_list e U ?_ (by simp_all);have S:j.toArray++a.toArray=(j++a).toArray:=by simp
 rw[S];refine⟨.ref _,_,I.T5 (r.append F) (by simp_all),rfl,q _ I.fresh⟩
def VZ:R2:=λx y H Q=>∃l k a,x=.ref l/\y=.int k/\H l=some (.lst a)/\-(2 ^ 63)<=k/\k<2 ^ 63/\a.length*k.toNat<=yag/\
 ∀p,H p=none->Q (.ref p) (upd H p (.lst (zbW k.toNat a).flatten))
def len_rep{α:Type}(a:List α)(k):(zbW k a).flatten.length=k*a.length:=by
 simp
def Qc:iw X (binaryOp .Mult) VZ:=by
 intro P s σ H x y v u Q I Y W h;let⟨l,k,xs,rfl,rfl,Z,h1,h2,hz,q⟩:=h;cases Y;let⟨t,rfl⟩:=W;let⟨z,j,n,r,hl,e⟩:=I.ze Z;have C:j.toArray.size*k.toNat<=yag:=by simp_all
 have G:¬j.toArray.size*k.toNat> (2 ^ 63 - 1) / 8:=by
  have:yag<=(2 ^ 63 - 1) / 8:=by decide
  lia
 have E:¬(!Builtin.List.listFitsIndex k)=true:=by
  rw[fitsIndex_both h1 h2];lia
 have S:¬Builtin.List.listTooLong (j.toArray.size*k.toNat)=true:=by
  rw[pL C];simp
 have o:List.foldl (λO L=>O++L) #[] (zbW (if j.toArray.isEmpty=true then 0 else k.toNat) j.toArray)=(zbW k.toNat j).flatten.toArray:=by
  have f0:∀m,List.foldl (λO L=>O++L) #[] (zbW m j.toArray)=(zbW m j).flatten.toArray:=λm=>by
   have:=foldl_rep j m [];simp_all
  rw[f0];cases j with
  |nil=>simp
  |cons a r'=>rfl
 refine wpAny_binaryOp_repeat_ref (by decide) ⟨_,e,rfl⟩ (λU=>typeIs_int U k t) noFill_list_mul F.fills_int_mul F.slot_int_rmul repeat_list F.slot_int_index.lookup
  (call_meets F.slot_int_rmul (typeIs_int s k t) F.entry_int_rmul (F.args_int_rmul_2 _ _) (int___rmul___int_list k t l j.toArray n) ⟨e,rfl,⟨_,e,rfl⟩,call_meets F.slot_list_mul ⟨_,e,rfl⟩ F.entry_list_mul (F.args_list_mul_2 _ _) (AutoListH.list___mul___list_int_3 l j.toArray n k t E G S) ⟨e,?_⟩⟩)
 rw[o];refine⟨.ref _,_,I.T5 (r.rep k.toNat) (by rw[len_rep,Nat.mul_comm];exact hz),rfl,q _ I.fresh⟩
end L2
namespace Att
open PySem PySem.W PySem.Calls PyProof.Rows
def nC:∀(ns)(vs),WellAll d h vs (ns.map WData.int)->IntsAre vs ns:=by
 intro ns
 induction ns with
 |nil=>
  intro vs w;cases w;exact .nil
 |cons n ns ih=>
  intro vs w;cases w with
  |cons a b=>
   cases a;exact .cons _ _ (ih _ b)
theorem CD{l:OpenLaw}(v:l.most=some n)(o:l.row.toRowW.claim.pre args=true)(u:WellAll g h k args):
  ∃a vs ns,k=[Value.ref a]/\args=[WData.list (ns.map WData.int)]/\h.get? a=some {cls:=.type "list",data:=.seq vs.toArray}/\IntsAre vs ns/\ns.length<=n:=by
 have hsh  :=(pre_splitW o).1;have hc  :=(pre_splitW o).2;let⟨d,r,rfl,h1,h2⟩:=hasAllW_cons hsh;obtain rfl:=hasAllW_nil h2;let⟨y,rfl,x⟩:=hasW_list h1;let⟨ns,rfl⟩:=items_int x;have q:ns.length<=n:=by
  have s  :=by
   have s:=(holds_andW hc).1;rw[v] at s;exact s
  have C:=condW_of s (w_not (w_lt w_lit (w_len_list (w_arg rfl))));simp_all
 cases u with
 |cons w1 w2=>
  cases w2;cases w1 with
  |list ho hall=>refine⟨_,_,ns,rfl,rfl,ho,nC ns _ hall,q⟩
def CI(l:OpenLaw)(args):l.row.toRowW.claim.post args (.bool true) args=true:=
 postW_of (r:=l.row.toRowW) (X:=(true==true))
  (show WShape.has [] (.bool true) .bool=true by rfl)
  (show(WTm.eq .res (.lit (.bool true))).value [] {args:=args,res:=some (.bool true),after:=args}=some (.bool (true==true)) from w_eq_bool (w_res rfl) w_lit) rfl
def xM{l:OpenLaw}(hn:l.most=some n)(L:d.params.defaults=[])(call:∀(w)(s₀ j)(mg mb)(C)(o)(pm F u)(a)(vs)(ns),Ground q loose [] XP w s₀ mg mb j.heap->YP w j.heap->j.heap.get? C=some o->o.data=.func (docDef d.name d.params d.body d.scope pm F u)->j.heap.CodeRec F d.name->mg d.name=some (.ref C)->j.heap.get? a=some {cls:=.type "list",data:=.seq vs.toArray}->IntsAre vs ns->ns.length<=n->j.gens=#[]->codeAny (model l.prog w) callerA (.call (.ref C) ⟨[.ref a],[]⟩) (λr E=>r=.ok (.ret (.bool true))/\OldK j.heap E.heap/\E.os=j.os/\AllBare E.gens) j):
  WalkO q loose XP YP l.row.toRowW d [] (λf vs=>PySem.call f vs):=by
 intro w s₀ j mg mb G Y C o pm F u dV kV Z hd O S I hg U P as v Q W H hlo;obtain rfl:dV=.none:=Dflts.none S L;obtain rfl:kV=.none:=Dflts.noKw S;let⟨a,vs,ns,rfl,rfl,x,s,y⟩:=CD hn v H;refine enter_call (yax (call w s₀ j mg mb C o pm F u a vs ns G Y Z (fd_plain hd) O I x s y hg) λr E X=>?_);let⟨rfl,h2,h3,h4⟩:=X;refine⟨.inl ⟨.bool true,.bool true,[],rfl,λ_=>rfl,.bool true,CI l _,λ_=>⟨List.Pairwise.nil,λ_ hm=>(nomatch hm)⟩⟩,h2,h3,h4⟩
end Att
namespace L2
open PySem PySem.Spec PyProof.Rows
def rD:∀{vs:List yai}{ns:List Int},IntsAre vs ns->Vals (ns.map V.int) vs:=by
 intro vs ns h
 induction h with
 |nil=>exact .nil
 |cons n t h ih=>exact .cons ⟨t,rfl⟩ ih
def RS(H:Hp):Prop:=∀b,H b=none∨∃o a,H b=some (.BB o (.lst a))
theorem GN(KX:K.In g.heap)(Q:g.heap.Ns yaq mg)(I:g.heap.Ns builtinsNs mb)(hbb:∀x:Str,x≠"__name__"->mb x=bootBuiltins x)(S:g.heap.NoLimit)(hg:g.gens=#[])(ha:g.heap.get? a=some {cls:=.type "list",data:=.seq vs.toArray})(hi:IntsAre vs ns)(hl:ns.length<=yag)(hr:aW k callerA)(F:∀base:Heap,K.In base->base.Ns yaq mg->cY P w K mg base CX k fa fd [x] sp)(G:∀(s)(u),yaB s fd ⟨[u],[]⟩ [(x,u)])(Y:∀H:Hp,RS H->cW K H a (ns.map V.int)->sp [.ref a] H (λv _=>v=.bl true) λ_ _ _=>False)(hCX:∀H e y,CX [] H g (λ_ _ _=>False) e y->False):
  codeAny (model P w) callerA (.call (.ref fa) ⟨[.ref a],[]⟩) (λr y=>r=.ok (.ret (.bool true))/\OldK g.heap y.heap/\y.os=g.os/\AllBare y.gens) g:=by
 have rv:=rD hi;have ab:=hi.length;have E:∀H,RS H->cW K H a (ns.map V.int)->jy P w H g.heap->(∀b,H b≠none->b=a)->(H a≠none->K.lookup a=none)->
   codeAny (model P w) callerA (.call (.ref fa) ⟨[.ref a],[]⟩) (λr y=>r=.ok (.ret (.bool true))/\OldK g.heap y.heap/\y.os=g.os/\AllBare y.gens) g:=by
  intro H hO hS hok hA hK;have BZ:∀{b:Addr}{o:Obj},g.heap.get? b=some o->H b=none->(wQ g.heap H).get? b=some o:=λe n=>G4 e n;have X:∀{b:Addr}{o:Obj}{U:Array yav}{W:Nat},g.heap.get? b=some o->o.data=.dict U W->H b=none:=λ{b o U W} e d=>by
   grind
  have C:∀{b:Addr}{m:Str->Option yai},g.heap.Ns b m->(wQ g.heap H).Ns b m:=λ{b m}=>x3_2 λo U W e d r=>⟨o,U,W,BZ e (X e d),d,r⟩
  have hKb  :=λb o e=>BZ (KX b o e) (by
   grind)
  have hM:Mod K mg (wQ g.heap H):=⟨hKb,C Q,⟨mb,C I,hbb⟩,by let⟨mc,h1,h2⟩:=S;refine⟨mc,C h1,h2⟩⟩
  have e0:Ad P w K mg (wQ g.heap H) callerA [] g H:=⟨rfl,hM,λb o e=>KI e,Nat.le_of_eq (Df _ _),trivial,λb I=>absurd (show b∈([]:List Addr) from I) (by simp),hok,.of_eq hg⟩
  refine yax ((F _ hKb (C Q)).run callerA [] g H ⟨[.ref a],[]⟩ [.ref a] [.ref a] _ _ hr e0 (G g (.ref a)) (.cons rfl .nil) (Y H hO hS)) λr y h=>?_;cases r with
  |error e=>exact(hCX H e y h).elim
  |ok fl=>
   cases fl with
   |next=>exact False.elim h
   |brk=>exact False.elim h
   |cont=>exact False.elim h
   |ret u=>
    let⟨v,H',os,bare,un,O,r',q⟩:=h;have q'  :=q;subst q';obtain rfl:u=Value.bool true:=r';refine⟨rfl,OldK.of_keep λb o e=>?_,os,bare⟩;cases q:H b with
    |none=>exact un.keep b o e q (by intro z;exact absurd (show b∈([]:List Addr) from z) (by simp)) (by simp)
    |some u=>
     obtain z|⟨ob,xs,z⟩:=hO b
     ·simp_all
     ·have z2:=un.qZ b ob _ z;let⟨e1,_⟩:=hok b _ z;let⟨e2,_⟩:=O b _ z2;simp_all
 cases Z:K.lookup a with
 |some o=>
  have e:=KX a o Z;rw[ha] at e;cases e;refine E (λ_=>none) (λ_=>.inl rfl) (.inr ⟨_,vs.toArray,_,Z,rfl,rfl,rfl,by simp_all,by simpa using rv⟩) (λb u z=>by have L  :=z;cases L) (λb z=>absurd rfl z) λz=>absurd rfl z
 |none=>
  refine E (λb=>if b=a then some (.BB {cls:=.type "list",data:=.seq vs.toArray} (.lst (ns.map V.int))) else none) (λb=>?_) (.inl (.inr ⟨{cls:=.type "list",data:=.seq vs.toArray},yIp rfl⟩)) (λb u z=>?_) (λb z=>?_) λ_=>Z
  ·grind
  ·by_cases I:b=a
   ·have L:=(yIp I).symm.trans z;cases L;subst I;refine⟨ha,by simp_all,vs,_,rv,ha⟩
   ·have L:=(yIn I).symm.trans z;cases L
  simp_all
def JC{l:PySem.W.OpenLaw}{K:Params->yaJ}{CX:yak->Jp}{sp:yak->Sp}(hn:l.most=some n)(P:n<=yag)(S:d.params.defaults=[])(Z:aW k callerA)(hY:∀(w)(h),YP w h->(K w.params).In h)(F:∀(w)(mg)(I)(h),(K w.params).In h->h.Ns yaq mg->mg d.name=some (.ref I)->∃fd:yap,(∀(s)(u),yaB s fd ⟨[u],[]⟩ [(x,u)])/\∀base:Heap,(K w.params).In base->base.Ns yaq mg->cY l.prog w (K w.params) mg base (CX w) k I fd [x] (sp w))(O:∀(w)(H)(a)(ns:List Int),ns.length<=n->RS H->cW (K w.params) H a (ns.map V.int)->sp w [.ref a] H (λv _=>v=.bl true) λ_ _ _=>False)(U:∀(w)(H)(s)(e)(L),CX w [] H s (λ_ _ _=>False) e L->False):
  PySem.W.WalkO q loose XP YP l.row.toRowW d [] (λf vs=>PySem.call f vs):=by
 refine Att.xM hn S λw s₀ C mg mb I o pm cd doc a vs ns G Y ho hd hcd Q E y j hg=>?_;have X:=hY w _ Y;let⟨fd,hb,hF⟩:=F w mg I _ X G.T.g Q;exact GN X G.T.g G.T.b G.T.builtins G.T.nolimit hg E y (zcp j P) Z hF hb (λH hO hS=>O w H a ns j hO hS) λH e L=>U w H C e L
noncomputable def inClass(s:Stmt)(j:Nat):Stmt:=match s with
 |.ClassDef _ _ _ body _ _ _ _ _ _ _=>body.getD j (.Pass ⟨0,0,0,0⟩)
 |_=>.Pass ⟨0,0,0,0⟩
noncomputable def cP(s:Stmt):Arguments:=match s with
 |.FunctionDef _ a _ _ _ _ _ _ _ _=>a
 |_=>{posonlyargs:=[],args:=[],vararg:=none,kwonlyargs:=[],kw_defaults:=[],kwarg:=none,defaults:=[]}
noncomputable def bG(s:Stmt):List Stmt:=match s with
 |.FunctionDef _ _ b _ _ _ _ _ _ _=>b
 |_=>[]
noncomputable def ah(s:Stmt):Scope:=match s with
 |.FunctionDef _ _ _ _ _ _ sc _ _ _=>sc
 |_=>{kind:=.function,names:=[],isGenerator:=false,isCoroutine:=false}
abbrev lQ:Jp:=λ_ _ _ _ _ _=>False
abbrev E0:XK:=λ_ _ _=>False
def rY:Passes lQ X E0:=λ_ _ _ _ _ _ _ h=>h.elim
structure DZ(K:yaJ)(x qual:Str)(st:Stmt)(f:Addr)(fd:yap):Prop where
 ex:∃(oc:yai)(od:Option Addr)(kV doc pm:yai)(an:Option Addr)(cdv ct:yai)(osl:Array (Option yai)),
  fd=zcw x qual (cP st) (bG st) (ah st) .none kV doc pm an cdv ct/\K.lookup f=some ⟨oc,od,.func fd,osl⟩/\zcb K cdv qual=true
 kp:zca K (.ref f)=true
def DZ.ok(F:DZ K x qual st f fd)(S:ak N ps (ah st))(len:∀vs H Q E,sp vs H Q E->vs.length=ps.length)(j:∀(a)(A)(outer)(s)(H)(vs)(Q)(E),aW k (A.deeper (envOfC qual (ah st) s.heap.objs.size f a))->sp vs H Q E->∃t,z7 (mz lQ P w K mg base N qual (ah st) f a A outer s H E).Gm (bG st) t/\t {nx:=λ_ H'=>Q .bB H',rt:=Q} (start N vs) H):cY P w K mg base lQ (k+1) f fd ps sp:=by
 obtain⟨oc,I,kV,G,pm,L,a,ct,v,rfl,y,u⟩:=F.ex;refine Uu y u S len λA outer s H vs Q E C o=>?_;let⟨t,h,q⟩:=j a A outer s H vs Q E C o;refine⟨t,h.Gm,q⟩
def DZ.binds(F:DZ K x qual st f fd)(h:∀(kV a pm)(q)(j ct)(o),o.length=ps.length->yaA (zcw x qual (cP st) (bG st) (ah st) .none kV a pm q j ct) ⟨o,[]⟩=pure (ps.zip o)):Binds K fd ps []:=by
 let⟨oc,v,kV,a,pm,q,j,ct,s,rfl,y,u⟩:=F.ex;exact .all (h kV a pm q j ct)
def gT(l:K.lookup f=some ⟨oc,q,.func (zcw x qual (cP st) (bG st) (ah st) .none g r pm d z ct),osl⟩)(c:zcb K z qual=true)(k:zca K (.ref f)=true):DZ K x qual st f (zcw x qual (cP st) (bG st) (ah st) .none g r pm d z ct):=⟨⟨oc,q,g,r,pm,d,z,ct,osl,rfl,l,c⟩,k⟩
def bU(a:aW k A):A.units+1<cLine:=zaV (Nat.add_le_add_left (by decide:1<=64) _) a.units
def Dr:cJ X (.builtin "len") (λo H Q=>∃a j,o=[V.ref a]/\H a=some (.dK j)/\Q (.int j.length) H):=by
 intro v s C H o E Q I r h;let⟨a,j,rfl,x,q⟩:=h;let⟨u,rfl,ru⟩:=vals1 r;cases ru;exact UC I (.inl x) λt F y=>⟨.int j.length,H,y,⟨t,rfl⟩,q⟩
def GY{A B:Prop}(h:B):if false=true then A else B:=by
 exact h
def GX{A B:Prop}(h:A):if true=true then A else B:=by
 exact h
def fH{c A B:Prop}[Decidable c](h1:c->A)(h2:¬c->B):if c then A else B:=by
 by_cases h:c
 ·rw[yIp h];exact h1 h
 ·rw[yIn h];exact h2 h
def ir(H H':Hp):Prop:=∀b o,H b=some o->H' b=some o
def ir.refl(H):ir H H:=λ_ _ h=>h
def ir.trans(a:ir H q)(b:ir q d):ir H d:=λc o h=>b c o (a c o h)
def ir.free(e:ir H H')(h:H' l=Option.none):H l=Option.none:=by
 cases q:H l with
 |none=>rfl
 |some o=>
  rw[e l o q] at h;cases h
def ir.seq(e:ir H H')(h:cW K H a xs):cW K H' a xs:=by
 rcases h with(h|⟨o,h⟩)|h
 ·exact .inl (.inl (e _ _ h))
 ·exact .inl (.inr ⟨o,e _ _ h⟩)
 ·exact .inr h
end L2
set_option maxHeartbeats 4000000
namespace L2
open PySem PySem.Spec PyProof.Rows
def jy.rE{o:HO}(ok:jy P w H h)(a:H D=none)(new:bq P w (upd H D o) h D o):jy P w (upd H D o) h:=λb u e=>by
 by_cases j:b=D
 ·subst j;rw[bL] at e;cases e;exact new
 ·rw[aQ j] at e;refine(ok b u e).stay (λ_ _ _ q=>q) (λc q=>?_) (λc s q=>?_)
  ·rw[aQ (bK q a)];exact q
  ·rw[aQ (bK q a)];exact q
theorem Inv.rE{o:HO}(I:Inv X pins σ H s)(v:H D=none)(P:X.s₀.heap.objs.size<=D)(O:D≠X.env.locals)(L:∀x c,X.env.cells.lookup x=some c->c≠D)(G:∀p∈X.pn++pins,p.1≠D)(new:bq X.prog X.w (upd H D o) s.heap D o):Inv X pins σ (upd H D o) s:=by
 refine⟨I.ok,I.os,I.bare,⟨I.base.keep,I.base.slot,λb y e n F=>?_,I.base.there,λb C e=>?_,λb y u e=>?_,λb E e=>?_⟩,I.loc,I.cell,?_,λx c e=>?_,λp j=>?_,I.hok.rE v new,I.len⟩
 ·rw[aQ (zco (zaU (zcy e) P))];exact I.base.free b y e n F
 ·have q:=I.base.tups b C e;rw[aQ (bK q v)];exact q
 ·have q:=I.base.qZ b y u e;rw[aQ (bK q v)];exact q
 ·let⟨m,q⟩:=I.base.tH b E e;exact⟨m,by rw[aQ (bK q v)];exact q⟩
 ·rw[aQ (Ne.symm O)];exact I.free
 ·rw[aQ (L x c e)];exact I.g8 x c e
 ·let⟨e,n,a,b,d⟩:=I.pin p j;refine⟨e,by rw[aQ (G p j)];exact n,a,b,d⟩
noncomputable def kZ(env:Env):List (Str×NameKind)->List (Str×Addr)->List (Str×Addr)
 |[],acc=>acc
 |(n,k)::r,acc=>kZ env r (if k==NameKind.free then(n,(env.cells.lookup n).getD 0)::acc else acc)
theorem jR(env):∀(l)(j),(∀n,(n,NameKind.free)∈l->∃c,env.cells.lookup n=some c)->
  (forIn l j (λ(x:Str×NameKind)(r:List (Str×Addr))=>if(x.2==NameKind.free)=true then(do let a <-cellOf env x.1;pure (ForInStep.yield ((x.1,a)::r))) else pure (ForInStep.yield r)):Sem (List (Str×Addr)))=pure (kZ env l j)
 |[],j,_=>rfl
 |(n,k)::r,j,h=>by
  rw[List.forIn_cons];by_cases q:(k==NameKind.free)=true
  ·have e  :=by simpa using q
   subst e;let⟨c,s⟩:=h n zaQ;have v:cellOf env n=pure c:=by delta cellOf;rw[s]
   have u:((NameKind.free==NameKind.free)=true)=True:=by simp
   simp only[u,if_true,v,pure_bind];rw[jR env r _ λm o=>h m (zaC _ o)];show _=pure (kZ env r (if(NameKind.free==NameKind.free)=true then(n,(env.cells.lookup n).getD 0)::j else j));simp_all
  ·simp only[yIn q,pure_bind];rw[jR env r _ λm o=>h m (zaC _ o)];show _=pure (kZ env r (if(k==NameKind.free)=true then(n,(env.cells.lookup n).getD 0)::j else j));rw[yIn q]
def jF(h:∀n,(n,NameKind.free)∈scope.names->∃c,env.cells.lookup n=some c):closureFor scope env=pure (kZ env scope.names []):=by
 delta closureFor;have e:=jR env scope.names [] h;simp_all
theorem xE(env):∀(l)(a)(x)(c),(kZ env l a).lookup x=some c->a.lookup x=some c∨(x,NameKind.free)∈l/\c=(env.cells.lookup x).getD 0
 |[],a,x,c,h=>.inl h
 |(n,k)::r,a,x,c,h=>by
  obtain e|⟨o,j⟩:=xE env r _ x c h
  ·grind
  simp_all
theorem qg(env):∀(l)(a)(x),((x,NameKind.free)∈l∨∃c,a.lookup x=some c)->∃c,(kZ env l a).lookup x=some c
 |[],a,x,h=>by
  obtain h|h:=h
  ·simp at h
  ·exact h
 |(n,k)::r,a,x,h=>by
  refine qg env r _ x ?_;obtain h|⟨c,h⟩:=h
  ·obtain e|e:=zcd.mp h
   ·simp_all
   ·exact .inl e
  grind
theorem iL{scope:Scope}{env:Env}{x:Str}{k:NameKind}:∀{names:List (Str×NameKind)},(names.map λ(n,k)=>if(k==NameKind.free&&env.scope.kind== .function&&env.kindOf n==some .cell) then(n,NameKind.cell) else(n,k)).lookup x=some k->
  names.lookup x=some k∨(k=.cell/\names.lookup x=some .free)
 |[],h=>by simp at h
 |(n,j)::r,h=>by
  have a:=@iL scope env x k r
  grind
theorem kq{scope:Scope}{env:Env}{x:Str}:∀{names:List (Str×NameKind)},names.lookup x=some .free->∃k,(k=NameKind.cell∨k=.free)/\
  (names.map λ(n,k)=>if(k==NameKind.free&&env.scope.kind== .function&&env.kindOf n==some .cell) then(n,NameKind.cell) else(n,k)).lookup x=some k
 |[],h=>by simp at h
 |(n,j)::r,h=>by
  have o:=@kq scope env x r;rw[zbs] at h;rw[zcf,zbs];by_cases q:(j==NameKind.free&&env.scope.kind== .function&&env.kindOf n==some .cell)=true
  ·simp only[q,if_true];cases a:x==n with
   |true=>refine⟨.cell,.inl rfl,rfl⟩
   |false=>rw[a] at h;exact o h
  ·simp only[yIn q];cases a:x==n with
   |true=>rw[a] at h;refine⟨.free,.inr rfl,h⟩
   |false=>rw[a] at h;exact o h
noncomputable def uL(caps:List (Option Nat))(a:St):St:=caps.map λo=>o.bind λi=>(a[i]?).getD none
noncomputable def jG(XN:List Str)(env:Env)(scope:Scope)(N:List Str)(caps:List (Option Nat)):Bool:=
 caps.length==N.length&&(caps.zip N).all λp=>match p.1 with
  |none=>scope.names.lookup p.2==some .local
  |some i=>XN[i]? ==some p.2&&scope.names.lookup p.2==some .free&&(env.scope.names.lookup p.2==some .cell||env.scope.names.lookup p.2==some .free)
noncomputable def jv(X:Cx)(scope:Scope)(N:List Str)(s₀:yah)(H₀:Hp)(C:Addr)(a:List Addr):Cx where
 prog:=X.prog
 w:=X.w
 K:=X.K
 mg:=X.mg
 base:=X.base
 A:=X.A
 N:=N
 s₀:=s₀
 H₀:=H₀
 env:=compEnvC scope (kZ X.env scope.names []) C X.env
 outer:=X.stack
 stack:=X.stack
 ex:=a
 fn:=λ_=>false
 calm:=X.calm
 pn:=[]
 xe:=λ_ _=>False
structure ee(scope:Scope)(N:List Str):Prop where
 kind:scope.kind=.function
 nd:N.Nodup
 Gp:∀y∈scope.names,y.2≠ .cell
 names:∀y∈scope.names,scope.names.lookup y.1=some y.2
def HH(h:jG XN env scope N caps=true):
  caps.length=N.length/\∀(j i:Nat)(x),caps[j]? =some (some i)->N[j]? =some x->XN[i]? =some x/\scope.names.lookup x=some .free/\(env.kindOf x=some .cell∨env.kindOf x=some .free):=by
 unfold jG at h;rw[zbB] at h;let⟨h1,h2⟩:=h;refine⟨by simpa using h1,λj i x s o=>?_⟩;have a:(some i,x)∈caps.zip N:=by
  refine zaF (i:=j) ?_;rw[zah];exact⟨s,o⟩
 have q:=zbt.mp h2 _ a;simp only[zbB,zbR,beq_iff_eq] at q;refine⟨q.1.1,q.1.2,q.2⟩
def Inv.block{s1:yah}(S:ee scope N)(L:jG X.N X.env scope N caps=true)(Z:∀n,(n,NameKind.free)∈scope.names->∃c,X.env.cells.lookup n=some c)(I:Inv X pins σ H s)(Q:∀b∈fp,nI X pins H b)(hfl:∀b∈fp,b<s.heap.objs.size)(hC:s.heap.objs.size<=C)(P:∀b o,s.heap.get? b=some o->h1.get? b=some o)(hn:h1.Ns C d):
  Inv (jv X scope N s H C fp) [] (uL caps σ) H {s with heap:=h1,toks:=tk}:=by
 let⟨ab,hat⟩:=HH L;have E:∀x c,(kZ X.env scope.names []).lookup x=some c->X.env.cells.lookup x=some c:=λx c e=>by
  obtain z|⟨z1,z2⟩:=xE X.env scope.names [] x c e
  ·simp at z
  grind
 have VX:∀x,((compEnvC scope (kZ X.env scope.names []) C X.env).kindOf x=some .cell∨(compEnvC scope (kZ X.env scope.names []) C X.env).kindOf x=some .free)->(x,NameKind.free)∈scope.names:=λx U=>by
  have F:∀k,(compEnvC scope (kZ X.env scope.names []) C X.env).kindOf x=some k->scope.names.lookup x=some k∨(k=.cell/\scope.names.lookup x=some .free):=λk e=>iL (scope:=scope) e;obtain e|e:=U
  ·obtain z|⟨_,z⟩:=F _ e
   ·exact absurd rfl (S.Gp _ (PySem.mem_of_lookup z))
   ·exact PySem.mem_of_lookup z
  ·obtain z|⟨z,_⟩:=F _ e
   ·exact PySem.mem_of_lookup z
   lia
 refine⟨⟨I.ok.mod,S.kind,I.ok.glob,I.ok.blt,hC,λx y c e1 e2=>I.ok.inj x y c (E x c e1) (E y c e2),λx U=>?_,λx c z _=>absurd (show false=true from z) zaW,I.ok.hd,I.ok.frames,.inl rfl,λb a=>?_,I.bs,zcp I.ok.LO I.sz,λb o e a=>?_,λb a hb2=>?_,I.stack,I.Al⟩,rfl,I.bare,Un.kept P,⟨d,hn,λj x v e1 e2 e3=>?_⟩,λx c e=>?_,I.hok.fresh hC,λx c e=>I.g8 x c (E x c e),λp hp=>absurd (show p∈([]:List (Addr×Obj)) from hp) (by simp),I.hok.kept P,?_⟩
 ·exact qg X.env scope.names [] x (.inl (VX x U))
 ·exact⟨zco (zaU (hfl b a) hC),λx c e=>(Q b a).2.2.2.2.1 x c (E x c e)⟩
 ·rcases(Q b a).2.2.2.1 with z|z
  ·exact I.ok.Gn b o e z
  ·exact absurd (zaU (zcy e) (zcp I.ok.LO z)) (zch _)
 ·obtain z|z:=zcd.mp (I.oN b hb2)
  ·exact(Q b a).2.1 z
  ·exact(Q b a).2.2.1 z
 ·have e2'  :=e2;unfold uL at e2';rw[zbb] at e2';cases hc:caps[j]? with
  |none=>rw[hc] at e2';cases e2'
  |some o=>
   rw[hc] at e2';cases o with
   |none=>cases e2'
   |some i=>
    have e5:σ[i]? =some (some v):=by
     cases q:σ[i]? with
     |none=>simp_all
     |some y=>simp_all
    let⟨a1,a2,a3⟩:=hat j i x hc e1;obtain⟨mX,hnX,hl⟩:=I.loc;let⟨u,r,l⟩:=hl i x v a1 e5 (a3.elim (λz=>.inr (.inl z)) λz=>.inr (.inr z));refine⟨u,r,.inr ?_⟩;obtain⟨c,hcx,cell⟩:∃c,X.env.cells.lookup x=some c/\s.heap.IsCell c (some u):=by
     rcases l with⟨k,_⟩|⟨_,z⟩
     ·rw[k] at a3;obtain z|z:=a3<;>cases z
     ·exact z
    obtain⟨k,Y,G⟩:=kq (scope:=scope) a2;let⟨c',O⟩:=qg X.env scope.names [] x (.inl (PySem.mem_of_lookup a2));have hcc  :=zcD.inj ((E x c' O).symm.trans hcx);subst hcc;refine⟨?_,c',O,?_⟩
    ·obtain z|z:=Y
     ·subst z;exact .inl G
     ·subst z;exact .inr G
    ·let⟨o,W,hd⟩:=cell;exact⟨o,P _ _ W,hd⟩
 ·let⟨v,o,W,hd⟩:=I.cell x c (E x c e);exact⟨v,o,P _ _ W,hd⟩
 ·show(uL caps σ).length=N.length;delta uL;simp_all
theorem iQ(I:Nat->yah->Prop)(turn:∀n s,I n s->yar (model prog w) A (pyNext it) (λr q=>match r with
   |none=>R (.ok .next) q
   |some v=>yar (model prog w) A (letOwnedTupleGo g it v) (λ_ o=>yar (model prog w) A (assign g env v) (λ_ E=>yar (model prog w) A (forIn ifs true λc r=>if r=true then do let ok <-isTrue c env (eval c env);pure (ForInStep.yield ok) else pure (ForInStep.yield r)) (λok j=>if ok=true then yar (model prog w) A (eval d env) (λx C=>yar (model prog w) A (call (.builtin "list.append") [S,x]) (λ_ y=>∃m,m<n/\I m y) (λ_ _=>False) C) (λ_ _=>False) j else∃m,m<n/\I m j) (λ_ _=>False) E) (λ_ _=>False) o) (λ_ _=>False) q) (λ_ _=>False) s)(n)(h:I n s):
  codeAny (model prog w) A (.compLoop (.ListComp d [⟨g,iter,ifs,0⟩] scope pos) 0 it S env) R s:=by
 refine codeAny_loop rfl I (λn s U=>?_) n h;refine wpAny_noted ?_;refine wpAny_noRaise ?_;refine yaa (yay (yaa (yac (turn n s U) (λr q G=>?_) λ_ _ u=>u)));cases r with
 |none=>exact yab G
 |some v=>
  refine yaa (yac G (λ_ o H=>?_) λ_ _ u=>u);refine yaa (yac H (λ_ E P=>yaa (yac P (λok j F=>?_) λ_ _ u=>u)) λ_ _ u=>u);cases ok with
  |false=>exact yab ⟨rfl,F⟩
  |true=>
   exact yaa (yaa (yac F (λx C O=>yaa (yac O (λ_ y L=>yab (yab ⟨rfl,L⟩)) λ_ _ u=>u)) λ_ _ u=>u))
def Og(X:Cx)(o:List Expr)(t:TT):Prop:=
 ∀(a)(s)(j:St)(H)(Q),Inv X a j H s->t j H Q->
  yar (model X.prog X.w) X.A (forIn o true λc r=>if r=true then do let ok <-isTrue c X.env (eval c X.env);pure (ForInStep.yield ok) else pure (ForInStep.yield r)) (TP X a j Q) X.xe s
def Sj:TT:=λ_ H Q=>Q true H
def cB:Og X [] Sj:=λ_ _ _ H _ I h=>wpAny_tests_nil ⟨H,I,h⟩
def eO(h:PT X c d):Og X [c] d:=λa s j H Q I hw=>wpAny_tests_one (h a s j H Q I hw)
def MQ(J:It)(g:TG)(F:TT)(te:TE)(s:St)(H:Hp)(G:List V->Hp->Prop):Prop:=
 ∃W:Nat->Nat->List V->St->Hp->Prop,(∃m,W 0 m [] s H)/\∀i m o u H,W i m o u H->
  (J.stop i H/\G o H)∨(J.go i H/\∃M:List V->St->Hp->Prop,(∀y j q,M y j q->∃C,C<m/\W (i+1) C y j q)/\∀x q,J.JB i H x q->g x u q λa L=>F a L λb E=>if b=true then te a E λv I=>o.length<yag/\M (o++[v]) a I else M o a E)
noncomputable abbrev lobj(its:List yai)(k:Nat):Obj:={cls:=.type "list",data:=.seq its.toArray k}
def xB{j:yah}{RR:yai->Addr->Result->yah->Prop}(S:ee scope N)(an:jG X.N X.env scope N caps=true)(ae:∀n,(n,NameKind.free)∈scope.names->∃c,X.env.cells.lookup n=some c)(hc:X.calm=true)(hg:∀s₀ H₀ C fp,PG (jv X scope N s₀ H₀ C fp) tg g)(ht:∀s₀ H₀ C fp,Og (jv X scope N s₀ H₀ C fp) ifs tt)(he:∀s₀ H₀ C fp,PE (jv X scope N s₀ H₀ C fp) elt te)(I2:Inv X pins σ R j)(T:Turn X.prog X.w X.K tg J fp it tn)(st2:tn 0 j.heap)(f2:∀b∈fp,nI X pins R b)(h:MQ J g tt te (uL caps σ) R Qd)(hRR:∀(D C) m H P (Z),Inv X pins σ (upd P D (.lst H)) Z->P D=none->Z.heap.Ns C m->nI X pins (upd P D (.lst H)) C->Qd H P->RR (.ref D) C (.ok .next) Z):
  yar (model X.prog X.w) X.A (newList []) (λacc L=>yar (model X.prog X.w) X.A (newFunctionEnv scope X.env.globals (kZ X.env scope.names []) [] X.env.qual none .none (some X.env)) (λac ag=>codeAny (model X.prog X.w) X.A (.compStart (.ListComp elt [⟨tg,iter,ifs,0⟩] scope pos) 0 (.ref it) acc {ac with scope:=relabel scope X.env}) (RR acc ac.locals) ag) E L) E j:=by
 have hfl:∀b∈fp,b<j.heap.objs.size:=λb s=>by
  let⟨o,e,_⟩:=T.obj 0 j.heap st2 b s;exact zcy e
 refine yae (wpAny_newFunctionEnv S.Gp (by simp) (λam hns hsb=>?_) S.kind);generalize hHD:j.heap.push {cls:=.type "list",dict:=none,data:=.seq ([]:List yai).toArray}=HD at hns hsb⊢;have hC:HD.objs.size=j.heap.objs.size+1:=by rw[<-hHD,zcc]
 have hDC:j.heap.objs.size≠HD.objs.size:=by simp_all
 have QT:j.heap.objs.size<=HD.objs.size:=by simp_all
 have old  :=λb o e=>
  hsb.extBut b o (by rw[hC];exact zco (zbi (zcy e))) (zau _ (hHD▸zau _ e))
 have hacc  :=hsb.extBut _ _ hDC (zau _ (hHD▸zaO _ rfl));let⟨W,⟨m0,w0⟩,turn⟩:=h;have IY0:=Inv.block (s1:=j) (tk:=j.toks+([]:List (Str×yai)).length) S an ae I2 f2 hfl QT old hns;have freshD  :=I2.hok.fresh (zcA _);have Nm:∀{O:St}{U:Hp}{s':yah}{a:List yai}{k:Nat},Inv (jv X scope N j R HD.objs.size fp) [] O U s'->U j.heap.objs.size=none->s'.heap.get? j.heap.objs.size=some (lobj a k)->
   Inv (jv X scope N j R HD.objs.size fp) [(j.heap.objs.size,lobj a k)] O U s':=λ{O U s' a k} I hn e=>I.kE λp hp=>by
  have ep  :=by simpa using hp
  subst ep;exact⟨e,hn,hDC,λz=>by
   obtain q|q:=zcd.mp (I2.oN _ z)
   ·exact absurd (q▸I2.lt) (zch _)
   ·exact I2.TU (zcA _) q,λv z=>by cases z⟩
 have fY:∀{U:Hp}{a:List yai}{k:Nat},(∀b∈fp,U b=none)->∀b∈fp,nI (jv X scope N j R HD.objs.size fp) [(j.heap.objs.size,lobj a k)] U b:=λ{U a k} hn b s=>by
  have z:=f2 b s;refine⟨hn b s,zco (zaU (hfl b s) QT),λq=>?_,.inl s,λx c e=>IY0.ok.Wt b s |>.2 x c e,λp hp=>?_⟩
  ·obtain q|q:=zcd.mp (I2.oN b q)
   ·exact z.2.1 q
   ·exact z.2.2.1 q
  ·have ep:p=(j.heap.objs.size,lobj a k):=by
    have:p∈[]++[(j.heap.objs.size,lobj a k)]:=hp;simp_all
   subst ep;exact zcr (hfl b s)
 have fin:∀{O:St}{P:Hp}{Z:yah}{H:List V}{a:List yai}{k:Nat},Inv (jv X scope N j R HD.objs.size fp) [(j.heap.objs.size,lobj a k)] O P Z->Vals H a->H.length<=yag->Qd H P->
   RR (.ref j.heap.objs.size) HD.objs.size (.ok .next) Z:=λ{O P Z H a k} I r hz q=>by
  have hD:=I.pin (j.heap.objs.size,lobj a k) (by simp);have IX  :=I2.UZ I.os I.base I.hok I.bare λb s=>⟨(f2 b s).2.2.2.1,(f2 b s).2.1,(f2 b s).2.2.2.2.1,(f2 b s).2.2.2.2.2⟩
  have fD  :=I2.zA (zcA _) hD.2.1;have fC  :=I2.zA QT I.free;have IT:Inv X pins σ (upd P j.heap.objs.size (.lst H)) Z:=IX.rE hD.2.1 I2.sz fD.2.1 (λx c e=>fD.2.2.2.2.1 x c e) (λp hp=>fD.2.2.2.2.2 p hp) ⟨hz,a,k,r,hD.1⟩;obtain⟨m,hn,_⟩:=I.loc;exact hRR _ _ m H P Z IT hD.2.1 hn ⟨by rw[aQ (Ne.symm hDC)];exact fC.1,fC.2⟩ q
 have ab:∀L,L={j with heap:=am,toks:=j.toks+([]:List (Str×yai)).length}->
   codeAny (model X.prog X.w) X.A (.compLoop (.ListComp elt [⟨tg,iter,ifs,0⟩] scope pos) 0 (.ref it) (.ref j.heap.objs.size) (compEnvC scope (kZ X.env scope.names []) HD.objs.size X.env)) (RR (.ref j.heap.objs.size) HD.objs.size) L:=by
  rintro L rfl;refine iQ (λn s'=>∃i H a k O U,Inv (jv X scope N j R HD.objs.size fp) [(j.heap.objs.size,lobj a k)] O U s'/\tn i s'.heap/\(∀b∈fp,U b=none)/\Vals H a/\H.length<=yag/\W i n H O U) ?_ m0
   ⟨0,[],[],0,_,_,Nm IY0 freshD hacc,T.keep 0 _ _ st2 λb _ o e=>old b o e,λb s=>(f2 b s).1,.nil,zcB _,w0⟩
  intro n s3 zx;let⟨i,H,a,k,O,P,I3,st3,fr3,r3,z3,w3⟩:=zx;rcases turn i n H O P w3 with⟨stop,qn⟩|⟨go,M,hM,step⟩
  ·refine yac (T.done (jv X scope N j R HD.objs.size fp) rfl rfl rfl hc i _ s3 O P (λ_ _=>False) I3 (fY fr3) st3 stop) (λr Z F=>?_) λ_ _ z=>z;let⟨hr,I4⟩:=F;subst hr;exact fin I4 r3 z3 qn
  ·refine yac (T.item (jv X scope N j R HD.objs.size fp) rfl rfl rfl hc i _ s3 O P (λ_ _=>False) I3 (fY fr3) st3 go) (λr Z F=>?_) λ_ _ z=>z;let⟨u,hr,h4⟩:=F;subst hr;refine yac h4 (λ_ s5 F=>?_) λ_ _ z=>z;let⟨x,H5,I5,r5,y5,st5,fr5⟩:=F;have I5':=I5.pinned (fY fr5) (T.obj _ _ st5);have NB:∀{τ7:St}{H7:Hp}{s7:yah},Inv (jv X scope N j R HD.objs.size fp) ([(j.heap.objs.size,lobj a k)]++pB fp s5.heap) τ7 H7 s7->tn (i+1) s7.heap/\∀b∈fp,H7 b=none:=λ{τ7 H7 s7} I7=>by
    refine⟨T.keep _ _ _ st5 λb s o e=>(I7.pin (b,o) (zax _ (zax _ (gM s e)))).1,λb s=>?_⟩;let⟨o,e,d⟩:=T.obj _ _ st5 b s;exact(I7.pin (b,o) (zax _ (zax _ (gM s e)))).2.1
   refine yac (hg _ _ _ _ _ s5 O H5 x u _ I5' r5 (step x H5 y5)) (λ_ s6 F=>?_) λ_ _ z=>z;let⟨Y,H6,I6,q6⟩:=F;refine yac (ht _ _ _ _ _ s6 Y H6 _ I6 q6) (λok s7 F=>?_) λ_ _ z=>z;let⟨H7,I7,q7⟩:=F;cases ok with
   |false=>
    let⟨m',hm,w7⟩:=hM _ _ _ q7;obtain⟨a1,a2⟩:=NB I7;exact⟨m',hm,i+1,H,a,k,Y,H7,I7.iz,a1,a2,r3,z3,w7⟩
   |true=>
    refine yac (he _ _ _ _ _ s7 Y H7 _ I7 q7) (λv s8 F=>?_) λ_ _ z=>z;let⟨y,H8,I8,r8,q8⟩:=F;let⟨hz,q8⟩:=q8;let⟨m',hm,w8⟩:=hM _ _ _ q8;let⟨a1,a2⟩:=NB I8;have hD:=I8.pin (j.heap.objs.size,lobj a k) (zax _ (zaD _ (by simp)));have ap:=r3.length;refine wpAny_list_append_plain ⟨k,hD.1⟩ (λh' hp hs=>?_) (by simp_all);let⟨k',hp⟩:=hp;have I9:Inv (jv X scope N j R HD.objs.size fp) [] Y H8 {s8 with heap:=h'}:=
     (I8.kE (by simp)).turned (λb o s e=>(hs.2 b s).trans e) hD.2.1 hD.2.2.1 (.inr (zcA _))
      (λx c e z=>by
       let⟨v,o,ho,hd⟩:=I8.cell x c e;lia) (by intro p hp;exact absurd (show p∈([]:List (Addr×Obj))++[] from hp) (by simp))
    have hp':({s8 with heap:=h'}:yah).heap.get? j.heap.objs.size=some (lobj (a++[v]) k'):=by
     simp_all
    have hkt  :=T.keep _ _ _ a1 λb s o e=>(hs.2 b (zco (hfl b s))).trans e;refine⟨m',hm,i+1,H++[y],a++[v],k',Y,H8,Nm I9 hD.2.1 hp',hkt,a2,r3.append (.cons r8 .nil),?_,w8⟩;rw[zaP];exact hz
 exact codeAny_compStart_list (ab _ rfl) (T.self X.A 0 _ _ _ (T.keep 0 _ _ st2 λb _ o e=>old b o e) (ab _ rfl))
noncomputable def freeOk(env:Env)(scope:Scope):Bool:=scope.names.all λp=>p.2 != .free||env.scope.names.lookup p.1==some .cell||env.scope.names.lookup p.1==some .free
theorem Inv.freeOk(I:Inv X pins σ d s)(h:freeOk X.env g=true):∀n,(n,NameKind.free)∈g.names->∃c,X.env.cells.lookup n=some c:=λn a=>by
 have q:=zbt.mp h _ a;simp only[zbR,beq_iff_eq] at q;refine I.ok.has n ?_;rcases q with(q|q)|q
 ·simp_all
 ·exact .inl q
 ·exact .inr q
def Es(caps:List (Option Nat))(q:TI)(g:TG)(s:TT)(te:TE):TE:=λa H Q=>q a H λJ u=>MQ J g s te (uL caps a) u λo j=>∀p,j p=none->Q (.ref p) (upd j p (.lst o))
def bS(S:ee scope N)(y:jG X.N X.env scope N caps=true)(u:L2.freeOk X.env scope=true)(hc:X.calm=true)(hi:PI X tg iter O)(hg:∀s₀ H₀ C a,PG (jv X scope N s₀ H₀ C a) tg g)(Z:∀s₀ H₀ C a,Og (jv X scope N s₀ H₀ C a) ifs d)(he:∀s₀ H₀ C a,PE (jv X scope N s₀ H₀ C a) F te)(hs:∀x,foldedSetIterable iter X.env x=pure x:=by intro _;rfl):PE X (.ListComp F [⟨tg,iter,ifs,0⟩] scope pos) (Es caps O g d te):=by
 intro j s U H Q I h;refine wpAny_comprehension_free rfl hs (jF (I.freeOk u)) S.kind (λx Y L=>L▸S.names x Y) ?_;refine cE (hi j s U H _ I h) λv s1 h1=>cE h1 λW s2 h2=>?_;let⟨it,a,tn,J,H2,rfl,I2,T,G,f2,L⟩:=h2;refine xB S y (I.freeOk u) hc hg Z he I2 T G f2 L ?_;intro D C m xs H3 s4 IT hD hn E q;refine⟨m,hn,λh' sb=>⟨.ref D,_,?_,rfl,q D hD⟩⟩;exact IT.turned (λb o hb e=>(sb.2 b hb).trans e) E.1 E.2.1 E.2.2.2.1 E.2.2.2.2.1 E.2.2.2.2.2
def ff(hN:X.N.Nodup)(Y:X.N[i]? =some x)(L:X.env.scope.names.lookup x=some .local)(S:ee scope N)(G:jG X.N X.env scope N caps=true)(F:L2.freeOk X.env scope=true)(hc:X.calm=true)(hi:PI X tg iter wi)(hg:∀s₀ H₀ C E,PG (jv X scope N s₀ H₀ C E) tg g)(ht:∀s₀ H₀ C E,Og (jv X scope N s₀ H₀ C E) ifs tt)(he:∀s₀ H₀ C E,PE (jv X scope N s₀ H₀ C E) d te)(Q:autoParam (yat (.ListComp d [⟨tg,iter,ifs,0⟩] scope pos) (some (.Name x pos')) k.line X.env=pure true) r0)(hs:∀x,foldedSetIterable iter X.env x=pure x:=by intro _;rfl):PS X (.Assign [.Name x pos'] (.ListComp d [⟨tg,iter,ifs,0⟩] scope pos) k) (JK (Es caps wi g tt te) (Bx i)):=by
 intro j s σ H D I h;rw[exec_Assign_Name_used _ _ _ _ Q];refine yaa (yay (yaa ?_));refine yaa (yac (wpAny_comprehension_free rfl hs (jF (I.freeOk F)) S.kind (λx L W=>W▸S.names x L) (cE (hi j s σ H _ I h) λv s1 h1=>cE h1 λitv s2 h2=>?_)) (λ_ s' hq=>yab (yab hq)) λ_ _ e=>e);let⟨it,E,tn,J,H2,rfl,I2,T,O,f2,W⟩:=h2;refine xB S G (I.freeOk F) hc hg ht he I2 T O f2 W ?_;intro Dl C m xs H3 s4 IT hD hn u q;let⟨P,es,ep,U,Z,rC⟩:=id hn;have IP:Inv X (j++[(C,P)]) σ (upd H3 Dl (.lst xs)) s4:=IT.kE λp hp=>(zbE.mp hp).elim (λz=>IT.pin p (zax _ z)) λz=>by
  have e  :=by simpa using z
  subst e;refine⟨U,u.1,u.2.1,u.2.2.1,λv z=>by simp_all⟩
 refine wpAny_assign_Name (j9 (v:=.ref Dl) IP hN Y (.inl L) rfl (λs5 I5=>?_) (.inr L));have hC5:=I5.pin (C,P) (zax _ (zax _ (by simp)));refine⟨m,⟨P,es,ep,hC5.1,Z,rC⟩,λh' sb=>⟨_,_,?_,q Dl hD⟩⟩;exact I5.iz.turned (λb o hb e=>(sb.2 b hb).trans e) u.1 u.2.1 u.2.2.2.1 u.2.2.2.2.1 u.2.2.2.2.2
mutual
def dJ(K:yaJ)(H:Hp):yam->V->Prop
 |.none,v=>v=.bB
 |.bool b,v=>v=.bl b
 |.int i,v=>v=.int i
 |.str x,v=>v=.str x
 |.list ds,v=>∃a j,v=.ref a/\cW K H a j/\jI K H ds j
 |.tuple ds,v=>∃a j,v=.ref a/\fR K H a j/\jI K H ds j
 |.dict _,_=>False
def jI(K:yaJ)(H:Hp):List yam->List V->Prop
 |[],xs=>xs=[]
 |d::ds,xs=>∃x r,xs=x::r/\dJ K H d x/\jI K H ds r
end
def fR.same(e:∀b o,H b=some o->H' b=some o)(h:fR K H a xs):fR K H' a xs:=by
 rcases h with(h|⟨o,h⟩)|h
 ·exact .inl (.inl (e _ _ h))
 ·exact .inl (.inr ⟨o,e _ _ h⟩)
 ·exact .inr h
section
variable {σ:St}
mutual
theorem Inv.reads(I:Inv X pins σ H s):∀(d:yam)(v:V)(u:yai),dJ X.K H d v->RelV v u->∃as,Reads s.heap u d as
 |.none,v,u,h,r=>by
  simp only[dJ] at h;subst h;cases r;exact⟨_,.none⟩
 |.bool b,v,u,h,r=>by
  simp only[dJ] at h;subst h;cases r;exact⟨_,.bool b⟩
 |.int i,v,u,h,r=>by
  simp only[dJ] at h;subst h;let⟨t,rfl⟩:=r;exact⟨_,.int i t⟩
 |.str x,v,u,h,r=>by
  simp only[dJ] at h;subst h;let⟨t,rfl⟩:=r;exact⟨_,.str x t⟩
 |.list ds,v,u,h,r=>by
  simp only[dJ] at h;let⟨a,y,rfl,h2,F⟩:=h;cases r;let⟨j,C,⟨o,n,e,E,_,hd⟩,_⟩:=I.list h2;let⟨as,q⟩:=Inv.readsAll I ds y j F C;exact⟨_,.list e E hd (by simpa using q)⟩
 |.tuple ds,v,u,h,r=>by
  simp only[dJ] at h;let⟨a,y,rfl,h2,F⟩:=h;cases r;let⟨j,C,⟨o,e,E,n,hd⟩,_⟩:=I.tuple h2;let⟨as,q⟩:=Inv.readsAll I ds y j F C;exact⟨_,.tuple e E hd (by simpa using q)⟩
 |.dict _,_,_,h,_=>by simp only[dJ] at h
theorem Inv.readsAll(I:Inv X pins σ H s):∀(ds:List yam)(a:List V)(j:List yai),jI X.K H ds a->Vals a j->∃as,ReadsAll s.heap j ds as
 |[],a,j,h,r=>by
  simp only[jI] at h;subst h;cases r;exact⟨_,.nil⟩
 |d::ds,a,j,h,r=>by
  simp only[jI] at h;let⟨x,o,rfl,h2,u⟩:=h;cases r with
  |cons r1 r2=>
   let⟨as,q⟩:=Inv.reads I d x _ h2 r1;let⟨bs,q2⟩:=Inv.readsAll I ds o _ u r2;exact⟨_,.cons q q2⟩
end
def V1(K:yaJ):List V->Hp->VK->Prop:=λj H Q=>∃x c t u b,j=[x,c]/\RelV c u/\(∀a,RelV c a->a=u)/\lg K H x t/\PySem.W.kitOne K t u=some b/\Q (.bl b) H
def HK:cJ X (.builtin "isinstance") (V1 X.K):=by
 intro j s σ H E F Q I r h;let⟨x,c,t,u,b,rfl,G,y,ty,e,q⟩:=h;let⟨v,o,rfl,C,a⟩:=vals2 r;cases y o a;exact C8 I C ty e λtk=>⟨.bl b,H,I.tok tk,rfl,q⟩
def FP:RelV (.ty d) (.type d)/\∀u',RelV (.ty d) u'->u'=.type d:=⟨rfl,λu' h=>h⟩
theorem j7:∀{a:List Str}{its:List yai},Vals (a.map V.str) its->StrsAre its a
 |[],_,.nil=>.nil
 |y::a,_,.cons r t=>by
  let⟨tk,e⟩:=(show∃t,_=Value.str y t from r)
  subst e;exact .cons y tk (j7 t)
end
noncomputable def notStar:Expr->Bool
 |.Starred _ _=>false
 |_=>true
def bW(es)(env)(h:notStar e=true):yao (e::es) env=(false,eval e env)::yao es env:=by
 cases e<;>first|rfl|cases h
theorem eW:∀(es),es.all notStar=true->(yau d (yao es g)).any (·.1)=false
 |[],_=>rfl
 |e::es,h=>by
  rw[zcg,zbB] at h;rw[bW es g h.1];show(false||(yau d (yao es g)).any (·.1))=false;rw[eW es h.2];rfl
theorem vj:∀(es),es.all notStar=true->(yau d (yao es g)).all (λx=>!x.1)=true
 |[],_=>rfl
 |e::es,h=>by
  rw[zcg,zbB] at h;rw[bW es g h.1];show(true&&(yau d (yao es g)).all (λx=>!x.1))=true;rw[vj es h.2];rfl
section
variable {es:List Expr}{t:TA}{p:Pos}{id T:String}{r:List V->Hp->VK->Prop}
def aE(o:PE X e te)(j:PA X es t)(a:autoParam (notStar e=true) r0):PA X (e::es) (Er te t):=KC o j (bW es X.env a)
def jA(v:cJ X (.builtin id) r)(u:Gl X x)(s:X.mg x=none)(j:bootBuiltins x=some (.builtin id))(y:PA X (e::es) t)(q:x≠"__name__":=by decide+kernel)(a:(x==("__debug__":Str))=false:=by decide+kernel)(o:autoParam ((e::es).all notStar=true) r0):PE X (.Call (.Name x p) (e::es) [] pos) (Sy r t):=by
 have h2:=o;rw[zcg,zbB] at h2;exact Ga v u s j y q a (bW es X.env h2.1) (eW es h2.2)
def rX(v:cJ X (.type T) r)(u:Gl X x)(s:X.mg x=none)(j:bootBuiltins x=some (.type T))(y:PA X (e::es) t)(q:x≠"__name__":=by decide+kernel)(a:(x==("__debug__":Str))=false:=by decide+kernel)(o:autoParam ((e::es).all notStar=true) r0):PE X (.Call (.Name x p) (e::es) [] pos) (Sy r t):=by
 have h2:=o;rw[zcg,zbB] at h2;exact CL v u s j y q a (bW es X.env h2.1) (eW es h2.2)
end
structure Src(K:yaJ)(mg:Str->Option yai)(x:Str)(ps:List Str)(st:Stmt):Prop where
 ex:∃f fd,DZ K x x st f fd/\mg x=some (.ref f)/\Binds K fd ps []
structure Def(P:yaj)(w:yak)(K:yaJ)(mg:Str->Option yai)(base:Heap)(k:Nat)(x:Str)(ps:List Str)(sp:Sp):Prop where
 ex:∃f fd,cY P w K mg base lQ k f fd ps sp/\mg x=some (.ref f)/\zca K (.ref f)=true/\Binds K fd ps []
def Src.def(F:Src K mg x ps st)(S:ak N ps (ah st))(len:∀vs H Q E,sp vs H Q E->vs.length=ps.length)(a:∀(f)(j)(A)(outer)(s)(H)(vs)(Q)(E),aW k (A.deeper (envOfC x (ah st) s.heap.objs.size f j))->sp vs H Q E->∃t,z7 (mz lQ P w K mg base N x (ah st) f j A outer s H E).Gm (bG st) t/\t {nx:=λ_ H'=>Q .bB H',rt:=Q} (start N vs) H):Def P w K mg base (k+1) x ps sp:=by
 obtain⟨f,fd,F,o,q⟩:=F.ex;refine⟨f,fd,F.ok S len (a f),o,F.kp,q⟩
theorem Def.imp(D:Def P w K mg base k x ps sp)(h:∀vs H Q E,d vs H Q E->sp vs H Q E):Def P w K mg base k x ps d:=by
 obtain⟨f,fd,F,j,o,q⟩:=D.ex;refine⟨f,fd,F.imp h,j,o,q⟩
section
variable {es:List Expr}{t:TA}{p:Pos}{k:Nat}{sp:Sp}
def lZ(D:Def X.prog X.w X.K X.mg X.base k x ps sp)(q:aW k X.A)(v:Gl X x)(j:Passes lQ X E0)(C:PA X (e::es) t)(a:(x==("__debug__":Str))=false:=by decide+kernel)(o:autoParam ((e::es).all notStar=true) r0):
  PE X (.Call (.Name x p) (e::es) [] pos) (Ai sp [] E0 t):=by
 obtain⟨f,fd,F,s,u,y⟩:=D.ex;have h2:=o;rw[zcg,zbB] at h2;exact Kz F q v s u y .nil j C a (bW es X.env h2.1) (eW es h2.2)
def A8(T)(q:Gl X x)(o:X.mg x=none)(a:bootBuiltins x=some (.type T))(j:x≠"__name__":=by decide+kernel)(hd:(x==("__debug__":Str))=false:=by decide+kernel):PE X (.Name x pos) (tC (.ty T)):=
 KA q o a rfl j hd
end
noncomputable def Rt(scope:Scope)(N:List Str):Bool:=
 (match scope.kind with|.function=>true|_=>false)&&decide N.Nodup&&scope.names.all λy=>y.2 != .cell&&scope.names.lookup y.1==some y.2
def c9(h:Rt scope N=true):ee scope N:=by
 delta Rt at h;rw[zbB,zbB] at h;let⟨⟨h1,h2⟩,a⟩:=h;have a:=zbt.mp a;refine⟨?_,of_decide_eq_true h2,λy j=>?_,λy j=>?_⟩
 ·lia
 ·have:=a y j;simp_all
 ·have:=a y j;simp_all
section
variable {o:Expr}{es:List Expr}{to:TE}{t:TA}{T id:String}{r:V->List V->Hp->VK->Prop}
def P4(v:PlainAttrs T)(slot:Slot T name id)(s:typeOf (.builtin id)=pure (.type "method_descriptor"))(y:DW X id r)(x:PE X o to)(C:PA X (e::es) t)(j:autoParam (attributeBase o name X.env (eval o X.env)=eval o X.env) r0)(u:autoParam ((e::es).all notStar=true) r0)(q:autoParam (decide ((e::es).length+0+0<30)=true) r0)(a:autoParam ((apos.endLine==cpos.line)=true) r0)(E:autoParam (X.K=K) r0):PE X (.Call (.Attribute o name apos) (e::es) [] cpos) (VH K T r to t):=by
 subst E;have h2:=u;rw[zcg,zbB] at h2;refine dz v slot s y x C j ?_ a (bW es X.env h2.1) (eW es h2.2);rw[vj _ u];show(true&&true&&decide ((e::es).length+0+0<30))=true;rw[q];rfl
end
end L2
set_option maxHeartbeats 400000
namespace PySem.W
open PySem PySem.Calls PyProof.Rows Builtin Builtin.ObjectAttr
noncomputable abbrev Uv(C:Addr)(a:Option Addr)(vs:Array yai):Obj:={cls:=.ref C,dict:=a,data:=.fields vs}
end PySem.W
set_option maxHeartbeats 1000000
set_option maxHeartbeats 4000000
namespace J
open PySem PySem.Spec PyProof.Rows L2
def Ju{p:List yai->Prop}(h:∀a,p [a])(j)(e:j.length=1):p j:=by
 cases j with
 |nil=>cases e
 |cons a r=>
  have e  :=zaa (Nat.succ.inj e);subst e;exact h a
def u9{p:List yai->Prop}(h:∀a b,p [a,b])(j)(e:j.length=2):p j:=by
 cases j with
 |nil=>cases e
 |cons a r=>exact Ju (p:=λr=>p (a::r)) (h a) r (Nat.succ.inj e)
def BU{p:List yai->Prop}(h:∀a b c,p [a,b,c])(j)(e:j.length=3):p j:=by
 cases j with
 |nil=>cases e
 |cons a r=>exact u9 (p:=λr=>p (a::r)) (h a) r (Nat.succ.inj e)
def by4{p:List yai->Prop}(h:∀a b c d,p [a,b,c,d])(j)(e:j.length=4):p j:=by
 cases j with
 |nil=>cases e
 |cons a r=>exact BU (p:=λr=>p (a::r)) (h a) r (Nat.succ.inj e)
def OO(X:K.In h)(G:h.Ns yaq mg)(a:zcx K yaq x=some (some (.ref f)))(l:K.lookup f=some ⟨oc,d,.func (zcw x x (cP st) (bG st) (ah st) .none r z pm g D ct),osl⟩)(c:zcb K D x=true)(k:zca K (.ref f)=true)(b:∀(r z pm:yai)(g:Option Addr)(D ct:yai)(q:List yai),q.length=ps.length->yaA (zcw x x (cP st) (bG st) (ah st) .none r z pm g D ct) ⟨q,[]⟩=pure (ps.zip q)):Src K mg x ps st:=
 ⟨f,_,gT (st:=st) l c k,zck X G a,(gT (st:=st) l c k).binds b⟩
end J
namespace M
open PySem L2
inductive D where
 |bB|bl (b:Bool)|int (i:Int)|str (x:Str)|tup (ds:List D)|lst (ds:List D)|dct (ks:List Key) (ds:List D)|loc (n:Nat)|ty (n:String)|mZ (ns:List Int)|fd|fn (a:Addr)
inductive MO where
 |lst (ds:List D)|dct (ks:List Key) (ds:List D)|feed (n:Nat)|ins (C:Addr) (ks:List Str) (ds:List D)|Lp (F:Addr->List Addr->Heap->Prop) (ks:List D)|Hh (F:Addr->List V->Heap->Prop) (ks:List D)
noncomputable def fd3(l s d:Int):List (Key×V):=[(.inr "left",.int l),(.inr "seed",.int s),(.inr "drawn",.int d)]
abbrev aq:=List (Option MO)
noncomputable def MO.d:MO->D
 |.lst ds=>.lst ds
 |.dct ks ds=>.dct ks ds
 |.feed _=>.fd
 |.ins _ _ _=>.fd
 |.Lp _ _=>.fd
 |.Hh _ _=>.fd
inductive R where
 |dat (d:D)|new (o:MO)
noncomputable def R.d:R->D
 |.dat d=>d
 |.new o=>o.d
def al(a:H d=none):ir H (upd H d g):=λb j e=>by rw[aQ (bK e a)];exact e
structure Wd where
 B:Hp
 r:Nat->Option Addr
structure Wd.le(w w':Wd):Prop where
 b:ir w.B w'.B
 r:∀n a,w.r n=some a->w'.r n=some a
theorem Wd.le.refl{w:Wd}:w.le w:=⟨ir.refl _,λ_ _ h=>h⟩
theorem Wd.le.trans{w o j:Wd}(h:w.le o)(g:o.le j):w.le j:=⟨h.b.trans g.b,λn a e=>g.r n a (h.r n a e)⟩
mutual
def Rep(K:yaJ)(w:Wd):D->V->Prop
 |.bB,v=>v=.bB
 |.bl b,v=>v=.bl b
 |.int i,v=>v=.int i
 |.str x,v=>v=.str x
 |.ty n,v=>v=.ty n
 |.fd,v=>∃a,v=.ref a
 |.fn a,v=>v=.ref a
 |.loc n,v=>∃a,w.r n=some a/\v=.ref a
 |.tup ds,v=>∃a o,v=.ref a/\fR K w.B a o/\av K w ds o
 |.lst ds,v=>∃a o,v=.ref a/\w.B a=some (.lst o)/\av K w ds o
 |.mZ ns,v=>∃a,v=.ref a/\cW K w.B a (ns.map V.int)
 |.dct ks ds,v=>∃a j,v=.ref a/\w.B a=some (.dK j)/\j.map (·.1)=ks/\av K w ds (j.map (·.2))
def av(K:yaJ)(w:Wd):List D->List V->Prop
 |[],xs=>xs=[]
 |d::ds,xs=>∃x r,xs=x::r/\Rep K w d x/\av K w ds r
end
mutual
theorem Rep.le{K:yaJ}{w q:Wd}(e:w.le q):∀(d:D)(v:V),Rep K w d v->Rep K q d v
 |.bB,_,h=>by simpa[Rep] using h
 |.bl b,_,h=>by simpa[Rep] using h
 |.int i,_,h=>by simpa[Rep] using h
 |.str x,_,h=>by simpa[Rep] using h
 |.ty x,_,h=>by simpa[Rep] using h
 |.fd,_,h=>by simpa[Rep] using h
 |.fn _,_,h=>by simpa[Rep] using h
 |.loc n,v,h=>by
  simp only[Rep] at h⊢;let⟨a,h1,h2⟩:=h;refine⟨a,e.r _ _ h1,h2⟩
 |.lst ds,v,h=>by
  simp only[Rep] at h⊢;let⟨a,j,h1,h2,o⟩:=h;refine⟨a,j,h1,e.b _ _ h2,av.le e ds j o⟩
 |.mZ ns,v,h=>by
  simp only[Rep] at h⊢;let⟨a,h1,h2⟩:=h;refine⟨a,h1,e.b.seq h2⟩
 |.tup ds,v,h=>by
  simp only[Rep] at h⊢;let⟨a,j,h1,h2,o⟩:=h;refine⟨a,j,h1,fR.same e.b h2,av.le e ds j o⟩
 |.dct ks ds,v,h=>by
  simp only[Rep] at h⊢;let⟨a,j,h1,h2,o,s⟩:=h;refine⟨a,j,h1,e.b _ _ h2,o,av.le e ds _ s⟩
theorem av.le{K:yaJ}{w j:Wd}(e:w.le j):∀(ds:List D)(a:List V),av K w ds a->av K j ds a
 |[],_,h=>by simpa[av] using h
 |d::ds,a,h=>by
  simp only[av] at h⊢;let⟨x,r,h1,h2,o⟩:=h;refine⟨x,r,h1,Rep.le e d x h2,av.le e ds r o⟩
end
section
variable {w w':Wd}
def av.nil:av K w [] []:=by simp[av]
def av.cons{d:D}{ds:List D}{vs:List V}(h:Rep K w d v)(t:av K w ds vs):av K w (d::ds) (v::vs):=by
 refine⟨v,vs,rfl,h,t⟩
theorem av.length:∀{ds:List D}{vs:List V},av K w ds vs->vs.length=ds.length
 |[],_,h=>by simp only[av] at h;simp_all
 |d::ds,vs,h=>by
  let⟨x,r,rfl,_,h⟩:=h;simp[av.length h]
theorem av.get:∀{ds:List D}{vs:List V}{i:Nat}{d:D},av K w ds vs->ds[i]? =some d->∃v,vs[i]? =some v/\Rep K w d v
 |[],_,_,_,_,e=>by simp at e
 |d::ds,vs,0,d',h,e=>by
  let⟨x,r,rfl,h1,h⟩:=h;simp at e;subst e;refine⟨x,rfl,h1⟩
 |d::ds,vs,i+1,d',h,e=>by
  let⟨x,r,rfl,h1,h⟩:=h;let⟨v,j,a⟩:=av.get h (by simpa using e);refine⟨v,by simp_all,a⟩
theorem av.append:∀{ds es:List D}{vs a:List V},av K w ds vs->av K w es a->av K w (ds++es) (vs++a)
 |[],_,_,_,h,g=>by subst h;exact g
 |d::ds,es,vs,a,h,g=>by
  let⟨x,r,rfl,h1,h⟩:=h;exact av.cons h1 (av.append h g)
def av.snoc(h:av K w ds vs)(g:Rep K w d v):av K w (ds++[d]) (vs++[v]):=h.append (.cons g .nil)
theorem av.take:∀(n){ds:List D}{vs:List V},av K w ds vs->av K w (ds.take n) (vs.take n)
 |0,_,_,_=>by simp[av]
 |n+1,[],_,h=>by subst h;simp[av]
 |n+1,d::ds,vs,h=>by
  let⟨x,r,rfl,h1,h⟩:=h;exact av.cons h1 (av.take n h)
theorem av.drop:∀(n){ds:List D}{vs:List V},av K w ds vs->av K w (ds.drop n) (vs.drop n)
 |0,_,_,h=>h
 |n+1,[],_,h=>by subst h;simp[av]
 |n+1,d::ds,vs,h=>by
  let⟨x,r,rfl,h1,h⟩:=h;exact av.drop n h
end
def mK(K:yaJ)(w:Wd):MO->HO->Prop
 |.lst ds,u=>∃o,u=.lst o/\av K w ds o
 |.dct ks ds,u=>∃j,u=.dK j/\j.map (·.1)=ks/\av K w ds (j.map (·.2))
 |.feed n,u=>∃l s:Int,u=.dK (fd3 l s n)/\0<=l/\0<=s/\s<1000003
 |.ins C ks ds,u=>∃q fs,u=.ins C q fs/\fs.map (·.1)=ks/\av K w ds (fs.map (·.2))
 |.Lp F ks,u=>∃(a:Addr)(bs:List Addr),u=.ext (F a bs)/\av K w ks (bs.map V.ref)
 |.Hh F ks,u=>∃(a:Addr)(vs:List V),u=.ext (F a vs)/\av K w ks vs
theorem mK.le(e:d.le g):∀{o:MO}{u:HO},mK K d o u->mK K g o u:=by
 intro o u h;cases o with
 |lst ds=>let⟨j,h1,h2⟩:=h;refine⟨j,h1,h2.le e⟩
 |dct ks ds=>let⟨j,h1,h2,q⟩:=h;refine⟨j,h1,h2,q.le e⟩
 |feed n=>exact h
 |ins C ks ds=>let⟨v,fs,h1,h2,q⟩:=h;refine⟨v,fs,h1,h2,q.le e⟩
 |Lp F ks=>let⟨a,bs,h1,h2⟩:=h;refine⟨a,bs,h1,h2.le e⟩
 |Hh F ks=>let⟨a,bs,h1,h2⟩:=h;refine⟨a,bs,h1,h2.le e⟩
structure Ok(K:yaJ)(w:Wd)(H:Hp)(S:aq):Prop where
 base:ir w.B H
 live:∀n o,S[n]? =some (some o)->∃a u,w.r n=some a/\w.B a=none/\H a=some u/\mK K w o u
 inj:∀n m o o',S[n]? =some (some o)->S[m]? =some (some o')->w.r n=w.r m->n=m
 top:∀n,S.length<=n->w.r n=none
def lq(K:yaJ)(w:Wd)(H:Hp)(S:aq):R->V->Prop
 |.dat d,v=>Rep K w d v
 |.new o,v=>∃a u,v=.ref a/\w.B a=none/\H a=some u/\mK K w o u/\∀n j,S[n]? =some (some j)->w.r n≠some a
def fJ(K:yaJ)(w:Wd)(δ:List (Option D))(a:St):Prop:=δ.length=a.length/\∀(i:Nat)(d),δ[i]? =some (some d)->∃v,a[i]? =some (some v)/\Rep K w d v
theorem fJ.le(h:fJ K g δ r)(e:g.le k):fJ K k δ r:=⟨h.1,λi d q=>by
 let⟨v,h1,h2⟩:=h.2 i d q;refine⟨v,h1,h2.le e⟩⟩
theorem fJ.set(h:fJ K k δ r)(g:Rep K k d v)(i:Nat):fJ K k (δ.set i (some d)) (r.set i (some v)):=by
 refine⟨by simp[h.1],λj e q=>?_⟩;by_cases a:i=j
 ·subst a;rw[zbc] at q⊢;rw[yIp rfl] at q⊢;by_cases o:i<δ.length
  ·rw[yIp o] at q;rw[yIp (by rw[<-h.1];exact o)];have  :=by simpa using q
   subst this;refine⟨v,rfl,g⟩
  ·rw[yIn o] at q;cases q
 ·rw[zaE a] at q⊢;exact h.2 j e q
section
variable {w w':Wd}{S S':aq}
def freeze(k:Ok K w H S)(h:lq K w H S r v):∃w',w.le w'/\Ok K w' H S/\Rep K w' r.d v:=by
 cases r with
 |dat d=>refine⟨w,.refl,k,h⟩
 |new o=>
  let⟨a,u,rfl,I,Q,y,P⟩:=h;have le:w.le ⟨upd w.B a u,w.r⟩:=⟨al I,λ_ _ e=>e⟩
  refine⟨⟨upd w.B a u,w.r⟩,le,⟨λb j e=>?_,λn j e=>?_,k.inj,k.top⟩,?_⟩
  ·by_cases q:b=a
   ·subst q;have e:upd w.B b u b=some j:=e;rw[bL] at e;simp_all
   ·have e:upd w.B a u b=some j:=e;rw[aQ q] at e;exact k.base b j e
  ·let⟨x,G,h1,h2,O,L⟩:=k.live n j e;have:x≠a:=by intro z;simp_all
   refine⟨x,G,h1,by show upd w.B a u x=none;rw[aQ this];exact h2,O,L.le le⟩
  ·cases o with
   |lst ds=>
    let⟨E,rfl,h⟩:=y;refine⟨a,E,rfl,bL,h.le le⟩
   |dct ks ds=>
    let⟨s,rfl,h1,h⟩:=y;refine⟨a,s,rfl,bL,h1,h.le le⟩
   |feed n=>
    exact⟨a,rfl⟩
   |ins C ks ds=>
    exact⟨a,rfl⟩
   |Lp F ks=>
    exact⟨a,rfl⟩
   |Hh F ks=>
    exact⟨a,rfl⟩
def store(k:Ok K w H S)(h:lq K w H S (.new d) v):∃w',w.le w'/\Ok K w' H (S++[some d])/\Rep K w' (.loc S.length) v:=by
 let⟨a,u,rfl,I,L,F,y⟩:=h;let r'  :=λn=>if n=S.length then some a else w.r n;have le:w.le ⟨w.B,r'⟩:=⟨ir.refl _,λn b e=>by
  have:n≠S.length:=by
   intro z;subst z;rw[k.top _ (zcA _)] at e;cases e
  lia⟩
 have at_:∀n s,(S++[some d])[n]? =some (some s)->(n=S.length/\s=d)∨(n<S.length/\S[n]? =some (some s)):=λn s e=>by
  by_cases x:n<S.length
  ·rw[zag x] at e;exact .inr ⟨x,e⟩
  ·rw[zac (by simp_all)] at e;have:n - S.length=0:=by
    cases q:n - S.length with
    |zero=>rfl
    |succ j=>simp_all
   rw[this] at e;have e  :=by simpa using e
   exact .inl ⟨by grind,e.symm⟩
 refine⟨⟨w.B,r'⟩,le,⟨k.base,λn s e=>?_,λn m o1 o2 U Q e=>?_,λn y=>?_⟩,?_⟩
 ·rcases at_ n s e with⟨rfl,rfl⟩|⟨x,e⟩
  ·refine⟨a,u,by lia,I,L,F.le le⟩
  ·let⟨W,C,h1,h2,P,O⟩:=k.live n s e;refine⟨W,C,le.r _ _ h1,h2,P,O.le le⟩
 ·rcases at_ n o1 U with⟨rfl,rfl⟩|⟨x,E⟩
  ·grind
  ·rcases at_ m o2 Q with⟨rfl,rfl⟩|⟨G,q2⟩
   ·grind
   ·have e:(if n=S.length then some a else w.r n)=(if m=S.length then some a else w.r m):=e;rw[yIn (by lia),yIn (by lia)] at e;exact k.inj n m o1 o2 E q2 e
 ·rw[zaP] at y;have:n≠S.length:=by simp at y;lia
  show(if n=S.length then some a else w.r n)=none;rw[yIn this];exact k.top n (by lia)
 ·refine⟨a,by lia,rfl⟩
def Ok.alloc{o:HO}(k:Ok K w H S)(j:H d=none):Ok K w (upd H d o) S:=
 ⟨k.base.trans (al j),λn q e=>by
  let⟨a,u,h1,h2,v,s⟩:=k.live n q e;refine⟨a,u,h1,h2,al j _ _ v,s⟩,k.inj,k.top⟩
theorem Ok.free(k:Ok K w H S)(a:H d=none):w.B d=none:=k.base.free a
def Ok.fresh{m:MO}(k:Ok K w H S)(q:H d=none)(h:mK K w m g):lq K w (upd H d g) S (.new m) (.ref d):=
 ⟨d,g,rfl,k.free q,bL,h,λn j e z=>by
  let⟨a,u,h1,h2,v,s⟩:=k.live n j e;simp_all⟩
def Ok.pQ(k:Ok K w H S)(q:H d=none)(h:av K w ds xs):∃w',w.le w'/\Ok K w' (upd H d (.tup xs)) S/\Rep K w' (.tup ds) (.ref d):=by
 have v:=k.free q;have le:w.le ⟨upd w.B d (.tup xs),w.r⟩:=⟨al v,λ_ _ e=>e⟩
 refine⟨⟨upd w.B d (.tup xs),w.r⟩,le,⟨λb o e=>?_,λn o e=>?_,k.inj,k.top⟩,?_⟩
 ·by_cases j:b=d
  ·subst j;have e:upd w.B b (.tup xs) b=some o:=e;rw[bL] at e⊢;exact e
  ·have e:upd w.B d (.tup xs) b=some o:=e;rw[aQ j] at e⊢;exact k.base b o e
 ·let⟨a,u,h1,h2,s,x⟩:=k.live n o e;have hne  :=bK s q;refine⟨a,u,h1,by show upd w.B d _ a=none;rw[aQ hne];exact h2,by rw[aQ hne];exact s,x.le le⟩
 ·refine⟨d,xs,rfl,fR.of bL,h.le le⟩
def Ok.put(k:Ok K w H S)(e:S[d]? =some (some r))(v:w.r d=some g)(h:mK K w o' u'):Ok K w (upd H g u') (S.set d (some o')):=by
 have U:d<S.length:=by
  grind
 have at_:∀m q,(S.set d (some o'))[m]? =some (some q)->(m=d/\q=o')∨(m≠d/\S[m]? =some (some q)):=λm q z=>by
  by_cases j:d=m
  ·simp_all
  ·rw[zaE j] at z;exact .inr ⟨λy=>j y.symm,z⟩
 let⟨X,Q,h1,h2,W,_⟩:=k.live d r e;rw[v] at h1;cases h1;refine⟨λb q z=>?_,λm q z=>?_,λm l q I z F y=>?_,λm j=>k.top m (by simp_all)⟩
 ·rw[aQ (by lia)];exact k.base b q z
 ·rcases at_ m q z with⟨rfl,rfl⟩|⟨j,z⟩
  ·refine⟨g,u',v,h2,bL,h⟩
  ·let⟨b,u,x,P,O,L⟩:=k.live m q z;have:b≠g:=by
    intro y;subst y;exact j (k.inj m d q r z e (x.trans v.symm))
   refine⟨b,u,x,P,by rw[aQ this];exact O,L⟩
 ·have old:∀m q,(S.set d (some o'))[m]? =some (some q)->∃s,S[m]? =some (some s):=λm q z=>by
   rcases at_ m q z with⟨rfl,rfl⟩|⟨j,z⟩
   ·exact⟨r,e⟩
   ·exact⟨q,z⟩
  let⟨s,E⟩:=old m q z;let⟨G,C⟩:=old l I F;exact k.inj m l s G E C y
end
noncomputable def aX(S:aq):D->D
 |.loc n=>match S[n]? with
  |some (some o)=>o.d
  |_=>.loc n
 |d=>d
section
variable {w:Wd}{S:aq}
def bC(k:Ok K w H S)(h:Rep K w d v)(e:aX S d=.lst ds):∃a j,v=.ref a/\H a=some (.lst j)/\av K w ds j:=by
 cases d with
 |loc n=>
  let⟨a,h1,rfl⟩:=h;simp only[aX] at e;split at e
  next o q=>
   let⟨I,u,s,G,E,y⟩:=k.live n o q;rw[h1] at s;cases s;cases o with
   |lst es=>
    have  :=by simpa[MO.d] using e
    subst this;let⟨j,rfl,g⟩:=y;refine⟨a,j,rfl,E,g⟩
   |dct ks es=>simp[MO.d] at e
   |feed n=>simp[MO.d] at e
   |ins C ks ds=>simp[MO.d] at e
   |Lp F ks=>simp[MO.d] at e
   |Hh F ks=>simp[MO.d] at e
  next=>cases e
 |lst es=>
  have  :=by simpa[aX] using e
  subst this;let⟨a,j,h1,h2,x⟩:=h;refine⟨a,j,h1,k.base _ _ h2,x⟩
 |_=>simp[aX] at e
def di(k:Ok K w H S)(h:Rep K w d v)(e:aX S d=.tup ds):∃a j,v=.ref a/\fR K H a j/\av K w ds j:=by
 cases d with
 |loc n=>
  simp only[aX] at e;split at e
  next o q=>cases o<;>simp[MO.d] at e
  next=>cases e
 |tup es=>
  have  :=by simpa[aX] using e
  subst this;let⟨a,j,h1,h2,s⟩:=h;refine⟨a,j,h1,fR.same k.base h2,s⟩
 |_=>simp[aX] at e
def eK(k:Ok K w H S)(h:Rep K w d v)(e:aX S d=.dct r ds):∃a j,v=.ref a/\H a=some (.dK j)/\j.map (·.1)=r/\av K w ds (j.map (·.2)):=by
 cases d with
 |loc n=>
  let⟨a,h1,rfl⟩:=h;simp only[aX] at e;split at e
  next o q=>
   let⟨L,u,s,I,G,E⟩:=k.live n o q;rw[h1] at s;cases s;cases o with
   |lst es=>simp[MO.d] at e
   |feed n=>simp[MO.d] at e
   |ins C r ds=>simp[MO.d] at e
   |Lp F r=>simp[MO.d] at e
   |Hh F r=>simp[MO.d] at e
   |dct ks' es=>
    have  :=by simpa[MO.d] using e
    let⟨rfl,rfl⟩:=this;let⟨j,rfl,g⟩:=E;refine⟨a,j,rfl,G,g⟩
  next=>cases e
 |dct ks' es=>
  have  :=by simpa[aX] using e
  let⟨rfl,rfl⟩:=this;let⟨a,x,h1,h2,y⟩:=h;refine⟨a,x,h1,k.base _ _ h2,y⟩
 |_=>simp[aX] at e
end
abbrev aV:=List (Option D)
abbrev AK:=R->aq->Prop
abbrev AE:=aV->aq->AK->Prop
abbrev AT:=aV->aq->(Bool->aq->Prop)->Prop
abbrev AA:=aV->aq->(List D->aq->Prop)->Prop
abbrev AO:=aV->aq->(Option Int->aq->Prop)->Prop
structure ef where
 nx:aV->aq->Prop
 rt:AK
 bk:aV->aq->Prop:=λ_ _=>False
 ct:aV->aq->Prop:=λ_ _=>False
abbrev AS:=ef->aV->aq->Prop
abbrev AG:=D->aV->aq->(aV->aq->Prop)->Prop
abbrev DR:=List D->aV->aq->(aV->aq->Prop)->Prop
abbrev AI:=aV->aq->(List D->(aq->Prop)->aq->Prop)->Prop
abbrev A2:=D->D->aq->AK->Prop
abbrev A1:=D->aq->AK->Prop
abbrev AN:=List D->aq->AK->Prop
section
variable (K:yaJ)(w:Wd)
def fG(q:AK)(Q:VK):Prop:=∀r j v a o,w.le a->Ok K a o j->lq K a o j r v->q r j->Q v o
def Cq(q:Bool->aq->Prop)(Q:Bool->Hp->Prop):Prop:=∀b j a o,w.le a->Ok K a o j->q b j->Q b o
def Vm(s:List D->aq->Prop)(Q:List V->Hp->Prop):Prop:=∀j o vs a q,w.le a->Ok K a q o->av K a j vs->s j o->Q vs q
def Vj(q:Option Int->aq->Prop)(Q:Option Int->Hp->Prop):Prop:=∀i j a o,w.le a->Ok K a o j->q i j->Q i o
def lR(u:aV->aq->Prop)(Q:St->Hp->Prop):Prop:=∀o q j a s,w.le a->Ok K a s q->fJ K a o j->u o q->Q j s
structure Cp(Da:ef)(D:Ends):Prop where
 nx:lR K w Da.nx D.nx
 rt:fG K w Da.rt D.rt
 bk:lR K w Da.bk D.bk
 ct:lR K w Da.ct D.ct
structure Om(J:It)(ds:List D)(P:aq->Prop):Prop where
 go:∀i H S w' d,w.le w'->Ok K w' H S->P S->ds[i]? =some d->J.go i H
 JB:∀i H S w' d x H',w.le w'->Ok K w' H S->P S->ds[i]? =some d->J.JB i H x H'->∃w3,w'.le w3/\Ok K w3 H' S/\Rep K w3 d x
 stop:∀i H S w',w.le w'->Ok K w' H S->P S->i=ds.length->J.stop i H
def Vn(s:List D->(aq->Prop)->aq->Prop)(R:It->Hp->Prop):Prop:=∀j P o J a q,w.le a->Ok K a q o->Om K a J j P->s j P o->R J q
end
section
variable {w w':Wd}
theorem fG.le(h:fG K w d g)(e:w.le w'):fG K w' d g:=λr S v j H l=>h r S v j H (e.trans l)
theorem Cq.le(h:Cq K w Qa d)(e:w.le w'):Cq K w' Qa d:=λr S a H l=>h r S a H (e.trans l)
theorem lR.le(h:lR K w Qa d)(e:w.le w'):lR K w' Qa d:=λr S v a H l=>h r S v a H (e.trans l)
theorem Cp.le(h:Cp K w d g)(e:w.le w'):Cp K w' d g:=⟨h.nx.le e,h.rt.le e,h.bk.le e,h.ct.le e⟩
end
section
variable (K:yaJ)
def bH(a:AE):TE:=λq H Q=>∃w j S o,Ok K w H S/\fJ K w j q/\a j S o/\fG K w o Q
def iP(a:AT):TT:=λq H Q=>∃w j S o,Ok K w H S/\fJ K w j q/\a j S o/\Cq K w o Q
def q9(a:AA):TA:=λq H Q=>∃w j S o,Ok K w H S/\fJ K w j q/\a j S o/\Vm K w o Q
def HF(a:AO):TO:=λq H Q=>∃w j S o,Ok K w H S/\fJ K w j q/\a j S o/\Vj K w o Q
def mF(a:AS):TS:=λD q H=>∃w j S o,Ok K w H S/\fJ K w j q/\a o j S/\Cp K w o D
def zG(a:AG):TG:=λx q H Q=>∃w d j S o,Ok K w H S/\fJ K w j q/\Rep K w d x/\a d j S o/\lR K w o Q
def sH(a:DR):Io:=λu s H Q=>∃w o j S q,Ok K w H S/\fJ K w j s/\av K w o u/\a o j S q/\lR K w q Q
def Rq(a:AI):TI:=λq H R=>∃w j S o,Ok K w H S/\fJ K w j q/\a j S o/\Vn K w o R
def Dn(a:A2):R2:=λx y H Q=>∃w d e S j,Ok K w H S/\Rep K w d x/\Rep K w e y/\a d e S j/\fG K w j Q
def UY(a:A1):V->Hp->VK->Prop:=λx H Q=>∃w d S j,Ok K w H S/\Rep K w d x/\a d S j/\fG K w j Q
def Rp(a:AN):List V->Hp->VK->Prop:=λq H Q=>∃w j S o,Ok K w H S/\av K w j q/\a j S o/\fG K w o Q
def UX(a:D->List D->aq->AK->Prop):V->List V->Hp->VK->Prop:=λx q H Q=>∃w d j S o,Ok K w H S/\Rep K w d x/\av K w j q/\a d j S o/\fG K w o Q
def az(a:AN):Sp:=λvs H Q _=>Rp K a vs H Q
end
structure GE(X:Cx)(e:Expr)(a:AE):Prop where
 p:PE X e (bH X.K a)
structure GT(X:Cx)(e:Expr)(a:AT):Prop where
 p:PT X e (iP X.K a)
structure GW(X:Cx)(e:Expr)(a:AT):Prop where
 p:PW X e (iP X.K a)
structure GA(X:Cx)(e:List Expr)(a:AA):Prop where
 p:PA X e (q9 X.K a)
structure GO(X:Cx)(e:Option Expr)(a:AO):Prop where
 p:PO X e (HF X.K a)
structure GS(X:Cx)(s:Stmt)(a:AS):Prop where
 p:PS X s (mF X.K a)
structure yh(X:Cx)(s:List Stmt)(a:AS):Prop where
 p:z7 X s (mF X.K a)
structure GG(X:Cx)(e:Expr)(a:AG):Prop where
 p:PG X e (zG X.K a)
structure Vf(X:Cx)(e:List Expr)(a:DR):Prop where
 p:Oh X e (sH X.K a)
structure GI(X:Cx)(tg e:Expr)(a:AI):Prop where
 p:PI X tg e (Rq X.K a)
structure Se(X:Cx)(e:List Expr)(a:AT):Prop where
 p:Og X e (iP X.K a)
structure nH(X:Cx)(f:yai->yai->Sem yai)(a:A2):Prop where
 p:iw X f (Dn X.K a)
structure Xl(X:Cx)(f:yai->Sem yai)(a:A1):Prop where
 p:Sb X f (UY X.K a)
structure s9(X:Cx)(f:yai)(a:AN):Prop where
 p:cJ X f (Rp X.K a)
structure Xk(X:Cx)(a:A2):Prop where
 p:Jx X (Dn X.K a)
def mE(h:PE X e d)(m:∀a H Q,g a H Q->d a H Q):PE X e g:=λj s a H Q I q=>h j s a H Q I (m a H Q q)
def mT(h:PT X e d)(m:∀a H Q,g a H Q->d a H Q):PT X e g:=λj s a H Q I q=>h j s a H Q I (m a H Q q)
def mW(h:PW X e d)(m:∀a H Q,g a H Q->d a H Q):PW X e g:=λo j s a H Q I q=>h o j s a H Q I (m a H Q q)
def mA(h:PA X d g)(m:∀a H Q,k a H Q->g a H Q):PA X d k:=λo j s a H Q I q=>h o j s a H Q I (m a H Q q)
def mO(h:PO X d g)(m:∀a H Q,k a H Q->g a H Q):PO X d k:=λj s a H Q I q=>h j s a H Q I (m a H Q q)
def mS(h:PS X d g)(m:∀D a H,k D a H->g D a H):PS X d k:=λj s a H D I q=>h j s a H D I (m D a H q)
def W8(h:z7 X d g)(m:∀D a H,k D a H->g D a H):z7 X d k:=λj s a H D I q=>h j s a H D I (m D a H q)
def mG(h:PG X e d)(m:∀x a H Q,g x a H Q->d x a H Q):PG X e g:=λj s a H x v Q I r q=>h j s a H x v Q I r (m x a H Q q)
def W9(h:Oh X d g)(m:∀x a H Q,k x a H Q->g x a H Q):Oh X d k:=λj s a H x v Q I r q=>h j s a H x v Q I r (m x a H Q q)
def mI(h:PI X g e d)(m:∀a H R,k a H R->d a H R):PI X g e k:=λj s a H R I q=>h j s a H R I (m a H R q)
def mTs(h:Og X d g)(m:∀a H Q,k a H Q->g a H Q):Og X d k:=λj s a H Q I q=>h j s a H Q I (m a H Q q)
def m2(h:iw X d g)(m:∀x y H Q,k x y H Q->g x y H Q):iw X d k:=λa s j H x y v k Q I r o q=>h a s j H x y v k Q I r o (m x y H Q q)
def m1(h:Sb X d g)(m:∀x H Q,k x H Q->g x H Q):Sb X d k:=λa s j H x v Q I r q=>h a s j H x v Q I r (m x H Q q)
def mC(h:cJ X d g)(m:∀x H Q,k x H Q->g x H Q):cJ X d k:=λa s j H x v Q I r q=>h a s j H x v Q I r (m x H Q q)
def fy(i:Nat):AE:=λa S Q=>∃d,a[i]? =some (some d)/\Q (.dat d) S
def aC(d:D):AE:=λ_ S Q=>Q (.dat d) S
def Jv(r:A2)(a b:AE):AE:=λj S Q=>a j S λx q=>b j q λy o=>r x.d y.d o Q
def Vy(r:A1)(a:AE):AE:=λj S Q=>a j S λx o=>r x.d o Q
def gu:AA:=λ_ S Q=>Q [] S
def iR(a:AE)(b:AA):AA:=λj S Q=>a j S λx s=>b j s λo q=>Q (x.d::o) q
def L4(a:AA):AE:=λo S Q=>a o S λj q=>j.length<=yag/\Q (.dat (.tup j)) q
def qv(a:AA):AE:=λo S Q=>a o S λj q=>j.length<=yag/\Q (.new (.lst j)) q
def bx(a:AE):AE:=λq S Q=>a q S λr j=>match r with
 |.new o=>Q (.dat (.loc j.length)) (j++[some o])
 |.dat d=>Q (.dat d) j
def aCall(sp:AN)(a:AA):AE:=λj S Q=>a j S λo q=>sp o q Q
def aB(a:AE):AT:=λj S Q=>a j S λr o=>∃b,r.d=.bl b/\Q b o
noncomputable def fB:D->Option Bool
 |.bB=>some false
 |.bl b=>some b
 |.int i=>some (i != 0)
 |.str y=>if y.length<=yag then some ((y.length:Int) != 0) else none
 |.tup ds=>some (!ds.isEmpty)
 |.lst ds=>some (!ds.isEmpty)
 |.dct ks _=>some (!ks.isEmpty)
 |_=>none
def uR(a:AE):AT:=λo S Q=>a o S λr j=>∃b,fB (aX j r.d)=some b/\Q b j
def U8(a b:AE):AE:=λj S Q=>a j S λx o=>∃c,x.d=.bl c/\if c=true then b j o Q else Q (.dat (.bl false)) o
def WH(a b:AE):AE:=λj S Q=>a j S λx o=>∃c,x.d=.bl c/\if c=true then Q (.dat (.bl true)) o else b j o Q
def U4(a:AE):AE:=λj S Q=>a j S λx o=>∃c,x.d=.bl c/\Q (.dat (.bl (!c))) o
def Il(a b:AT):AT:=λj S Q=>a j S λc o=>if c=true then b j o Q else Q false o
def R9(a b:AT):AT:=λj S Q=>a j S λc o=>if c=true then Q true o else b j o Q
def zV(a:AT):AT:=λj S Q=>a j S λc o=>Q (!c) o
def WI(t:AT)(a b:AE):AE:=λj S Q=>t j S λc o=>if c=true then a j o Q else b j o Q
def RL(r s:A2)(a b c:AE):AE:=λj S Q=>a j S λx C=>b j C λy v=>r x.d y.d v λz o=>∃k,z.d=.bl k/\if k=true then c j o λq u=>s y.d q.d u Q else Q (.dat (.bl false)) o
def uT:AO:=λ_ S Q=>Q none S
def Ic(a:AE):AO:=λj S Q=>a j S λr o=>∃i,r.d=.int i/\Q (some i) o
def WG(r:D->Option Int->Option Int->aq->AK->Prop)(a:AE)(l u:AO):AE:=λo S Q=>a o S λx v=>l o v λi s=>u o s λj q=>r x.d i j q Q
def xS:AS:=λD a S=>D.nx a S
def uS(a b:AS):AS:=λD j S=>a {D with nx:=b D} j S
def RA(a:AE):AS:=λD j S=>a j S D.rt
def U3:AS:=λD _ S=>D.rt (.dat .bB) S
def Ij(a:AE):AS:=λD j S=>a j S λ_ o=>D.nx j o
def k8(c:AT)(a b:AS):AS:=λD j S=>c j S λk o=>if k=true then a D j o else b D j o
def cS(i:Nat):AG:=λd a S Q=>Q (a.set i (some d)) S
def xQ:DR:=λj a S Q=>j=[]/\Q a S
def jV(a:AG)(b:DR):DR:=λq o S Q=>∃d r,q=d::r/\a d o S λj s=>b r j s Q
def xP(n:Nat)(a:DR):AG:=λd o S Q=>∃j,d=.tup j/\j.length=n/\a j o S Q
def z6(a:AE)(g:AG):AS:=λD j S=>a j S λr o=>g r.d j o D.nx
def jB(P:aq->Prop)(g:AG)(b:AS):List D->ef->aV->aq->Prop
 |[],D,δ,S=>P S/\D.nx δ S
 |x::xs,D,δ,S=>P S/\g x δ S λa j=>b {D with nx:=jB P g b xs D,ct:=jB P g b xs D,bk:=D.nx} a j
def gV(i:AI)(g:AG)(b:AS):AS:=λD a S=>i a S λj P o=>jB P g b j D a o
def Rx(c:AT)(b:AS):AS:=λD a S=>∃W:Nat->aV->aq->Prop,(∃m,W m a S)/\∀m a S,W m a S->
 c a S λk q=>if k=true then∃N:aV->aq->Prop,(∀j s,N j s->∃o,o<m/\W o j s)/\b {D with nx:=N,ct:=N,bk:=D.nx} a q else D.nx a q
def L3:AT:=λ_ S Q=>Q true S
def gq(P:aq->Prop)(g:AG)(t:AT)(e:AE):List D->List D->aV->aq->(List D->aq->Prop)->Prop
 |[],acc,_,S,Q=>P S/\Q acc S
 |x::xs,acc,δ,S,Q=>P S/\g x δ S λa q=>t a q λb j=>if b=true then e a j λr o=>acc.length<yag/\gq P g t e xs (acc++[r.d]) a o Q else gq P g t e xs acc a j Q
noncomputable def sO(caps:List (Option Nat))(δ:aV):aV:=caps.map λo=>o.bind λi=>(δ[i]?).getD none
def dh(caps:List (Option Nat))(i:AI)(g:AG)(t:AT)(e:AE):AE:=λj S Q=>i j S λo P s=>gq P g t e o [] (sO caps j) s λa q=>Q (.new (.lst a)) q
noncomputable def cQ(lo:Int)(n:Nat):List D:=(zcE n).map λk:Nat=>.int (lo+(k:Int))
def qY(a:AA):AI:=λo S Q=>a o S λq s=>∃j:Int,q=[.int j]/\(-(2 ^ 62)<=j/\j<2 ^ 62)/\Q (cQ 0 j.toNat) (λ_=>True) s
def fG.go(h:∀r o v j H',d.le j->Ok K j H' o->Rep K j r.d v->g r o->k v H'):fG K d g k:=λr o v j H' le ok rep q=>by
 let⟨y,u,s,a⟩:=freeze ok rep;exact h r o v y H' (le.trans u) s a q
theorem fG.dat(h:fG K g r z)(le:g.le k)(ok:Ok K k H S)(rep:Rep K k d v)(q:r (.dat d) S):z v H:=h (.dat d) S v k H le ok rep q
def SX:∀a H Q,bH K (fy i) a H Q->Sk i a H Q:=by
 intro a H Q z;let⟨w,s,S,u,ok,env,⟨d,e,q⟩,bk⟩:=z;let⟨v,o,j⟩:=env.2 i d e;refine⟨v,o,bk.dat .refl ok j q⟩
def R6(h:∀w,Rep K w d v):∀a H Q,bH K (aC d) a H Q->tC v a H Q:=by
 intro a H Q z;let⟨w,j,S,o,ok,env,q,bk⟩:=z;exact bk.dat .refl ok (h w) q
def J6:∀v H Q,bH K (Jv r d g) v H Q->Su (Dn K r) (bH K d) (bH K g) v H Q:=by
 intro v H Q z;let⟨w,C,S,U,ok,env,q,bk⟩:=z;refine⟨w,C,S,_,ok,env,q,.go λI P v1 F X u y o L=>?_⟩;refine⟨F,C,P,_,y,env.le u,L,.go λG O v2 E W s x j q2=>?_⟩;refine⟨E,I.d,G.d,O,U,x,o.le s,j,q2,bk.le (u.trans s)⟩
def VO:∀o H Q,bH K (Vy r d) o H Q->WW (UY K r) (bH K d) o H Q:=by
 intro o H Q z;let⟨w,v,S,F,ok,env,q,bk⟩:=z;refine⟨w,v,S,_,ok,env,q,.go λy E v1 x G u s j C=>?_⟩;refine⟨x,y.d,E,F,s,j,C,bk.le u⟩
def Te:∀a H Q,q9 K gu a H Q->Ej a H Q:=by
 intro a H Q z;let⟨w,j,S,o,ok,env,q,bk⟩:=z;exact bk [] S [] w H .refl ok .nil q
def Pe:∀v H Q,q9 K (iR d g) v H Q->Er (bH K d) (q9 K g) v H Q:=by
 intro v H Q z;let⟨w,C,S,W,ok,env,q,bk⟩:=z;refine⟨w,C,S,_,ok,env,q,.go λP L v1 F X u y o G=>?_⟩;refine⟨F,C,L,_,y,env.le u,G,λU I vs E O s x j q2=>?_⟩;exact bk _ I _ E O (u.trans s) x (.cons (o.le s) j) q2
def SY:∀s H Q,bH K (L4 d) s H Q->Sl (q9 K d) s H Q:=by
 intro s H Q z;let⟨w,C,S,U,ok,env,q,bk⟩:=z;refine⟨w,C,S,_,ok,env,q,λO P vs L W y v j ⟨G,E⟩=>⟨by rw[j.length];exact G,λp F=>?_⟩⟩;let⟨I,x,u,o⟩:=v.pQ F j;exact bk.dat (y.trans x) u o E
def Tf:∀s H Q,bH K (qv d) s H Q->Sw (q9 K d) s H Q:=by
 intro s H Q z;let⟨w,x,S,I,ok,env,q,bk⟩:=z;refine⟨w,x,S,_,ok,env,q,λF G vs y L u o j ⟨E,C⟩=>⟨by rw[j.length];exact E,λp v=>?_⟩⟩;exact bk (.new (.lst F)) G _ y _ u (o.alloc v) (o.fresh v ⟨vs,rfl,j⟩) C
def s_alloc:∀y H Q,bH K (bx g) y H Q->bH K g y H Q:=by
 intro y H Q z;let⟨w,G,S,P,ok,env,q,bk⟩:=z;refine⟨w,G,S,_,ok,env,q,λr O v L U x u j F=>?_⟩;cases r with
 |dat d=>exact bk.dat x u j F
 |new o=>
  let⟨I,E,C,s⟩:=store u j;exact bk.dat (x.trans E) C s F
def s_call:∀o H Q,bH K (aCall sp d) o H Q->Ai (az K sp) [] g (q9 K d) o H Q:=by
 intro o H Q z;let⟨w,v,S,G,ok,env,q,bk⟩:=z;refine⟨w,v,S,_,ok,env,q,λC F vs x I u s j y=>?_⟩;refine⟨x,C,F,G,s,by rw[zbG];exact j,y,bk.le u⟩
def Tj:∀o H Q,bH K (aCall r d) o H Q->Sy (Rp K r) (q9 K d) o H Q:=by
 intro o H Q z;let⟨w,v,S,F,ok,env,q,bk⟩:=z;refine⟨w,v,S,_,ok,env,q,λC E vs x G u s j y=>?_⟩;refine⟨x,C,E,F,s,j,y,bk.le u⟩
def FL(h:Rep K g d v)(e:d=.bl b):v=.bl b:=by subst e;simpa[Rep] using h
def bP(h:Rep K g d v)(e:d=.int k):v=.int k:=by subst e;simpa[Rep] using h
def tV(h:Rep K g d v)(e:d=.str k):v=.str k:=by subst e;simpa[Rep] using h
def AQ(h:Rep K g d v)(e:d=.bB):v=.bB:=by subst e;simpa[Rep] using h
def FJ(h:Rep K g d v)(e:d=.ty k):v=.ty k:=by subst e;simpa[Rep] using h
theorem Rep.bl:Rep K d (.bl b) (.bl b):=by simp[Rep]
theorem Rep.int:Rep K d (.int g) (.int g):=by simp[Rep]
theorem Rep.str:Rep K d (.str g) (.str g):=by simp[Rep]
theorem Rep.bB:Rep K d .bB .bB:=by simp[Rep]
theorem Rep.ty:Rep K d (.ty g) (.ty g):=by simp[Rep]
def s_b:∀o H Q,iP K (aB d) o H Q->tB (bH K d) o H Q:=by
 intro o H Q z;let⟨w,v,S,G,ok,env,q,bk⟩:=z;refine⟨w,v,S,_,ok,env,q,.go λF C v1 x E u s j=>x1_1 λb e y=>⟨b,FL j e,bk b C x E u s y⟩⟩
def JH(ok:Ok K g H S)(h:Rep K g d v)(e:fB (aX S d)=some b):Im K v H b:=by
 cases q:aX S d with
 |lst ds=>
  rw[q] at e;let⟨a,j,rfl,h1,h2⟩:=bC ok h q;refine Or.inl ⟨j,cW.of h1,?_⟩;have:b= !ds.isEmpty:=by simpa[fB] using e.symm
  rw[this];have:=h2.length;cases ds<;>cases j<;>simp at this⊢
 |tup ds=>
  rw[q] at e;let⟨a,j,rfl,h1,h2⟩:=di ok h q;refine Or.inr (Or.inl ⟨j,h1,?_⟩);have:b= !ds.isEmpty:=by simpa[fB] using e.symm
  rw[this];have:=h2.length;cases ds<;>cases j<;>simp at this⊢
 |dct ks ds=>
  rw[q] at e;let⟨a,s,rfl,h1,h2,u⟩:=eK ok h q;refine Or.inr (Or.inr ⟨s,h1,?_⟩);have:b= !ks.isEmpty:=by simpa[fB] using e.symm
  rw[this,<-h2];cases s<;>simp
 |_=>
  rw[q] at e;cases d<;>simp[aX] at q<;>first
   |(subst q;simp only[Rep] at h;subst h;simp[fB] at e;simp[Im,e];done)
   |(simp[fB] at e;done)
   |skip
  all_goals first
   |(simp only[Rep] at h;subst h;subst q;simp only[fB,zcD.injEq] at e;subst e;rfl)
   |(simp only[Rep] at h;subst h;simp only[fB,zcD.injEq] at e;subst e;rfl)
   |(split at q<;>first|(rename_i o _;cases o<;>simp[MO.d] at q)|(cases q;simp[fB] at e)|cases q)
   |(simp only[Rep] at h;subst h;subst q;simp only[fB] at e;split at e;next hl=>exact⟨hl,by simpa using e.symm⟩;next=>cases e)
   |skip
def S8:∀s H Q,iP K (uR d) s H Q->(bH K d) s H (λx H'=>∃k,Im K x H' k/\Q k H'):=by
 intro s H Q z;let⟨w,v,S,I,ok,env,q,bk⟩:=z;refine⟨w,v,S,_,ok,env,q,.go λG E v1 y F u o j=>x1_1 λb e C=>⟨b,JH o j e,bk b E y F u o C⟩⟩
def Tn:∀s H Q,iP K (Il d g) s H Q->Sz (iP K d) (iP K g) s H Q:=by
 intro s H Q z;let⟨w,u,S,C,ok,env,q,bk⟩:=z;refine⟨w,u,S,_,ok,env,q,λc y v E j o x=>?_⟩;cases c with
 |true=>exact GX ⟨v,u,y,C,o,env.le j,by simpa using x,bk.le j⟩
 |false=>exact GY (bk _ y v E j o (by simpa using x))
def VQ:∀s H Q,iP K (R9 d g) s H Q->WY (iP K d) (iP K g) s H Q:=by
 intro s H Q z;let⟨w,u,S,C,ok,env,q,bk⟩:=z;refine⟨w,u,S,_,ok,env,q,λc y v E j o x=>?_⟩;cases c with
 |false=>exact GY ⟨v,u,y,C,o,env.le j,by simpa using x,bk.le j⟩
 |true=>exact GX (bk _ y v E j o (by simpa using x))
def Td:∀j H Q,iP K (zV d) j H Q->Sv (iP K d) j H Q:=by
 intro j H Q z;let⟨w,u,S,E,ok,env,q,bk⟩:=z;refine⟨w,u,S,_,ok,env,q,λc y v C s o x=>bk _ y v C s o x⟩
def VR:∀s H Q,bH K (WI d g k) s H Q->WZ (iP K d) (bH K g) (bH K k) s H Q:=by
 intro s H Q z;let⟨w,u,S,C,ok,env,q,bk⟩:=z;refine⟨w,u,S,_,ok,env,q,λc y v E j o x=>?_⟩;cases c with
 |true=>exact GX ⟨v,u,y,C,o,env.le j,by simpa using x,bk.le j⟩
 |false=>exact GY ⟨v,u,y,C,o,env.le j,by simpa using x,bk.le j⟩
def E5:∀a H Q,HF K uT a H Q->Ah a H Q:=by
 intro a H Q z;let⟨w,j,S,o,ok,env,q,bk⟩:=z;exact bk none S w H .refl ok q
def O6:∀o H Q,HF K (Ic d) o H Q->MM (bH K d) o H Q:=by
 intro o H Q z;let⟨w,v,S,G,ok,env,q,bk⟩:=z;refine⟨w,v,S,_,ok,env,q,.go λF C v1 x E u s j=>x1_1 λi e y=>⟨i,bP j e,bk _ C x E u s y⟩⟩
def NV(K:yaJ)(a:D->Option Int->Option Int->aq->AK->Prop):V->Option Int->Option Int->Hp->VK->Prop:=λx i j H Q=>∃w d S o,Ok K w H S/\Rep K w d x/\a d i j S o/\fG K w o Q
def VP:∀y H Q,bH K (WG r d g k) y H Q->WX (NV K r) (bH K d) (HF K g) (HF K k) y H Q:=by
 intro y H Q z;let⟨w,C,S,Y,ok,env,q,bk⟩:=z;refine⟨w,C,S,_,ok,env,q,.go λO X v1 L H1 s F v P=>?_⟩;refine⟨L,C,X,_,F,env.le s,P,λi W I H2 o E q2=>?_⟩;refine⟨I,C,W,_,E,env.le (s.trans o),q2,λj U G Z x nW q3=>?_⟩;refine⟨G,O.d,U,Y,nW,v.le (o.trans x),q3,bk.le (s.trans (o.trans x))⟩
def O7:∀D a H,mF K xS D a H->MN D a H:=by
 intro D a H z;let⟨w,j,S,o,ok,env,q,bk⟩:=z;exact bk.nx j S a w H .refl ok env q
def S9:∀D o H,mF K (uS d g) D o H->So (mF K d) (mF K g) D o H:=by
 intro D o H z;let⟨w,y,S,G,ok,env,q,bk⟩:=z;refine⟨w,y,S,_,ok,env,q,⟨λs F x C I v u j E=>?_,bk.rt,bk.bk,bk.ct⟩⟩;refine⟨C,s,F,G,u,j,E,bk.le v⟩
def Tc:∀D j H,mF K (RA d) D j H->Ss (bH K d) D j H:=by
 intro D j H z;let⟨w,o,S,s,ok,env,q,bk⟩:=z;refine⟨w,o,S,_,ok,env,q,bk.rt⟩
def Pc:∀D o H,mF K (Ij d) D o H->MR (bH K d) D o H:=by
 intro D o H z;let⟨w,u,S,G,ok,env,q,bk⟩:=z;refine⟨w,u,S,_,ok,env,q,.go λF C v1 x E j s v y=>bk.nx u C o x E j s (env.le j) y⟩
def Tg:∀D s H,mF K (k8 d g r) D s H->Sx (iP K d) (mF K g) (mF K r) D s H:=by
 intro D s H z;let⟨w,u,S,C,ok,env,q,bk⟩:=z;refine⟨w,u,S,_,ok,env,q,λk y v E j o x=>?_⟩;cases k with
 |true=>exact GX ⟨v,u,y,C,o,env.le j,by simpa using x,bk.le j⟩
 |false=>exact GY ⟨v,u,y,C,o,env.le j,by simpa using x,bk.le j⟩
def nR:∀x a H Q,zG K (cS i) x a H Q->Bx i x a H Q:=by
 intro x a H Q z;let⟨w,d,j,S,o,ok,env,rep,q,bk⟩:=z;exact bk _ S _ w H .refl ok (env.set rep i) q
def Pa:∀x a H Q,sH K xQ x a H Q->Ur x a H Q:=by
 intro x a H Q z;let⟨w,o,j,S,s,ok,env,rep,⟨rfl,q⟩,bk⟩:=z;exact⟨by simpa[av] using rep,bk _ S _ w H .refl ok env q⟩
def J9:∀x s H Q,sH K (jV g k) x s H Q->NP (zG K g) (sH K k) x s H Q:=by
 intro x s H Q z;let⟨w,O,E,S,L,ok,env,rep,⟨d,r,rfl,q⟩,bk⟩:=z;let⟨v,vs,rfl,h1,h2⟩:=rep;refine⟨v,vs,rfl,w,d,E,S,_,ok,env,h1,q,λu I C F P j y o G=>?_⟩;refine⟨F,r,u,I,L,y,o,h2.le j,G,bk.le j⟩
def O9:∀x j H Q,zG K (xP n g) x j H Q->Uq K n (sH K g) x j H Q:=by
 intro x j H Q z;let⟨w,d,o,S,y,ok,env,rep,⟨v,rfl,u,q⟩,bk⟩:=z;let⟨p,s,rfl,h1,h2⟩:=rep;refine⟨p,s,rfl,fR.same ok.base h1,by rw[h2.length];exact u,w,v,o,S,y,ok,env,h2,q,bk⟩
def AD:∀D s H,mF K (z6 d g) D s H->JK (bH K d) (zG K g) D s H:=by
 intro D s H z;let⟨w,v,S,G,ok,env,q,bk⟩:=z;refine⟨w,v,S,_,ok,env,q,.go λy E v1 x F o u j C=>?_⟩;refine⟨x,y.d,v,E,_,u,env.le o,j,C,bk.nx.le o⟩
def SW:∀a H Q,iP K L3 a H Q->Sj a H Q:=by
 intro a H Q z;let⟨w,j,S,o,ok,env,q,bk⟩:=z;exact bk true S w H .refl ok q
def Hr(h:fJ K g δ k)(caps):fJ K g (sO caps δ) (uL caps k):=by
 refine⟨by simp[sO,uL],λi d e=>?_⟩;simp only[sO,zbb] at e;cases q:caps[i]? with
 |none=>rw[q] at e;cases e
 |some o=>
  rw[q] at e;cases o with
  |none=>simp at e
  |some j=>
   cases z:δ[j]? with
   |none=>simp[z] at e
   |some d'=>
    simp[z] at e;subst e;let⟨v,h1,h2⟩:=h.2 j d z;refine⟨v,by simp[uL,q,h1],h2⟩
def yD:∀σ H Q,bH K (dh caps d g r z) σ H Q->Es caps (Rq K d) (zG K g) (iP K r) (bH K z) σ H Q:=by
 intro σ H Q i;let⟨w,δ,S,Qa,ok,env,q,bk⟩:=i;refine⟨w,δ,S,_,ok,env,q,λU P S1 J w1 H1 le1 ok1 it q1=>?_⟩;refine⟨λd m xs τ H=>m=U.length - d/\d<=U.length/\∃L I E j,w1.le L/\Ok K L H E/\fJ K L I τ/\av K L j xs/\gq P g r z (U.drop d) j I E (λZ E=>Qa (.new (.lst Z)) E),⟨U.length,by simp,zcB _,w1,sO caps δ,S1,[],.refl,ok1,Hr (env.le le1) caps,.nil,by simpa using q1⟩,?_⟩;intro d m xs τ2 H2 i;obtain⟨rfl,hi,L,I,E,j,o,u,G,a,W⟩:=i;by_cases Y:d<U.length
 ·rw[zai Y] at W;obtain⟨hP,W⟩:=W;have hd  :=zam Y;refine .inr ⟨it.go d H2 E L _ o u hP hd,λys τ' H'=>∃w3 s S3 j,w1.le w3/\Ok K w3 H' S3/\fJ K w3 s τ'/\av K w3 j ys/\gq P g r z (U.drop (d+1)) j s S3 (λZ E=>Qa (.new (.lst Z)) E),λys σ' H' h=>⟨_,by omega,rfl,Y,h⟩,λx H' y=>?_⟩;let⟨w2',F,u,rx⟩:=it.JB d H2 E L _ x H' o u hP hd y
  replace G:=G.le F
  replace o:=o.trans F
  replace a:=a.le F
  refine⟨w2',U[d],I,E,_,u,G,rx,W,λs S3 σ3 w3 H3 O nW C q3=>?_⟩;refine⟨w3,s,S3,_,nW,C,q3,λk S4 w4 H4 v ok4 q4=>?_⟩;cases k with
  |false=>
   exact GY ⟨w4,s,S4,j,o.trans (O.trans v),ok4,C.le v,a.le (O.trans v),by simpa using q4⟩
  |true=>
   refine GX ⟨w4,s,S4,_,ok4,C.le v,q4,.go λr5 S5 v5 w5 H5 X ok5 ab z1'=>?_⟩;let⟨hz,q5⟩:=z1';refine⟨by rw[a.length];exact hz,w5,s,S5,j++[r5.d],o.trans (O.trans (v.trans X)),ok5,C.le (v.trans X),(a.le (O.trans (v.trans X))).snoc ab,q5⟩
 ·have z:d=U.length:=by lia
  subst z;rw[List.drop_length] at W;refine .inl ⟨it.stop _ H2 E L o u W.1 rfl,λp hp=>?_⟩;exact bk (.new (.lst j)) E _ L _ (le1.trans o) (u.alloc hp) (u.fresh hp ⟨xs,rfl,a⟩) W.2
def K5(h1:g.B k=some (.lst xs))(h:av K g ds xs):Om K g (VD K k) ds (λ_=>True) where
 go:=λi H S a d le ok o e=>by
  let⟨v,j,_⟩:=h.get e;refine⟨xs,v,cW.of ((le.b.trans ok.base) _ _ h1),j⟩
 JB:=λi H S a d x C le ok o e y=>by
  let⟨v,j,u⟩:=h.get e;let⟨s,q⟩:=y;have:=q xs (cW.of ((le.b.trans ok.base) _ _ h1));rw[j] at this;cases this;subst s;refine⟨a,.refl,ok,u.le le⟩
 stop:=λi H S a le ok o e=>⟨xs,cW.of ((le.b.trans ok.base) _ _ h1),by rw[h.length];simp_all⟩
def K6(C:g.r n=some k):Om K g (VD K k) ds (λS=>S[n]? =some (some (.lst ds))) where
 go:=λi H S s d le ok q e=>by
  let⟨b,u,k1,k2,o,a,rfl,j⟩:=ok.live n _ q;rw[le.r n k C] at k1;cases k1;let⟨v,E,_⟩:=j.get e;refine⟨a,v,cW.of o,E⟩
 JB:=λi H S s d x L le ok q e y=>by
  let⟨b,u,k1,k2,o,a,rfl,j⟩:=ok.live n _ q;rw[le.r n k C] at k1;cases k1;let⟨v,E,I⟩:=j.get e;let⟨G,F⟩:=y;have:=F a (cW.of o);rw[E] at this;cases this;subst G;refine⟨s,.refl,ok,I⟩
 stop:=λi H S s le ok q e=>by
  let⟨b,u,k1,k2,o,a,rfl,j⟩:=ok.live n _ q;rw[le.r n k C] at k1;cases k1;refine⟨a,cW.of o,by rw[j.length];simp_all⟩
def K4(h1:fR K g.B k xs)(h2:av K g ds xs):Om K g (Xn K k) ds (λ_=>True) where
 go:=λi H S a d le ok o e=>by
  let⟨v,j,_⟩:=h2.get e;refine⟨xs,v,fR.same (le.b.trans ok.base) h1,j⟩
 JB:=λi H S a d x C le ok o e y=>by
  let⟨v,j,u⟩:=h2.get e;let⟨s,q⟩:=y;have:=q xs (fR.same (le.b.trans ok.base) h1);rw[j] at this;cases this;subst s;refine⟨a,.refl,ok,u.le le⟩
 stop:=λi H S a le ok o e=>⟨xs,fR.same (le.b.trans ok.base) h1,by rw[h2.length];simp_all⟩
def FD(e:(cQ lo n)[i]? =some d):i<n/\d=.int (lo+(i:Int)):=by
 delta cQ at e;by_cases h:i<n
 ·simp_all
 simp_all
end M
variable {es':List (M.D×M.D)}{ds:List M.D}{ta tb:M.AE}{wi:M.AI}{sp:M.AN}{δ:M.aV}{S S':M.aq}
namespace M
open PySem PySem.Spec PyProof.Rows L2
section
variable {a b:Expr}{es:List Expr}
def pv(i:Nat)(hN:autoParam (X.N[i]? =some x) r0)(o:Vz X.env.scope x:=by first|exact Or.inl rfl|exact Or.inr (Or.inl rfl)|exact Or.inr (Or.inr rfl))(hd:autoParam ((x==("__debug__":Str))=false) r1)(j:autoParam ((x==("__classdict__":Str))=false) r1):GE X (.Name x pos) (fy i):=⟨mE (L2.P1 hN o hd j) SX⟩
theorem ai:GE X (.Constant (.int d) g pos) (aC (.int d)):=⟨mE L2.ai (R6 λ_=>.int)⟩
theorem fj:GE X (.Constant (.bool d) g pos) (aC (.bl d)):=⟨mE L2.fj (R6 λ_=>.bl)⟩
theorem aP:GE X (.Constant (.str d) g pos) (aC (.str d)):=⟨mE L2.aP (R6 λ_=>.str)⟩
theorem l8:GE X (.Constant .none d pos) (aC .bB):=⟨mE L2.l8 (R6 λ_=>.bB)⟩
theorem A8(T)(s:Gl X x)(q:X.mg x=none)(j:bootBuiltins x=some (.type T))(o:x≠"__name__":=by decide+kernel)(hd:(x==("__debug__":Str))=false:=by decide+kernel):GE X (.Name x pos) (aC (.ty T)):=
 ⟨mE (L2.A8 T s q j o hd) (R6 λ_=>.ty)⟩
theorem kH(o:Gl X x)(j:X.mg x=some u)(r:RelV v u)(h:∀w,Rep X.K w d v)(hd:autoParam ((x==("__debug__":Str))=false) r1):GE X (.Name x pos) (aC d):=
 ⟨mE (L2.kH o j r hd) (R6 h)⟩
theorem ao(o:nH X (binaryOp d) r)(s:GE X a ta)(q:GE X b tb):GE X (.BinOp a d b pos) (Jv r ta tb):=⟨mE (L2.ao o.p s.p q.p) J6⟩
theorem F5(o:Xl X (unaryOp d) r)(q:GE X a ta):GE X (.UnaryOp d a pos) (Vy r ta):=⟨mE (L2.F5 o.p q.p) VO⟩
theorem eS(o:nH X (yan d) r)(u:GE X a ta)(s:GE X b tb)(q:behindInMarks d b=false):GE X (.Compare a [d] [b] pos) (Jv r ta tb):=⟨mE (L2.eS o.p u.p s.p q) J6⟩
theorem A9(o:Xk X r)(s:GE X a ta)(q:GE X b tb)(j:oz b):GE X (.Subscript a b pos) (Jv r ta tb):=⟨mE (L2.A9 o.p s.p q.p j) J6⟩
theorem aj:GA X [] gu:=⟨mA L2.aj Te⟩
theorem aE(q:GE X e ta)(o:GA X es d)(j:autoParam (notStar e=true) r0):GA X (e::es) (iR ta d):=⟨mA (L2.aE q.p o.p j) Pe⟩
theorem aH(h:GA X es d):GE X (.Tuple es k pos) (L4 d):=⟨mE (L2.aH h.p) SY⟩
theorem aR(h:GA X es d):GE X (.List es pos) (qv d):=⟨mE (L2.aR h.p) Tf⟩
def ig(h:GE X e d):GE X e (bx d):=⟨mE h.p s_alloc⟩
theorem pC(j:GT X c d)(q:GE X a ta)(o:GE X b tb):GE X (.IfExp c a b pos) (WI d ta tb):=⟨mE (L2.pC j.p q.p o.p) VR⟩
theorem nU:GO X none uT:=⟨mO L2.nU E5⟩
theorem fN(h:GE X e d):GO X (some e) (Ic d):=⟨mO (L2.fN h.p) O6⟩
structure Xj(X:Cx)(r:D->Option Int->Option Int->aq->AK->Prop):Prop where
 p:RM X (NV X.K r)
theorem gf(u:Xj X r)(x:GE X e k)(v:GO X d tl)(s:GO X g z):GE X (.Subscript e (.Slice d g none q) pos) (WG r k tl z):=
 ⟨mE (L2.gf u.p x.p v.p s.p) VP⟩
theorem jA(y:s9 X (.builtin d) r)(v:Gl X x)(u:X.mg x=none)(o:bootBuiltins x=some (.builtin d))(C:GA X (e::es) g)(s:x≠"__name__":=by decide+kernel)(j:(x==("__debug__":Str))=false:=by decide+kernel)(q:autoParam ((e::es).all notStar=true) r0):GE X (.Call (.Name x k) (e::es) [] pos) (aCall r g):=⟨mE (L2.jA y.p v u o C.p s j q) Tj⟩
theorem rX(y:s9 X (.type T) r)(v:Gl X x)(u:X.mg x=none)(o:bootBuiltins x=some (.type T))(C:GA X (e::es) d)(s:x≠"__name__":=by decide+kernel)(j:(x==("__debug__":Str))=false:=by decide+kernel)(q:autoParam ((e::es).all notStar=true) r0):GE X (.Call (.Name x g) (e::es) [] pos) (aCall r d):=⟨mE (L2.rX y.p v u o C.p s j q) Tj⟩
theorem lZ(D:Def X.prog X.w X.K X.mg X.base k x ps (az X.K sp))(q:aW k X.A)(s:Gl X x)(u:GA X (e::es) d)(j:(x==("__debug__":Str))=false:=by decide+kernel)(o:autoParam ((e::es).all notStar=true) r0):
  GE X (.Call (.Name x g) (e::es) [] pos) (aCall sp d):=⟨mE (L2.lZ D q s rY u.p j o) s_call⟩
def fc(h:GE X e d)(o:∀j,isTrue e X.env j=(do let v <-j;standAt e.pos;holding [v] (truthy v)):=by intro _;rfl):GT X e (uR d):=⟨mT (L2.F1 h.p o) S8⟩
theorem aD(u:nH X (yan d) r)(y:GE X a ta)(x:GE X b tb)(v:behindInMarks d b=false):GT X (.Compare a [d] [b] pos) (aB (Jv r ta tb)):=
 ⟨mT (L2.aD u.p y.p x.p v) λo H Q h=>by
  let⟨w,s,S,C,ok,env,q,bk⟩:=s_b o H Q h;exact J6 o H _ ⟨w,s,S,C,ok,env,q,bk⟩⟩
def pw_pt(h:GW X e d):GT X e d:=⟨h.p.pt⟩
theorem pw_and1(h:GT X a d):GW X (.BoolOp .And [a] pos) d:=⟨L2.pw_and1 h.p⟩
theorem pw_or1(h:GT X a d):GW X (.BoolOp .Or [a] pos) d:=⟨L2.pw_or1 h.p⟩
theorem pw_and(o:GT X a g)(j:GW X (.BoolOp .And (b::d) pos) k):GW X (.BoolOp .And (a::b::d) pos) (Il g k):=⟨mW (L2.pw_and o.p j.p) Tn⟩
theorem pw_or(o:GT X a g)(j:GW X (.BoolOp .Or (b::d) pos) k):GW X (.BoolOp .Or (a::b::d) pos) (R9 g k):=⟨mW (L2.pw_or o.p j.p) VQ⟩
theorem iD(h:GT X a d):GT X (.UnaryOp .Not a pos) (zV d):=⟨mT (L2.iD h.p) Td⟩
theorem cB:Se X [] L3:=⟨mTs L2.cB SW⟩
theorem eO(h:GT X c d):Se X [c] d:=⟨L2.eO h.p⟩
theorem bS(S:ee scope N)(o:jG X.N X.env scope N caps=true)(s:L2.freeOk X.env scope=true)(H:X.calm=true)(E:GI X tg iter wi)(F:∀s₀ H₀ C j,GG (jv X scope N s₀ H₀ C j) tg g)(v:∀s₀ H₀ C j,Se (jv X scope N s₀ H₀ C j) ifs d)(G:∀s₀ H₀ C j,GE (jv X scope N s₀ H₀ C j) q k)(y:∀x,foldedSetIterable iter X.env x=pure x:=by intro _;rfl):GE X (.ListComp q [⟨tg,iter,ifs,0⟩] scope pos) (dh caps wi g d k):=
 ⟨mE (L2.bS S o s H E.p (λs₀ H₀ C j=>(F s₀ H₀ C j).p) (λs₀ H₀ C j=>(v s₀ H₀ C j).p) (λs₀ H₀ C j=>(G s₀ H₀ C j).p) y) yD⟩
theorem aN:yh X [] xS:=⟨W8 L2.aN O7⟩
theorem af(h:GS X st d):yh X [st] d:=⟨L2.af h.p⟩
theorem aa(h:GS X st k)(g:yh X d q):yh X (st::d) (uS k q):=⟨W8 (L2.aa h.p g.p) S9⟩
theorem aK(h:GE X e d)(j:autoParam (yat e none pos.line X.env=pure false) r0):GS X (.Expr e pos) (Ij d):=⟨mS (L2.aK h.p j) Pc⟩
theorem aJ(h:GE X e d):GS X (.Return (some e) pos) (RA d):=⟨mS (L2.aJ h.p) Tc⟩
theorem bw(j:GT X c tc)(s:yh X d g)(o:yh X q k):GS X (.If c d q pos) (k8 tc g k):=⟨mS (L2.bw j.p s.p o.p) Tg⟩
theorem aU(hN:X.N.Nodup)(o:X.N[i]? =some x)(j:Loc X.env.scope x)(q:X.fn x=true∨X.env.scope.names.lookup x=some .local:=by first|exact .inl rfl|exact .inr rfl|assumption):GG X (.Name x pos) (cS i):=⟨mG (L2.aU hN o j q) nR⟩
theorem bY:Vf X [] xQ:=⟨W9 L2.bY Pa⟩
theorem aF(h1:GG X e d)(h2:Vf X es g)(j:autoParam ((assignEach (e::es) X.env).map (·.2)=assign e X.env::(assignEach es X.env).map (·.2)) r0):Vf X (e::es) (jV d g):=⟨W9 (L2.aF h1.p h2.p j) J9⟩
theorem cR(q:X.calm=true)(h:Vf X es d)(o:autoParam ((assignEach es X.env).length=n) r0)(j:autoParam ((assignEach es X.env).findIdx? (·.1)=none) r0):GG X (.Tuple es k pos) (xP n d):=⟨mG (L2.cR q h.p o j) O9⟩
theorem o9(q:GE X e d)(o:GG X tg g)(j:autoParam (swapsWithSole [tg] e pos.line X.env=pure false) r0)(hw:autoParam (swappedStores [tg] e X.env=pure none) r0)(h1:autoParam ((assignEach [tg] X.env).map (·.2)=[assign tg X.env]) r0):GS X (.Assign [tg] e pos) (z6 d g):=⟨mS (L2.o9 q.p o.p j hw h1) AD⟩
theorem yQ(hN:X.N.Nodup)(F:X.N[i]? =some x)(C:Loc X.env.scope x)(I:GE X e d)(E:autoParam (yat e (some (.Name x pos')) pos.line X.env=pure false) r0)(G:X.fn x=true∨X.env.scope.names.lookup x=some .local:=by first|exact .inl rfl|exact .inr rfl|assumption):
  GS X (.Assign [.Name x pos'] e pos) (z6 d (cS i)):=⟨mS (L2.yQ hN F C I.p E G) λD o H h=>by
  let⟨w,s,S,O,ok,env,q,bk⟩:=AD D o H h;refine⟨w,s,S,O,ok,env,q,λr L v u P le j rep y=>nR _ _ _ _ (bk r L v u P le j rep y)⟩⟩
theorem ff(hN:X.N.Nodup)(F:X.N[i]? =some x)(U:X.env.scope.names.lookup x=some .local)(S:ee scope N)(u:jG X.N X.env scope N caps=true)(G:L2.freeOk X.env scope=true)(hc:X.calm=true)(Z:GI X tg iter wi)(hg:∀s₀ H₀ C j,GG (jv X scope N s₀ H₀ C j) tg g)(W:∀s₀ H₀ C j,Se (jv X scope N s₀ H₀ C j) ifs z)(he:∀s₀ H₀ C j,GE (jv X scope N s₀ H₀ C j) d J)(E:autoParam (yat (.ListComp d [⟨tg,iter,ifs,0⟩] scope pos) (some (.Name x pos')) k.line X.env=pure true) r0)(Y:∀x,foldedSetIterable iter X.env x=pure x:=by intro _;rfl):GS X (.Assign [.Name x pos'] (.ListComp d [⟨tg,iter,ifs,0⟩] scope pos) k) (z6 (dh caps wi g z J) (cS i)):=
 ⟨mS (L2.ff hN F U S u G hc Z.p (λs₀ H₀ C j=>(hg s₀ H₀ C j).p) (λs₀ H₀ C j=>(W s₀ H₀ C j).p) (λs₀ H₀ C j=>(he s₀ H₀ C j).p) E Y) λD L H h=>by
  let⟨w,O,S,Qa,ok,env,q,bk⟩:=AD D L H h;exact yD _ _ _ ⟨w,O,S,Qa,ok,env,q,λr S' v P H' le y rep Q=>nR _ _ _ _ (bk r S' v P H' le y rep Q)⟩⟩
def vR(hN:X.N.Nodup)(F:X.N[i]? =some x)(U:X.env.scope.names.lookup x=some .local)(S:ee scope N)(u:jG X.N X.env scope N caps=true)(G:L2.freeOk X.env scope=true)(hc:X.calm=true)(Z:GI X tg iter wi)(hg:∀s₀ H₀ C j,GG (jv X scope N s₀ H₀ C j) tg g)(W:∀s₀ H₀ C j,Se (jv X scope N s₀ H₀ C j) ifs L)(he:∀s₀ H₀ C j,GE (jv X scope N s₀ H₀ C j) d z)(E:autoParam (yat (.ListComp d [⟨tg,iter,ifs,0⟩] scope pos) (some (.Name x pos')) k.line X.env=pure true) r0)(Y:∀x,foldedSetIterable iter X.env x=pure x:=by intro _;rfl):GS X (.Assign [.Name x pos'] (.ListComp d [⟨tg,iter,ifs,0⟩] scope pos) k) (z6 (bx (dh caps wi g L z)) (cS i)):=
 ⟨mS (L2.ff hN F U S u G hc Z.p (λs₀ H₀ C j=>(hg s₀ H₀ C j).p) (λs₀ H₀ C j=>(W s₀ H₀ C j).p) (λs₀ H₀ C j=>(he s₀ H₀ C j).p) E Y) λD I H h=>by
  let⟨w,O,S,Qa,ok,env,q,bk⟩:=s_alloc I H _ (AD D I H h);exact yD _ _ _ ⟨w,O,S,Qa,ok,env,q,λr S' v P H' le y rep Q=>nR _ _ _ _ (bk r S' v P H' le y rep Q)⟩⟩
end
section
def P6(h:iw X d r)(h':iw X d g):iw X d (λx y H Q=>r x y H Q∨g x y H Q):=by
 intro a s j H x y v u Q I C o q;obtain q|q:=q
 ·exact h a s j H x y v u Q I C o q
 ·exact h' a s j H x y v u Q I C o q
def V7(h:cJ X d r)(h':cJ X d g):cJ X d (λx H Q=>r x H Q∨g x H Q):=by
 intro a s j H x v Q I o q;obtain q|q:=q
 ·exact h a s j H x v Q I o q
 ·exact h' a s j H x v Q I o q
variable {w:Wd}{u:V}{d e:D}
def cM(h:Rep K w d v)(z:aX S d=.int g):v=.int g:=by
 cases d<;>simp only[aX] at z
 case loc n=>split at z<;>first|(rename_i o _;cases o<;>simp[MO.d] at z)|cases z
 all_goals simp_all
 simpa[Rep] using h
def b9(h:Rep K w d v)(z:aX S d=.str g):v=.str g:=by
 cases d<;>simp only[aX] at z
 case loc n=>split at z<;>first|(rename_i o _;cases o<;>simp[MO.d] at z)|cases z
 all_goals simp_all
 simpa[Rep] using h
def gF(h:Rep K w d v)(z:aX S d=.bl g):v=.bl g:=by
 cases d<;>simp only[aX] at z
 case loc n=>split at z<;>first|(rename_i o _;cases o<;>simp[MO.d] at z)|cases z
 all_goals simp_all
 simpa[Rep] using h
def JU(h:Rep K w d v)(z:aX S d=.bB):v=.bB:=by
 cases d<;>simp only[aX] at z
 case loc n=>split at z<;>first|(rename_i o _;cases o<;>simp[MO.d] at z)|cases z
 all_goals first|cases z|skip
 simpa[Rep] using h
def kh(k:Ok K w H S)(h:Rep K w d v)(z:aX S d=.mZ ns):∃a,v=.ref a/\cW K H a (ns.map V.int):=by
 cases d<;>simp only[aX] at z
 case loc n=>split at z<;>first|(rename_i o _;cases o<;>simp[MO.d] at z)|cases z
 all_goals first|cases z|skip
 let⟨a,h1,h2⟩:=h;refine⟨a,h1,k.base.seq h2⟩
def aI(C:Int->Int->Prop)(g:Int->Int->D):A2:=λx y S Q=>∃i j,x=.int i/\y=.int j/\C i j/\Q (.dat (g i j)) S
def LN(h:∀w i j,Rep K w (g i j) (g' i j)):∀x y H Q,Dn K (aI k g) x y H Q->rI k g' x y H Q:=by
 intro x y H Q z;let⟨w,d,e,S,F,ok,o,a,⟨i,j,E,v,s,q⟩,bk⟩:=z;refine⟨i,j,bP o E,bP a v,s,bk.dat .refl ok (h w i j) q⟩
def tW:∀x y H Q,rI (λ_ _=>True) g x y H Q->Kq g x y H Q:=by
 intro x y H Q z;let⟨i,j,h1,h2,_,q⟩:=z;refine⟨i,j,h1,h2,q⟩
def vZ:nH X (binaryOp .Sub) (aI (λ_ _=>True) λi j=>.int (i - j)):=⟨m2 L2.P7 λx y H Q h=>tW x y H Q (LN (g':=λi j=>.int (i - j)) (λ_ _ _=>.int) x y H Q h)⟩
def mh:nH X (binaryOp .FloorDiv) (aI R3 λi j=>.int (i / j)):=⟨m2 L2.KD (LN λ_ _ _=>.int)⟩
def cC:nH X (binaryOp .Mod) (aI (λ_ j=>0<j) λi j=>.int (i % j)):=⟨m2 L2.Qh (LN λ_ _ _=>.int)⟩
def Nr:nH X (binaryOp .Pow) (aI MI λi j=>.int (i ^ j.toNat)):=⟨m2 L2.Qe (LN λ_ _ _=>.int)⟩
def KO:nH X (yan .GtE) (aI (λ_ _=>True) λi j=>.bl (decide (j<=i))):=⟨m2 L2.TF λx y H Q h=>tW x y H Q (LN (g':=λi j=>.bl (decide (j<=i))) (λ_ _ _=>.bl) x y H Q h)⟩
def Xg:A2:=λx y S Q=>match x,y with
 |.int i,.int j=>Q (.dat (.bl (decide (i<j)))) S
 |.str i,.str j=>Q (.dat (.bl (decide (i.cps.toList<j.cps.toList)))) S
 |_,_=>False
def aLe:A2:=λx y S Q=>match x,y with
 |.int i,.int j=>Q (.dat (.bl (decide (i<=j)))) S
 |.str i,.str j=>Q (.dat (.bl (!decide (j.cps.toList<i.cps.toList)))) S
 |_,_=>False
def KJ:nH X (yan .Lt) Xg:=⟨m2 (P6 L2.Tz L2.CQ) λx y H Q h=>by
 let⟨w,d,e,S,o,ok,j,a,q,bk⟩:=h;cases d<;>cases e<;>first|exact q.elim|skip
 ·exact .inl ⟨_,_,bP j rfl,bP a rfl,bk.dat .refl ok .bl q⟩
 ·exact .inr ⟨_,_,tV j rfl,tV a rfl,bk.dat .refl ok .bl q⟩⟩
def Me:A2:=λx y S Q=>match aX S x,aX S y with
 |.int i,.int j=>Q (.dat (.int (i+j))) S
 |.str i,.str j=>i.length+j.length<=yag/\Q (.dat (.str (i++j))) S
 |.lst xs,.lst ys=>xs.length+ys.length<=yag/\Q (.new (.lst (xs++ys))) S
 |.tup xs,.tup ys=>xs≠[]/\xs.length+ys.length<=yag/\Q (.dat (.tup (xs++ys))) S
 |_,_=>False
def bN:nH X (binaryOp .Add) Me:=⟨m2 (P6 L2.Qn (P6 L2.yS (P6 L2.Ql L2.KG))) λx y H Q h=>by
 let⟨w,d,e,S,Qa,ok,F,G,q,bk⟩:=h;unfold Me at q;cases j:aX S d<;>cases C:aX S e<;>rw[j,C] at q<;>first|exact q.elim|skip
 ·exact .inl ⟨_,_,cM F j,cM G C,bk.dat .refl ok .int q⟩
 ·exact .inr (.inl ⟨_,_,b9 F j,b9 G C,q.1,bk.dat .refl ok .str q.2⟩)
 ·let⟨a,O,rfl,h1,v⟩:=di ok F j;let⟨b,L,rfl,h2,s⟩:=di ok G C;let⟨W,Z,q⟩:=q;refine .inr (.inr (.inr ⟨a,b,O,L,rfl,rfl,h1,h2,?_,by rw[v.length,s.length];exact Z,λY=>?_,λY p I=>?_⟩))
  ·intro z;subst z;have:=v.length;simp at this;exact W (zaa this.symm)
  ·subst Y;have:_=[]:=zaa s.length.symm;rw[this,zbG] at q;cases d<;>simp only[aX] at j
   case tup=>cases j;exact bk.dat .refl ok F q
   case loc n=>split at j<;>first|(rename_i o _;cases o<;>simp[MO.d] at j)|cases j
   all_goals cases j
  ·let⟨w2,U,P,E⟩:=ok.pQ I (v.append s);exact bk.dat U P E q
 ·let⟨a,O,rfl,h1,v⟩:=bC ok F j;let⟨b,L,rfl,h2,s⟩:=bC ok G C;refine .inr (.inr (.inl ⟨a,b,O,L,rfl,rfl,h1,h2,by rw[v.length,s.length];exact q.1,λp I=>?_⟩));exact bk (.new (.lst _)) S _ w _ .refl (ok.alloc I) (ok.fresh I ⟨_,rfl,v.append s⟩) q.2⟩
end
end M
namespace M
open PySem PySem.Spec PyProof.Rows PySem.SeqAt L2
mutual
noncomputable def b7:D->Bool
 |.bB|.bl _|.int _|.str _=>true
 |.tup ds|.lst ds=>bX ds
 |_=>false
noncomputable def bX:List D->Bool
 |[]=>true
 |d::ds=>b7 d&&bX ds
end
mutual
noncomputable def py:D->yam
 |.bB=>.none
 |.bl b=>.bool b
 |.int i=>.int i
 |.str x=>.str x
 |.tup ds=>.tuple (gb ds)
 |.lst ds=>.list (gb ds)
 |_=>.none
noncomputable def gb:List D->List yam
 |[]=>[]
 |d::ds=>py d::gb ds
end
section
variable {w:Wd}
mutual
theorem Hz(e:ir w.B H):∀(d:D)(v:V),b7 d=true->Rep K w d v->dJ K H (py d) v
 |.bB,v,_,h=>by simpa[Rep,py,dJ] using h
 |.bl _,v,_,h=>by simpa[Rep,py,dJ] using h
 |.int _,v,_,h=>by simpa[Rep,py,dJ] using h
 |.str _,v,_,h=>by simpa[Rep,py,dJ] using h
 |.tup ds,v,hp,h=>by
  simp only[Rep,py,dJ] at h⊢;let⟨a,j,h1,h2,o⟩:=h;refine⟨a,j,h1,fR.same e h2,kX e ds j (by simpa[b7] using hp) o⟩
 |.lst ds,v,hp,h=>by
  simp only[Rep,py,dJ] at h⊢;let⟨a,j,h1,h2,o⟩:=h;refine⟨a,j,h1,cW.of (e _ _ h2),kX e ds j (by simpa[b7] using hp) o⟩
 |.dct _ _,_,hp,_=>by simp[b7] at hp
 |.loc _,_,hp,_=>by simp[b7] at hp
 |.ty _,_,hp,_=>by simp[b7] at hp
 |.mZ _,_,hp,_=>by simp[b7] at hp
 |.fd,_,hp,_=>by simp[b7] at hp
 |.fn _,_,hp,_=>by simp[b7] at hp
theorem kX(e:ir w.B H):∀(ds:List D)(vs:List V),bX ds=true->av K w ds vs->jI K H (gb ds) vs
 |[],vs,_,h=>by simpa[av,gb,jI] using h
 |d::ds,vs,hp,h=>by
  simp only[bX,zbB] at hp;simp only[av,gb,jI] at h⊢;let⟨x,r,h1,h2,a⟩:=h;refine⟨x,r,h1,Hz e d x hp.1 h2,kX e ds r hp.2 a⟩
end
def Ay(k:Ok K w H S)(h:Rep K w d v)(j:b7 (aX S d)=true):dJ K H (py (aX S d)) v:=by
 cases d with
 |loc n=>
  cases z:aX S (.loc n) with
  |lst ds=>
   rw[z] at j;let⟨a,q,rfl,h1,h2⟩:=bC k h z;simp only[py,dJ];refine⟨a,q,rfl,cW.of h1,kX k.base ds q (by simpa[b7] using j) h2⟩
  |_=>
   rw[z] at j;simp only[aX] at z;split at z<;>first|(rename_i o _;cases o<;>simp[MO.d] at z)|(cases z;simp[b7] at j)|cases z
   all_goals simp[b7] at j
 |_=>exact Hz k.base _ v (by simpa[aX] using j) h
end
noncomputable def fit(d:D):Bool:=b7 d&&shaped (py d)
def Sa:A2:=λx y S Q=>match aX S x,aX S y with
 |.str a,.str b=>Q (.dat (.bl (decide (a=b)))) S
 |.int a,.int b=>Q (.dat (.bl (decide (a=b)))) S
 |.bl a,.bl b=>Q (.dat (.bl (decide (a=b)))) S
 |x',y'=>fit x'=true/\fit y'=true/\Q (.dat (.bl (PyData.eqv (py x') (py y')))) S
def L7:A2:=λx y S Q=>match aX S x,aX S y with
 |.str a,.str b=>Q (.dat (.bl (!decide (a=b)))) S
 |.int a,.int b=>Q (.dat (.bl (!decide (a=b)))) S
 |.bl a,.bl b=>Q (.dat (.bl (!decide (a=b)))) S
 |x',y'=>fit x'=true/\fit y'=true/\Q (.dat (.bl (!PyData.eqv (py x') (py y')))) S
def V2(K:yaJ):R2:=λx y H Q=>∃a b,dJ K H a x/\dJ K H b y/\shaped a=true/\shaped b=true/\Q (.bl (PyData.eqv a b)) H
def V0(K:yaJ):R2:=λx y H Q=>∃a b,dJ K H a x/\dJ K H b y/\shaped a=true/\shaped b=true/\Q (.bl (!PyData.eqv a b)) H
def Qk(G:aW k X.A):iw X (yan .Eq) (V2 X.K):=by
 intro j s P H x y v u Q I C o h;let⟨a,b,h1,h2,O,L,q⟩:=h;let⟨as,F⟩:=I.reads a x v h1 C;let⟨bs,E⟩:=I.reads b y u h2 o;exact eq_dataH F E O L G.units ⟨.bl _,H,I,rfl,q⟩
def Qf(G:aW k X.A):iw X (yan .NotEq) (V0 X.K):=by
 intro j s P H x y v u Q I C o h;let⟨a,b,h1,h2,O,L,q⟩:=h;let⟨as,F⟩:=I.reads a x v h1 C;let⟨bs,E⟩:=I.reads b y u h2 o;exact ne_dataH F E O L G.units ⟨.bl _,H,I,rfl,q⟩
def eT(k:Ok K g H S)(h:Rep K g d v)(a:fit (aX S d)=true):dJ K H (py (aX S d)) v/\shaped (py (aX S d))=true:=by
 delta fit at a;rw[zbB] at a;exact⟨Ay k h a.1,a.2⟩
def eu(v:aW k X.A):nH X (yan .Eq) Sa:=⟨m2 (P6 L2.TH (Qk v)) λx y H Q h=>by
 let⟨w,d,e,S,I,ok,o,j,q,bk⟩:=h;unfold Sa at q;split at q
 next a b z1 z2=>
  refine .inl ⟨by rw[b9 o z1,b9 j z2];rfl,?_⟩;rw[b9 o z1,b9 j z2];exact bk.dat .refl ok (by rw[show decide (V.str a=V.str b)=decide (a=b) by simp];exact .bl) q
 next a b z1 z2=>
  refine .inl ⟨by rw[cM o z1,cM j z2];rfl,?_⟩;rw[cM o z1,cM j z2];exact bk.dat .refl ok (by rw[show decide (V.int a=V.int b)=decide (a=b) by simp];exact .bl) q
 next a b z1 z2=>
  refine .inl ⟨by rw[gF o z1,gF j z2];rfl,?_⟩;rw[gF o z1,gF j z2];exact bk.dat .refl ok (by rw[show decide (V.bl a=V.bl b)=decide (a=b) by simp];exact .bl) q
 next=>
  let⟨G,F,q⟩:=q;let⟨E,u⟩:=eT ok o G;let⟨C,s⟩:=eT ok j F;exact .inr ⟨_,_,E,C,u,s,bk.dat .refl ok .bl q⟩⟩
def CT(v:aW k X.A):nH X (yan .NotEq) L7:=⟨m2 (P6 L2.Tw (Qf v)) λx y H Q h=>by
 let⟨w,d,e,S,I,ok,o,j,q,bk⟩:=h;unfold L7 at q;split at q
 next a b z1 z2=>
  refine .inl ⟨by rw[b9 o z1,b9 j z2];rfl,?_⟩;rw[b9 o z1,b9 j z2];exact bk.dat .refl ok (by rw[show decide (V.str a=V.str b)=decide (a=b) by simp];exact .bl) q
 next a b z1 z2=>
  refine .inl ⟨by rw[cM o z1,cM j z2];rfl,?_⟩;rw[cM o z1,cM j z2];exact bk.dat .refl ok (by rw[show decide (V.int a=V.int b)=decide (a=b) by simp];exact .bl) q
 next a b z1 z2=>
  refine .inl ⟨by rw[gF o z1,gF j z2];rfl,?_⟩;rw[gF o z1,gF j z2];exact bk.dat .refl ok (by rw[show decide (V.bl a=V.bl b)=decide (a=b) by simp];exact .bl) q
 next=>
  let⟨G,F,q⟩:=q;let⟨E,u⟩:=eT ok o G;let⟨C,s⟩:=eT ok j F;exact .inr ⟨_,_,E,C,u,s,bk.dat .refl ok .bl q⟩⟩
noncomputable def inD(d:D)(ds:List D):Bool:=ds.any λy=>PyData.eqv (py y) (py d)
def sX(a:Bool):A2:=λx y S Q=>match aX S y with
 |.tup ds=>fit (aX S x)=true/\fit (.tup ds)=true/\Q (.dat (.bl (a != inD (aX S x) ds))) S
 |.lst ds=>fit (aX S x)=true/\fit (.lst ds)=true/\Q (.dat (.bl (a != inD (aX S x) ds))) S
 |_=>False
def PU(K:yaJ)(j:Bool):R2:=λx y H Q=>∃d a,dJ K H d x/\(dJ K H (.tuple a) y∨dJ K H (.list a) y)/\shaped d=true/\PyData.canLayAll0 a=true/\Q (.bl (j != a.any λy=>PyData.eqv y d)) H
def Qj(L:aW k X.A):iw X (yan .In) (PU X.K false):=by
 intro E s O H x y v u Q I G o h;let⟨d,S,h1,h2,a,F,q⟩:=h;let⟨as,C⟩:=I.reads d x v h1 G;have P:=L.un;obtain h2|h2:=h2
 ·let⟨bs,j⟩:=I.reads _ y u h2 o;exact PySem.SeqAt.in_tuple_reads j C F (canLay_of_shaped a) (room_in_shaped a (by lia)) ⟨.bl _,H,I,by simp[L2.RelV],q⟩
 ·let⟨bs,j⟩:=I.reads _ y u h2 o;exact PySem.SeqAt.in_list_reads j C F (canLay_of_shaped a) (room_in_shaped a (by lia)) ⟨.bl _,H,I,by simp[L2.RelV],q⟩
def CP(L:aW k X.A):iw X (yan .NotIn) (PU X.K true):=by
 intro E s O H x y v u Q I G o h;let⟨d,S,h1,h2,a,F,q⟩:=h;let⟨as,C⟩:=I.reads d x v h1 G;have P:=L.un;obtain h2|h2:=h2
 ·let⟨bs,j⟩:=I.reads _ y u h2 o;exact PySem.SeqAt.notIn_tuple_reads j C F (canLay_of_shaped a) (room_in_shaped a (by lia)) ⟨.bl _,H,I,by simp[L2.RelV],q⟩
 ·let⟨bs,j⟩:=I.reads _ y u h2 o;exact PySem.SeqAt.notIn_list_reads j C F (canLay_of_shaped a) (room_in_shaped a (by lia)) ⟨.bl _,H,I,by simp[L2.RelV],q⟩
def tX(ds:List D):gb ds=ds.map py:=by
 induction ds with
 |nil=>rfl
 |cons d ds ih=>simp[gb,ih]
def B0(ds)(p):(gb ds).any p=ds.any λy=>p (py y):=by
 rw[tX,zcl];rfl
def Le(h:fit (.tup ds)=true):PyData.canLayAll0 (gb ds)=true:=by
 delta fit at h;rw[zbB] at h;have:=canLay_of_shaped h.2;simpa[py,PyData.canLay0] using this
def wY(h:fit (.lst ds)=true):PyData.canLayAll0 (gb ds)=true:=by
 delta fit at h;rw[zbB] at h;have:=canLay_of_shaped h.2;simpa[py,PyData.canLay0] using this
def U1:∀x y H Q,Dn K (sX neg) x y H Q->PU K neg x y H Q:=by
 intro x y H Q k;let⟨w,d,e,S,F,ok,C,v,q,bk⟩:=k;unfold sX at q;split at q
 next ds z=>
  let⟨u,s,q⟩:=q;let⟨o,j⟩:=eT ok C u;let⟨a,E⟩:=eT ok v (by simp_all);rw[z] at a;refine⟨_,gb ds,o,.inl (by simpa only[py] using a),j,Le s,?_⟩;rw[B0];exact bk.dat .refl ok .bl q
 next ds z=>
  let⟨u,s,q⟩:=q;let⟨o,j⟩:=eT ok C u;let⟨a,E⟩:=eT ok v (by simp_all);rw[z] at a;refine⟨_,gb ds,o,.inr (by simpa only[py] using a),j,wY s,?_⟩;rw[B0];exact bk.dat .refl ok .bl q
 next=>exact q.elim
def yT(a:aW k X.A):nH X (yan .In) (sX false):=⟨m2 (Qj a) U1⟩
def nY(a:aW k X.A):nH X (yan .NotIn) (sX true):=⟨m2 (CP a) U1⟩
section
variable {w:Wd}{d:D}
def vL(h:av K w ds xs)(q:ia ds g=some k):∃u,ia xs g=some u/\Rep K w k u:=by
 delta ia at q⊢;rw[h.length];cases z:NC ds.length g with
 |none=>rw[z] at q;cases q
 |some j=>
  rw[z] at q;exact h.get q
def xU:A2:=λx y S Q=>match aX S x,y with
 |.lst ds,.int i=>∃e,ia ds i=some e/\Q (.dat e) S
 |.tup ds,.int i=>∃e,ia ds i=some e/\Q (.dat e) S
 |.str z,.int i=>z.length<=yag/\∃c,ia z.cps.toList i=some c/\Q (.dat (.str ⟨#[c]⟩)) S
 |.mZ ns,.int i=>∃n,ia ns i=some n/\Q (.dat (.int n)) S
 |_,_=>False
def LV{α q:Type}{f:α->q}{o:List α}{a:α}(h:ia o g=some a):ia (o.map f) g=some (f a):=by
 delta ia at h⊢;cases z:NC o.length g with
 |none=>simp_all
 |some j=>
  simp_all
def TN:Xk X xU:=⟨λj o C s W H x y v u Q I Z Y h hs=>by
 refine L2.QI j o C s W H x y v u Q I Z Y ?_ hs;let⟨w,d,e,S,Qa,ok,F,E,q,bk⟩:=h;unfold xU at q;split at q
 next ds i z=>
  let⟨a,G,rfl,h1,h2⟩:=bC ok F z;let⟨e',O,q⟩:=q;let⟨L,U,P⟩:=vL h2 O;exact .inl ⟨a,G,i,L,rfl,bP E rfl,cW.of h1,U,bk.dat .refl ok P q⟩
 next ds i z=>
  let⟨a,G,rfl,h1,h2⟩:=di ok F z;let⟨e',O,q⟩:=q;let⟨L,U,P⟩:=vL h2 O;exact .inr (.inl ⟨a,G,i,L,rfl,bP E rfl,h1,U,bk.dat .refl ok P q⟩)
 next y i z=>
  obtain⟨hl,c,hc,q⟩:=q;exact .inr (.inr ⟨y,i,c,b9 F z,bP E rfl,hl,hc,bk.dat .refl ok .str q⟩)
 next ns i z=>
  let⟨a,rfl,h1⟩:=kh ok F z;let⟨n,hn,q⟩:=q;exact .inl ⟨a,_,i,.int n,rfl,bP E rfl,h1,LV hn,bk.dat .refl ok .int q⟩
 next=>exact q.elim⟩
noncomputable def cutD{α:Type}(a:List α)(lo j:Option Int):List α:=(a.drop (HT.tQ a.length 0 lo)).take (HT.tQ a.length a.length j - HT.tQ a.length 0 lo)
def vK(h:av K w ds xs)(lo a:Option Int):av K w (cutD ds lo a) (HC xs lo a):=by
 delta cutD HC;rw[h.length];exact(h.drop _).take _
def Dz:D->Option Int->Option Int->aq->AK->Prop:=λx lo a S Q=>match aX S x with
 |.lst ds=>Q (.new (.lst (cutD ds lo a))) S
 |.mZ ns=>Q (.new (.lst ((cutD ns lo a).map D.int))) S
 |_=>False
def LH{α o:Type}(f:α->o)(a)(lo j):cutD (a.map f) lo j=(cutD a lo j).map f:=by
 delta cutD;simp
theorem jf{w:Wd}:∀(ns:List Int),av K w (ns.map D.int) (ns.map V.int)
 |[]=>.nil
 |n::ns=>.cons .int (jf ns)
def Bd:Xj X Dz:=⟨by
 intro j s C H x v G F lo u L Q I O P pl pu h;refine L2.JP j s C H x v G F lo u L Q I O P pl pu ?_;let⟨w,d,S,U,ok,y,q,bk⟩:=h;unfold Dz at q;split at q
 next ds z=>
  let⟨a,E,rfl,h1,h2⟩:=bC ok y z;refine⟨a,E,rfl,cW.of h1,λp o=>bk (.new (.lst _)) S _ w _ .refl (ok.alloc o) (ok.fresh o ⟨_,rfl,vK h2 lo u⟩) q⟩
 next ns z=>
  let⟨a,rfl,h1⟩:=kh ok y z;refine⟨a,_,rfl,h1,λp o=>bk (.new (.lst _)) S _ w _ .refl (ok.alloc o) (ok.fresh o ⟨_,rfl,?_⟩) q⟩;have:=vK (jf (K:=X.K) (w:=w) ns) lo u;rw[LH] at this;exact this
 next=>exact q.elim⟩
def DA:A2:=λx y S Q=>match aX S x,y with
 |.int i,.int j=>DQ i j/\Q (.dat (.int (i*j))) S
 |.lst ds,.int k=>(-(2 ^ 63)<=k/\k<2 ^ 63)/\ds.length*k.toNat<=yag/\Q (.new (.lst (zbW k.toNat ds).flatten)) S
 |_,_=>False
theorem vJ(h:av K w g q):∀k:Nat,av K w (zbW k g).flatten (zbW k q).flatten
 |0=>.nil
 |k+1=>by
  exact h.append (vJ h k)
def eF:nH X (binaryOp .Mult) DA:=⟨m2 (P6 L2.Qg L2.Qc) λx y H Q h=>by
 let⟨w,d,e,S,G,ok,s,o,q,bk⟩:=h;unfold DA at q;split at q
 next i j z=>exact .inl ⟨i,j,cM s z,bP o rfl,q.1,bk.dat .refl ok .int q.2⟩
 next ds k z=>
  let⟨a,v,rfl,h1,h2⟩:=bC ok s z;let⟨⟨F,E⟩,C,q⟩:=q;refine .inr ⟨a,k,v,rfl,bP o rfl,h1,F,E,by rw[h2.length];exact C,λp u=>?_⟩;exact bk (.new (.lst _)) S _ w _ .refl (ok.alloc u) (ok.fresh u ⟨_,rfl,vJ h2 k.toNat⟩) q
 simp_all⟩
end
mutual
noncomputable def jT(n:Nat):D->Bool
 |.loc m=>decide (m<n)
 |.tup ds|.lst ds|.dct _ ds=>jS n ds
 |_=>true
noncomputable def jS(n:Nat):List D->Bool
 |[]=>true
 |d::ds=>jT n d&&jS n ds
end
noncomputable def jw(n:Nat):MO->Bool
 |.lst ds=>jS n ds
 |.dct _ ds=>jS n ds
 |.feed _=>true
 |.ins _ _ ds=>jS n ds
 |.Lp _ ks=>jS n ks
 |.Hh _ ks=>jS n ks
mutual
theorem BX(n:Nat):∀d:D,b7 d=true->jT n d=true
 |.bB,_=>by simp[jT]
 |.bl _,_=>by simp[jT]
 |.int _,_=>by simp[jT]
 |.str _,_=>by simp[jT]
 |.tup ds,h=>by simp only[jT];exact cV n ds (by simpa[b7] using h)
 |.lst ds,h=>by simp only[jT];exact cV n ds (by simpa[b7] using h)
 |.dct _ _,h=>by simp[b7] at h
 |.loc _,h=>by simp[b7] at h
 |.ty _,h=>by simp[b7] at h
 |.mZ _,h=>by simp[b7] at h
 |.fd,h=>by simp[b7] at h
 |.fn _,h=>by simp[b7] at h
theorem cV(n:Nat):∀ds:List D,bX ds=true->jS n ds=true
 |[],_=>by simp[jS]
 |d::ds,h=>by
  simp only[bX,zbB] at h;simp only[jS,zbB];exact⟨BX n d h.1,cV n ds h.2⟩
end
noncomputable def kj(n:Nat)(w:Wd):Wd:=⟨w.B,λk=>if k<n then w.r k else none⟩
section
variable {w w1:Wd}{H1:Hp}{S0 S1:aq}
mutual
theorem rM(n:Nat):∀(d:D)(v:V),jT n d=true->Rep K w d v->Rep K (kj n w) d v
 |.bB,_,_,h=>by simpa[Rep] using h
 |.bl _,_,_,h=>by simpa[Rep] using h
 |.int _,_,_,h=>by simpa[Rep] using h
 |.str _,_,_,h=>by simpa[Rep] using h
 |.ty _,_,_,h=>by simpa[Rep] using h
 |.fd,_,_,h=>by simpa[Rep] using h
 |.fn _,_,_,h=>by simpa[Rep] using h
 |.mZ _,_,_,h=>by simpa[Rep,kj] using h
 |.loc m,v,hb,h=>by
  simp only[jT,decide_eq_true_eq] at hb;simp only[Rep] at h⊢;let⟨a,h1,h2⟩:=h;refine⟨a,by show(if m<n then w.r m else none)=_;rw[yIp hb];exact h1,h2⟩
 |.tup ds,v,hb,h=>by
  simp only[Rep] at h⊢;let⟨a,j,h1,h2,o⟩:=h;refine⟨a,j,h1,h2,cg n ds j (by simpa[jT] using hb) o⟩
 |.lst ds,v,hb,h=>by
  simp only[Rep] at h⊢;let⟨a,j,h1,h2,o⟩:=h;refine⟨a,j,h1,h2,cg n ds j (by simpa[jT] using hb) o⟩
 |.dct ks ds,v,hb,h=>by
  simp only[Rep] at h⊢;let⟨a,j,h1,h2,o,q⟩:=h;refine⟨a,j,h1,h2,o,cg n ds _ (by simpa[jT] using hb) q⟩
theorem cg(n:Nat):∀(ds:List D)(vs:List V),jS n ds=true->av K w ds vs->av K (kj n w) ds vs
 |[],_,_,h=>by simpa[av] using h
 |d::ds,vs,hb,h=>by
  simp only[jS,zbB] at hb;simp only[av] at h⊢;let⟨x,r,h1,h2,a⟩:=h;refine⟨x,r,h1,rM n d x hb.1 h2,cg n ds r hb.2 a⟩
end
mutual
theorem Ko(n:Nat)(o:∀k,n<=k->w.r k=none):∀(d:D)(v:V),Rep K w d v->jT n d=true
 |.bB,_,_=>by simp[jT]
 |.bl _,_,_=>by simp[jT]
 |.int _,_,_=>by simp[jT]
 |.str _,_,_=>by simp[jT]
 |.ty _,_,_=>by simp[jT]
 |.fd,_,_=>by simp[jT]
 |.fn _,_,_=>by simp[jT]
 |.mZ _,_,_=>by simp[jT]
 |.loc m,v,h=>by
  simp only[Rep] at h;let⟨a,h1,h2⟩:=h;simp only[jT,decide_eq_true_eq];obtain q|q:=zct m n
  ·exact q
  ·rw[o m q] at h1;cases h1
 |.tup ds,v,h=>by
  simp only[Rep] at h;let⟨a,j,h1,h2,s⟩:=h;simp only[jT];exact dw n o ds j s
 |.lst ds,v,h=>by
  simp only[Rep] at h;let⟨a,j,h1,h2,s⟩:=h;simp only[jT];exact dw n o ds j s
 |.dct ks ds,v,h=>by
  simp only[Rep] at h;let⟨a,j,h1,h2,s,u⟩:=h;simp only[jT];exact dw n o ds _ u
theorem dw(n:Nat)(a:∀k,n<=k->w.r k=none):∀(ds:List D)(vs:List V),av K w ds vs->jS n ds=true
 |[],_,_=>by simp[jS]
 |d::ds,vs,h=>by
  simp only[av] at h;let⟨x,r,h1,h2,j⟩:=h;simp only[jS,zbB];exact⟨Ko n a d x h2,dw n a ds r j⟩
end
def jM(n):∀{o:MO}{u:HO},jw n o=true->mK K w o u->mK K (kj n w) o u:=by
 intro o u j h;cases o with
 |lst ds=>let⟨q,h1,h2⟩:=h;refine⟨q,h1,cg n ds q j h2⟩
 |dct ks ds=>let⟨q,h1,h2,s⟩:=h;refine⟨q,h1,h2,cg n ds _ j s⟩
 |feed _=>exact h
 |ins C ks ds=>let⟨v,fs,h1,h2,s⟩:=h;refine⟨v,fs,h1,h2,cg n ds _ j s⟩
 |Lp F ks=>let⟨a,bs,h1,h2⟩:=h;refine⟨a,bs,h1,cg n ks _ j h2⟩
 |Hh F ks=>let⟨a,bs,h1,h2⟩:=h;refine⟨a,bs,h1,cg n ks _ j h2⟩
def FN(n)(j:∀k,n<=k->w.r k=none):∀{o:MO}{u:HO},mK K w o u->jw n o=true:=by
 intro o u h;cases o with
 |lst ds=>let⟨s,h1,h2⟩:=h;exact dw n j ds s h2
 |dct ks ds=>let⟨s,h1,h2,q⟩:=h;exact dw n j ds _ q
 |feed _=>rfl
 |ins C ks ds=>let⟨v,fs,h1,h2,q⟩:=h;exact dw n j ds _ q
 |Lp F ks=>let⟨a,bs,h1,h2⟩:=h;exact dw n j ks _ h2
 |Hh F ks=>let⟨a,bs,h1,h2⟩:=h;exact dw n j ks _ h2
noncomputable def out(n:Nat)(S1:aq):R->Option R
 |.dat (.loc m)=>if m<n then some (.dat (.loc m)) else match S1[m]? with
  |some (some o)=>if jw n o=true then some (.new o) else none
  |_=>none
 |.dat d=>if jT n d=true then some (.dat d) else none
 |.new o=>if jw n o=true then some (.new o) else none
def chg(S0 S1:aq):Prop:=∀k o,k<S0.length->S1[k]? =some (some o)->S0[k]? =some (some o)∨jw S0.length o=true
def ret(S0 S1:aq)(r:R)(Q:AK):Prop:=∃a,out S0.length S1 r=some a/\chg S0 S1/\Q a (S1.take S0.length)
def tT(ok:Ok K w H S0)(le:w.le w1)(s:Ok K w1 H1 S1)(rep:lq K w1 H1 S1 r v)(h:ret S0 S1 r g)(bk:fG K w g J):J v H1:=by
 let⟨L,j,U,q⟩:=h;generalize W:S0.length=n at*;have lt:∀k a,w.r k=some a->k<n:=λk a e=>by
  obtain z|z:=zct k n
  ·exact z
  ·rw[ok.top k (by simp_all)] at e;cases e
 have at_:∀k o,(S1.take n)[k]? =some (some o)->k<n/\S1[k]? =some (some o):=λk o e=>by
  rw[List.getElem?_take] at e;simp_all
 have P:w.le (kj n w1):=⟨le.b,λk a e=>by show(if k<n then w1.r k else none)=_;rw[yIp (lt k a e)];exact le.r k a e⟩
 have bl:∀k o,k<n->S1[k]? =some (some o)->jw n o=true:=λk o x e=>by
  obtain z|z:=U k o (by simp_all) e
  ·let⟨a,u,_,_,_,E⟩:=ok.live k o z;exact FN n (λk x=>ok.top k (by simp_all)) E
  simp_all
 have O:Ok K (kj n w1) H1 (S1.take n):=⟨s.base,λk o e=>by
   let⟨x,e⟩:=at_ k o e;let⟨a,u,h1,h2,G,E⟩:=s.live k o e;refine⟨a,u,by show(if k<n then w1.r k else none)=_;rw[yIp x];exact h1,h2,G,jM n (bl k o x e) E⟩,
  λk m o y e F z=>by
   let⟨x,e⟩:=at_ k o e;let⟨C,F⟩:=at_ m y F;have z:(if k<n then w1.r k else none)=(if m<n then w1.r m else none):=z;rw[yIp x,yIp C] at z;exact s.inj k m o y e F z,
  λk x=>by
   show(if k<n then w1.r k else none)=none;by_cases z:k<n
   ·rw[yIp z];rw[zbq] at x;exact s.top k (by lia)
   ·rw[yIn z]⟩
 refine bk L (S1.take n) v (kj n w1) H1 P O ?_ q;have fresh:∀m o a,n<=m->S1[m]? =some (some o)->w1.r m=some a->∀k y,(S1.take n)[k]? =some (some y)->(kj n w1).r k≠some a:=λm o a C e I k y F z=>by
  let⟨x,F⟩:=at_ k y F;have z:(if k<n then w1.r k else none)=some a:=z;rw[yIp x] at z;have:=s.inj k m y o F e (z.trans I.symm);lia
 cases r with
 |new o=>
  simp only[out] at j;split at j
  next hb=>
   cases j;let⟨a,u,rfl,h1,h2,G,E⟩:=rep;refine⟨a,u,rfl,h1,h2,jM n hb G,λk y e z=>?_⟩;let⟨x,e⟩:=at_ k y e;have z:(if k<n then w1.r k else none)=some a:=z;rw[yIp x] at z;exact E k y e z
  next=>cases j
 |dat d=>
  have gen:(if jT n d=true then some (R.dat d) else none)=some L->lq K (kj n w1) H1 (S1.take n) L v:=λj=>by
   split at j
   next hb=>cases j;exact rM n d v hb rep
   next=>cases j
  cases d with
  |loc m=>
   simp only[out] at j;split at j
   next C=>exact gen (by simp[jT,C,j])
   next C=>
    have C:n<=m:=by simp_all
    split at j
    next o e=>
     split at j
     next hb=>
      cases j;let⟨a,I,rfl⟩:=rep;let⟨X,u,h1,h2,G,E⟩:=s.live m o e;rw[I] at h1;cases h1;refine⟨a,u,rfl,h2,G,jM n hb E,fresh m o a C e I⟩
     next=>cases j
    next=>cases j
  |_=>exact gen (by simpa only[out] using j)
end
noncomputable def aO(N:List Str)(ds:List D):aV:=ds.map some++zbW (N.length - ds.length) none
def jk(h:av K g ds vs):fJ K g (aO N ds) (L2.start N vs):=by
 have a:=h.length;refine⟨by simp[aO,L2.start,a],λi d e=>?_⟩;unfold aO at e;by_cases j:i<ds.length
 ·rw[zag (by simp_all),zbb] at e;cases z:ds[i]? with
  |none=>rw[z] at e;cases e
  |some d'=>
   rw[z] at e;have e  :=by simpa using e
   subst e;let⟨v,h1,h2⟩:=h.get z;refine⟨v,?_,h2⟩;delta L2.start;rw[zag (by simp_all),zbb,h1];rfl
 ·rw[zac (by simp_all),List.getElem?_replicate] at e;split at e<;>cases e
def eE(F:Src K mg x ps st)(S:ak N ps (ah st))(len:∀ds S Q,sp ds S Q->ds.length=ps.length)(u:∀(f)(j)(A)(outer)(s)(H)(E),aW k (A.deeper (envOfC x (ah st) s.heap.objs.size f j))->∃a,yh (mz lQ P w K mg base N x (ah st) f j A outer s H E).Gm (bG st) a/\∀ds S Q,sp ds S Q->a {nx:=λ_ C=>ret S C (.dat .bB) Q,rt:=λr C=>ret S C r Q} (aO N ds) S):Def P w K mg base (k+1) x ps (az K sp):=
 F.def S (λvs H Q E h=>by
  let⟨w,ds,S,I,ok,rep,q,bk⟩:=h;rw[rep.length];exact len ds S I q) λf j A outer s H vs Q E O h=>by
  let⟨a,U,hd⟩:=u f j A outer s H E O;let⟨w,ds,S,I,ok,rep,q,bk⟩:=h;refine⟨_,U.p,w,aO N ds,S,_,ok,jk rep,hd ds S I q,⟨λY C X L W le o env G=>?_,λr C v L W le o y G=>?_,λ_ _ _ _ _ _ _ _ z=>z.elim,λ_ _ _ _ _ _ _ _ z=>z.elim⟩⟩
  ·exact tT (r:=.dat .bB) ok le o (show Rep K L .bB .bB from .bB) G bk
  ·exact tT ok le o y G bk
section
variable {w:Wd}{d:D}
def jz(h:av K w [d] vs):∃v,vs=[v]/\Rep K w d v:=by
 let⟨x,r,rfl,h1,rfl⟩:=h;refine⟨x,rfl,h1⟩
def FI(h:av K w [d,g] vs):∃v u,vs=[v,u]/\Rep K w d v/\Rep K w g u:=by
 obtain⟨x,r,rfl,h1,y,a,rfl,h2,rfl⟩:=h;exact⟨x,y,rfl,h1,h2⟩
noncomputable def ie:D->Option Nat
 |.lst ds=>some ds.length
 |.tup ds=>some ds.length
 |.mZ ns=>some ns.length
 |.dct ks _=>some ks.length
 |.str z=>if z.length<=yag then some z.length else none
 |_=>none
def Ma:AN:=λa S Q=>∃d n,a=[d]/\ie (aX S d)=some n/\Q (.dat (.int n)) S
theorem fk:s9 X (.builtin "len") Ma:=⟨mC (V7 L2.HJ L2.Dr) λo H Q h=>by
 let⟨w,u,S,x,ok,rep,⟨d,n,rfl,e,q⟩,bk⟩:=h;let⟨v,rfl,j⟩:=jz rep;cases z:aX S d with
 |lst u=>
  rw[z] at e;have e  :=by simpa[ie] using e
  let⟨a,o,rfl,h1,h2⟩:=bC ok j z;exact .inl ⟨_,n,rfl,.inl ⟨o,cW.of h1,by rw[h2.length,e]⟩,bk.dat .refl ok .int q⟩
 |tup u=>
  rw[z] at e;have e  :=by simpa[ie] using e
  let⟨a,o,rfl,h1,h2⟩:=di ok j z;exact .inl ⟨_,n,rfl,.inr ⟨o,h1,by rw[h2.length,e]⟩,bk.dat .refl ok .int q⟩
 |mZ ns=>
  have e  :=by simpa[ie] using e
  let⟨a,rfl,h1⟩:=kh ok j z;exact .inl ⟨_,n,rfl,.inl ⟨_,h1,by simp_all⟩,bk.dat .refl ok .int q⟩
 |str y=>
  rw[z] at e;simp only[ie] at e;split at e
  next hl=>
   cases e;exact .inl ⟨_,_,rfl,(by rw[b9 j z];exact⟨hl,rfl⟩),bk.dat .refl ok .int q⟩
  simp_all
 |dct ks u=>
  rw[z] at e;have e  :=by simpa[ie] using e
  let⟨a,s,rfl,h1,h2,_⟩:=eK ok j z;refine .inr ⟨a,s,rfl,h1,?_⟩;rw[<-zbF,h2,e];exact bk.dat .refl ok .int q
 |_=>rw[z] at e;simp[ie] at e⟩
noncomputable def R5:D->Option String
 |.bB=>some "NoneType"
 |.bl _=>some "bool"
 |.int _=>some "int"
 |.str _=>some "str"
 |.tup _=>some "tuple"
 |.lst _=>some "list"
 |_=>none
noncomputable def T9(d:D)(T:String):Option Bool:=(R5 d).bind λt=>if T=="str"||T=="int"||T=="bool"||T=="tuple"||T=="list" then some (t==T||(t=="bool"&&T=="int")) else none
def Mb:AN:=λa S Q=>∃d T b,a=[d,.ty T]/\T9 (aX S d) T=some b/\Q (.dat (.bl b)) S
def OD(ok:Ok K w H S)(h:Rep K w d v)(e:R5 (aX S d)=some g):lg K H v (.type g)∨g="tuple"/\∃a o,v=.ref a/\fR K H a o:=by
 cases z:aX S d with
 |lst ds=>
  rw[z] at e;cases e;let⟨a,j,rfl,h1,h2⟩:=bC ok h z;exact .inl (.lst h1)
 |tup ds=>
  rw[z] at e;cases e;let⟨a,j,rfl,h1,h2⟩:=di ok h z;exact .inr ⟨rfl,a,j,rfl,h1⟩
 |bB=>rw[z] at e;cases e;rw[JU h z];exact .inl .bB
 |bl b=>rw[z] at e;cases e;rw[gF h z];exact .inl (.bl b)
 |int b=>rw[z] at e;cases e;rw[cM h z];exact .inl (.int b)
 |str b=>rw[z] at e;cases e;rw[b9 h z];exact .inl (.str b)
 |_=>rw[z] at e;simp[R5] at e
def QD(a:g="NoneType"∨g="bool"∨g="int"∨g="str"∨g="tuple"∨g="list")(e:(if T=="str"||T=="int"||T=="bool"||T=="tuple"||T=="list" then some (g==T||(g=="bool"&&T=="int")) else none)=some b):PySem.W.kitOne K (.type g) (.type T)=some b:=by
 split at e
 next hT=>
  simp only[zbR,beq_iff_eq] at hT;cases e;rcases hT with(((rfl|rfl)|rfl)|rfl)|rfl<;>obtain rfl|rfl|rfl|rfl|rfl|rfl:=a<;>rfl
 simp_all
def OF(e:R5 d=some g):g="NoneType"∨g="bool"∨g="int"∨g="str"∨g="tuple"∨g="list":=by
 cases d<;>simp[R5] at e<;>subst e<;>simp
def Ds:cJ X (.builtin "isinstance") (λx H Q=>∃(a:Addr)(u:List V)(T:String)(b:Bool),x=[.ref a,.ty T]/\fR X.K H a u/\PySem.W.kitOne X.K (.type "tuple") (.type T)=some b/\Q (.bl b) H):=by
 intro y s L H x O Q I r h;let⟨a,u,T,b,rfl,F,G,q⟩:=h;let⟨v,C,rfl,E,j⟩:=vals2 r;cases FP.2 C j;cases(show v=Value.ref a from E);let⟨_,_,⟨o,h1,h2,_⟩,_⟩:=I.tuple F;exact zbU PySem.W.kitx_tuple I.lT ⟨o,h1,h2⟩ G (λz=>nomatch z) λtk=>⟨.bl b,H,I.tok tk,rfl,q⟩
theorem Nt:s9 X (.builtin "isinstance") Mb:=⟨mC (V7 L2.HK Ds) λy H Q h=>by
 let⟨w,C,S,E,ok,rep,⟨d,T,b,rfl,e,q⟩,bk⟩:=h;let⟨v,u,rfl,s,j⟩:=FI rep;unfold T9 at e;cases z:R5 (aX S d) with
 |none=>rw[z] at e;cases e
 |some t=>
  rw[z] at e;have kt:=QD (K:=X.K) (OF z) e;obtain ty|⟨rfl,a,o,rfl,x⟩:=OD ok s z
  ·exact .inl ⟨v,.ty T,_,_,b,(by rw[FJ j rfl]),FP.1,FP.2,ty,kt,bk.dat .refl ok .bl q⟩
  ·exact .inr ⟨a,o,T,b,(by rw[FJ j rfl]),x,kt,bk.dat .refl ok .bl q⟩⟩
def uU:AN:=λa S Q=>∃d,a=[d]/\match aX S d with
 |.lst es=>Q (.new (.lst es)) S
 |.tup es=>Q (.new (.lst es)) S
 |.mZ ns=>Q (.new (.lst (ns.map D.int))) S
 |_=>False
def we:s9 X (.type "list") uU:=⟨mC L2.uM λo H Q h=>by
 let⟨w,u,S,x,ok,rep,⟨d,rfl,q⟩,bk⟩:=h;let⟨v,rfl,s⟩:=jz rep;split at q
 next es z=>
  let⟨a,o,rfl,h1,h2⟩:=bC ok s z;refine⟨a,o,rfl,.inl (cW.of h1),λp j=>bk (.new (.lst _)) S _ w _ .refl (ok.alloc j) (ok.fresh j ⟨_,rfl,h2⟩) q⟩
 next es z=>
  let⟨a,o,rfl,h1,h2⟩:=di ok s z;refine⟨a,o,rfl,.inr h1,λp j=>bk (.new (.lst _)) S _ w _ .refl (ok.alloc j) (ok.fresh j ⟨_,rfl,h2⟩) q⟩
 next ns z=>
  let⟨a,rfl,h1⟩:=kh ok s z;refine⟨a,_,rfl,.inl h1,λp j=>bk (.new (.lst _)) S _ w _ .refl (ok.alloc j) (ok.fresh j ⟨_,rfl,jf ns⟩) q⟩
 next=>exact q.elim⟩
def qu:AN:=λa S Q=>∃d,a=[d]/\match aX S d with
 |.lst es=>Q (.dat (.tup es)) S
 |.tup es=>Q (.dat (.tup es)) S
 |_=>False
def ji:s9 X (.type "tuple") qu:=⟨mC L2.ri λs H Q h=>by
 let⟨w,F,S,G,ok,rep,⟨d,rfl,q⟩,bk⟩:=h;let⟨v,rfl,u⟩:=jz rep;split at q
 next es z=>
  let⟨a,s,rfl,h1,h2⟩:=bC ok u z;refine⟨a,s,rfl,.inl ⟨cW.of h1,λp C=>?_⟩⟩;let⟨E,y,x,j⟩:=ok.pQ C h2;exact bk.dat y x j q
 next es z=>
  let⟨a,s,rfl,h1,h2⟩:=di ok u z;refine⟨a,s,rfl,.inr ⟨h1,?_⟩⟩;cases d<;>simp only[aX] at z
  case tup=>cases z;exact bk.dat .refl ok u q
  case loc n=>split at z<;>first|(rename_i o _;cases o<;>simp[MO.d] at z)|cases z
  all_goals cases z
 next=>exact q.elim⟩
def U5:AN:=λa S Q=>∃i j,a=[.int i,.int j]/\Q (.dat (.int (if j> i then j else i))) S
def Ie:AN:=λa S Q=>∃i j,a=[.int i,.int j]/\Q (.dat (.int (if j<i then j else i))) S
def Qo(s:X.calm=true):s9 X (.builtin "max") U5:=⟨mC (L2.Dq s) λx H Q h=>by
 let⟨w,y,S,C,ok,rep,⟨i,j,rfl,q⟩,bk⟩:=h;let⟨v,u,rfl,o,a⟩:=FI rep;refine⟨i,j,by rw[bP o rfl,bP a rfl],bk.dat .refl ok .int q⟩⟩
def Gg(s:X.calm=true):s9 X (.builtin "min") Ie:=⟨mC (L2.Dp s) λx H Q h=>by
 let⟨w,y,S,C,ok,rep,⟨i,j,rfl,q⟩,bk⟩:=h;let⟨v,u,rfl,o,a⟩:=FI rep;refine⟨i,j,by rw[bP o rfl,bP a rfl],bk.dat .refl ok .int q⟩⟩
end
abbrev AM:=D->List D->aq->AK->Prop
structure VC(X:Cx)(id:String)(r:AM):Prop where
 p:DW X id (UX X.K r)
def K7(T:String):D->Prop
 |.lst _=>T="list"
 |.str _=>T="str"
 |.mZ _=>T="list"
 |.dct _ _=>T="dict"
 |_=>False
def ou(T:String)(r:AM)(a:AE)(b:AA):AE:=λj S Q=>a j S λx o=>K7 T (aX o x.d)/\b j o λq s=>r x.d q s Q
section
variable {w:Wd}{d:D}
def Sg(ok:Ok K w H S)(h:Rep K w d v)(t:K7 T (aX S d)):VF K T v H:=by
 cases z:aX S d with
 |lst ds=>
  rw[z] at t;cases t;let⟨a,o,rfl,h1,h2⟩:=bC ok h z;exact .inl ⟨rfl,o,cW.of h1⟩
 |str y=>rw[z] at t;cases t;rw[b9 h z];exact rfl
 |mZ ns=>
  rw[z] at t;cases t;let⟨a,rfl,h1⟩:=kh ok h z;exact .inl ⟨rfl,_,h1⟩
 |dct ks ds=>
  rw[z] at t;cases t;let⟨a,j,rfl,h1,_⟩:=eK ok h z;exact .inr (.inr (.inl ⟨rfl,.inl ⟨j,h1⟩⟩))
 |_=>rw[z] at t;exact t.elim
def VS:∀x H Q,bH K (ou T r g k) x H Q->VH K T (UX K r) (bH K g) (q9 K k) x H Q:=by
 intro x H Q z;let⟨w,C,S,U,ok,env,q,bk⟩:=z;refine⟨w,C,S,_,ok,env,q,.go λG P v1 F X v s j=>x0_1 λty I=>⟨Sg s j ty,?_⟩⟩;refine⟨F,C,P,_,s,env.le v,I,λL O vs E W u y o q2=>?_⟩;refine⟨E,G.d,L,O,U,y,j.le u,o,q2,bk.le (v.trans u)⟩
def dz(u:PlainAttrs T)(slot:Slot T name F)(s:typeOf (.builtin F)=pure (.type "method_descriptor"))(y:VC X F r)(x:GE X g to)(C:GA X (e::k) z)(j:autoParam (attributeBase g name X.env (eval g X.env)=eval g X.env) r0)(v:autoParam ((e::k).all notStar=true) r0)(q:autoParam (decide ((e::k).length+0+0<30)=true) r0)(a:autoParam ((apos.endLine==cpos.line)=true) r0):GE X (.Call (.Attribute g name apos) (e::k) [] cpos) (ou T r to z):=⟨mE (L2.P4 u slot s y.p x.p C.p j v q a) VS⟩
def mM{id:String}{t u:V->List V->Hp->VK->Prop}(h:DW X id t)(m:∀x a H Q,u x a H Q->t x a H Q):DW X id u:=λj s o H x a v y Q I C E q=>h j s o H x a v y Q I C E (m x a H Q q)
def zg(ok:Ok K w H S)(h:Rep K w (.loc n) v)(e:S[n]? =some (some (.lst ds))):∃a j,v=.ref a/\w.r n=some a/\H a=some (.lst j)/\av K w ds j:=by
 let⟨a,h1,rfl⟩:=h;obtain⟨y,u,o,x,s,j,rfl,q⟩:=ok.live n _ e;rw[h1] at o;cases o;refine⟨a,j,rfl,h1,s,q⟩
def ko(h:av K w ds xs):mK K w (.lst ds) (.lst xs):=⟨xs,rfl,h⟩
def k9:AM:=λx j S Q=>∃n a e,x=.loc n/\j=[e]/\S[n]? =some (some (.lst a))/\a.length<yag/\Q (.dat .bB) (S.set n (some (.lst (a++[e]))))
def cH:VC X "list.append" k9:=⟨mM (X:=X) (t:=AW) L2.CY λx I H Q h=>by
 let⟨w,d,O,S,P,ok,C,y,⟨n,L,e,rfl,rfl,o,E,q⟩,bk⟩:=h;let⟨a,s,rfl,F,G,j⟩:=zg ok C o;let⟨v,rfl,u⟩:=jz y;refine⟨a,s,v,rfl,rfl,G,by rw[j.length];exact E,bk.dat .refl (ok.put o F (ko (j.snoc u))) .bB q⟩⟩
def FU(K:yaJ):V->List V->Hp->VK->Prop:=λx vs H Q=>∃l b j a,x=.ref l/\vs=[.ref b]/\H l=some (.lst j)/\fR K H b a/\j.length+a.length<=yag/\Q .bB (upd H l (.lst (j++a)))
def Lg(y:¬(!r.isEmpty&&Builtin.List.listTooLong (r.size+z.size))=true)(h1:r.size<=yag)(h2:r.size+z.size<=yag+1):
  Meets (Builtin.«list.extend» ⟨[.ref l,.ref g],[]⟩) (λ_ R s=>s.heap.get? l=some {cls:=.type "list",dict:=none,data:=.seq r n,slots:=#[]}/\s.heap.get? g=some {cls:=.type "tuple",dict:=F,data:=.seq z k,slots:=sl}/\R (.ok (.ret Value.none)) {s with heap:=s.heap.update l (Obj.mapSeq λx=>x++z),toks:=s.toks}):=
 .of_wp λprog w A R s h=>by
  let⟨o,u,q⟩:=h
  wp_walk using(wpAny_updateSeq o rfl),AutoSeq1.wpAny_loadPart' o,AutoSeq1.wpAny_loadPart' u
  refine⟨_,rfl,q⟩
def yY:DW X "list.extend" (FU X.K):=by
 intro E s Z H x vs v us Q I O P h;let⟨l,b,xs,zs,rfl,rfl,G,U,hz,q⟩:=h;cases O;obtain⟨u,rfl,ru⟩:=P.one;cases ru;obtain⟨z,j,n,r,hl,e⟩:=I.ze G;obtain⟨a,C,⟨⟨c2,dd,da,sl⟩,W,y,n2,Y⟩,z2⟩:=I.tuple U;subst y Y;have S:=C.length;have o:j.toArray.size+a.toArray.size<=yag:=by simp_all
 have L:¬(!j.toArray.isEmpty&&Builtin.List.listTooLong (j.toArray.size+a.toArray.size))=true:=by
  rw[pL o];simp
 refine call_meets F.slot_list_extend ⟨_,e,rfl⟩ F.entry_list_extend (F.args_list_extend_2 _ _)
  (Lg L (by simp_all) (by lia)) ⟨e,W,?_⟩
 refine⟨.bB,_,I.KY G e (by simp) (r.append C) ?_,rfl,q⟩;simp_all
def Mc:AM:=λx j S Q=>∃n a e fs,x=.loc n/\j=[e]/\S[n]? =some (some (.lst a))/\(aX S e=.lst fs∨aX S e=.tup fs)/\a.length+fs.length<=yag/\Q (.dat .bB) (S.set n (some (.lst (a++fs))))
def kM:VC X "list.extend" Mc:=⟨mM (DW.or (X:=X) (r:=AV) L2.CW yY) λx U H Q h=>by
 let⟨w,d,Y,S,Z,ok,P,O,⟨n,W,e,fs,rfl,rfl,y,j,G,q⟩,bk⟩:=h;let⟨a,E,rfl,I,L,s⟩:=zg ok P y;let⟨v,rfl,F⟩:=jz O;obtain j|j:=j
 ·let⟨b,u,rfl,C,o⟩:=bC ok F j;exact .inl ⟨a,b,E,u,rfl,rfl,L,C,by rw[s.length,o.length];exact G,bk.dat .refl (ok.put y I (ko (s.append o))) .bB q⟩
 ·let⟨b,u,rfl,C,o⟩:=di ok F j;exact .inr ⟨a,b,E,u,rfl,rfl,L,C,by rw[s.length,o.length];exact G,bk.dat .refl (ok.put y I (ko (s.append o))) .bB q⟩⟩
def U7(i:Nat)(a:AE)(r:A2):AS:=λD j S=>∃x,j[i]? =some (some x)/\a j S λy q=>r x y.d q λz o=>D.nx (j.set i (some z.d)) o
def RC:A2:=λx y S Q=>∃i j,x=.int i/\y=.int j/\Q (.dat (.int (i+j))) S
def CH(hN:X.N.Nodup)(F:X.N[i]? =some x)(E:Loc X.env.scope x)(I:GE X e g)(G:X.fn x=true∨X.env.scope.names.lookup x=some .local:=by first|exact .inl rfl|exact .inr rfl|assumption):
  GS X (.AugAssign (.Name x pos') .Add e pos) (U7 i g RC):=⟨mS (L2.P0 hN F E I.p L2.QM G) λD Q H h=>by
 let⟨w,y,S,W,ok,env,⟨d,hd,q⟩,bk⟩:=h;let⟨v,h1,h2⟩:=env.2 i d hd;refine⟨v,h1,w,y,S,_,ok,env,q,.go λU O v1 C P o u j s=>?_⟩;let⟨a,b,rfl,L,s⟩:=s;refine⟨a,b,bP h2 rfl,bP j L,bk.nx _ O _ C P o u ((env.le o).set .int i) s⟩⟩
end
end M
namespace M
open PySem L2
theorem bE(I:List M.D->aV->aq->Prop)(s:∀δ S,I [] δ S->d S/\r.nx δ S)(u:∀x j δ S N,I (x::j) δ S->(∀a o,I j a o->N a o)->d S/\g x δ S λq y=>k {r with nx:=N,ct:=N,bk:=r.nx} q y):∀ds δ S,I ds δ S->jB d g k ds r δ S
 |[],δ,S,h=>s δ S h
 |x::j,δ,S,h=>u x j δ S _ h λa o v=>bE I s u j a o v
theorem kY(I:List M.D->List M.D->aV->aq->Prop)(v:∀a δ S,I [] a δ S->d S/\J a S)(y:∀x s a δ S (N:List M.D->aV->aq->Prop),I (x::s) a δ S->(∀j o u,I s j o u->N j o u)->d S/\g x δ S λq G=>k q G λb C=>if b=true then z q C λr F=>a.length<yag/\N (a++[r.d]) q F else N a q C):
  ∀ds a δ S,I ds a δ S->gq d g k z ds a δ S J
 |[],a,δ,S,h=>v a δ S h
 |x::s,a,δ,S,h=>y x s a δ S (λj o u=>gq d g k z s j o u J) h λj o u E=>kY I v y s j o u E
theorem comp_map{P:aq->Prop}{e:AE}{Q:List M.D->aq->Prop}{δ:aV}{S:aq}(f)(s:P S):∀(o a)(j),j.set 0 none=δ.set 0 none->(∀x∈o,∀Q:AK,Q (.dat (f x)) S->e (δ.set 0 (some x)) S Q)->a.length+o.length<=yag->Q (a++o.map f) S->
  gq P (cS 0) L3 e o a j S Q
 |[],a,j,_,_,_,q=>⟨s,by simpa using q⟩
 |x::o,a,j,hd,h,hl,q=>by
  refine⟨s,?_⟩;have e1  :=by
   have:=congrArg (λl=>l.set 0 (some x)) hd;simpa[List.set_set] using this
  simp only[cS];rw[e1];refine h x (by simp) _ ⟨by simp at hl;lia,?_⟩;refine comp_map f s o _ _ (by simp) (λy u=>h y (by simp[u])) (by simp at hl⊢;lia) ?_;simpa[R.d] using q
def tO(h:b7 d=true):aX S d=d:=by
 cases d<;>first|rfl|simp[b7] at h
def EY:aX S (.int d)=.int d:=rfl
def EU:aX S (.str d)=.str d:=rfl
def JW:aX S (.bl d)=.bl d:=rfl
def EW:aX S .bB=.bB:=rfl
def ET:aX S (.tup d)=.tup d:=rfl
def iB:aX S (.lst d)=.lst d:=rfl
def EV:aX S (.mZ d)=.mZ d:=rfl
def e8{d:D}:(R.dat d).d=d:=rfl
def FQ:(R.new g).d=g.d:=rfl
def Bg:(MO.lst ds).d=.lst ds:=rfl
def KZ:aLe (.int d) (.int g) S k=k (.dat (.bl (decide (d<=g)))) S:=rfl
def KU:Xg (.int d) (.int g) S k=k (.dat (.bl (decide (d<g)))) S:=rfl
def Ig:aI d g (.int k) (.int r) S z=(d k r/\z (.dat (g k r)) S):=by
 refine propext ⟨λo=>?_,λh=>⟨k,r,rfl,rfl,h⟩⟩;let⟨a,b,s,q,h⟩:=o;simp_all
def H9:Me (.int d) (.int g) S k=k (.dat (.int (d+g))) S:=rfl
def HZ:Me (.lst d) (.lst g) S k=(d.length+g.length<=yag/\k (.new (.lst (d++g))) S):=rfl
def Lk:Sa (.int d) (.int g) S k=k (.dat (.bl (decide (d=g)))) S:=rfl
def Lj:Sa (.str d) (.str g) S k=k (.dat (.bl (decide (d=g)))) S:=rfl
def OH:fB (.bl b)=some b:=rfl
def JI:fB (.lst ds)=some (!ds.isEmpty):=rfl
def JG:fB (.tup ds)=some (!ds.isEmpty):=rfl
def t9(h:b7 d=true):out n S (.dat d)=some (.dat d):=by
 have b:=BX n d h;cases d<;>first|(simp[b7] at h;done)|(simp only[out];rw[yIp b])
def qh:chg S S:=λ_ _ _ e=>.inl e
def cN(h:b7 d=true)(q:g (.dat d) S):ret S S (.dat d) g:=⟨_,t9 h,qh,by rw[zbu];exact q⟩
def PJ:ret S S (.dat (.bl b)) d=d (.dat (.bl b)) S:=by
 refine propext ⟨x1_2 λr h1 _ h2=>?_,cN rfl⟩;simp[out,jT] at h1;subst h1;rw[zbu] at h2;exact h2
def Km:ret S S (.dat (.int d)) g=g (.dat (.int d)) S:=by
 refine propext ⟨x1_2 λr h1 _ h2=>?_,cN rfl⟩;simp[out,jT] at h1;subst h1;rw[zbu] at h2;exact h2
def gJ(h:bX ds=true)(q:d (.new (.lst ds)) S):ret S S (.new (.lst ds)) d:=
 ⟨_,by simp only[out];rw[yIp (show jw _ (.lst ds)=true from cV _ ds h)],qh,by rw[zbu];exact q⟩
def nS(j:S.length<=n)(h:bX ds=true)(e:S'[n]? =some (some (.lst ds)))(a:S'.take S.length=S)(q:d (.new (.lst ds)) S):ret S S' (.dat (.loc n)) d:=by
 refine⟨.new (.lst ds),?_,λk o s e=>.inl ?_,by rw[a];exact q⟩
 ·simp only[out];rw[yIn (by simp_all),e];show(if jw S.length (.lst ds)=true then some (R.new (.lst ds)) else none)=_;rw[yIp (show jw _ (.lst ds)=true from cV _ ds h)]
 grind
noncomputable def dO(x:Str):Bool:=x.cps.toList.all (λc=>decide (c<128))&&decide (x.length<=100)
noncomputable def u7:Nat->D->Bool
 |_,.bB=>true
 |_,.bl _=>true
 |_,.int _=>true
 |_,.str x=>dO x
 |n+1,.tup ds=>decide (ds.length<=100)&&ds.all (u7 n)
 |n+1,.lst ds=>decide (ds.length<=100)&&ds.all (u7 n)
 |_,_=>false
def iI(h:dO x=true):PyData.strOk x=true:=by
 delta dO at h;rw[zbB] at h;delta PyData.strOk;rw[<-Array.all_toList];refine zbt.mpr λc a=>?_;have:=of_decide_eq_true (zbt.mp h.1 c a);exact yDt (by lia)
def Eg:∀(n)(d),u7 n d=true->b7 d=true/\(py d).canLay0=true/\(py d).depth<=n:=by
 intro n
 induction n with
 |zero=>
  intro d h;cases d<;>first|(simp[u7] at h;done)|skip
  ·simp[b7,py,PyData.canLay0,PyData.depth]
  ·simp[b7,py,PyData.canLay0,PyData.depth]
  ·simp[b7,py,PyData.canLay0,PyData.depth]
  ·simp[b7,py,PyData.canLay0,PyData.depth,iI h]
 |succ n ih=>
  have all:∀a,(a.all (u7 n))=true->bX a=true/\PyData.canLayAll0 (gb a)=true/\PyData.depthAll (gb a)<=n:=by
   intro a
   induction a with
   |nil=>simp[bX,gb,PyData.canLayAll0,PyData.depthAll]
   |cons d a ih2=>
    intro h;rw[zcg,zbB] at h;let⟨o,j,q⟩:=ih d h.1;let⟨u,s,v⟩:=ih2 h.2;refine⟨by simp[bX,o,u],by simp[gb,PyData.canLayAll0,j,s],?_⟩;simp only[gb,PyData.depthAll];lia
  intro d h;cases d<;>first|(simp[u7] at h;done)|skip
  ·simp[b7,py,PyData.canLay0,PyData.depth]
  ·simp[b7,py,PyData.canLay0,PyData.depth]
  ·simp[b7,py,PyData.canLay0,PyData.depth]
  ·simp[b7,py,PyData.canLay0,PyData.depth,iI h]
  ·simp only[u7,zbB] at h;let⟨o,j,q⟩:=all _ h.2;refine⟨by simpa[b7] using o,by simpa[py,PyData.canLay0] using j,by simp only[py,PyData.depth];lia⟩
  ·simp only[u7,zbB] at h;let⟨o,j,q⟩:=all _ h.2;refine⟨by simpa[b7] using o,by simpa[py,PyData.canLay0] using j,by simp only[py,PyData.depth];lia⟩
def Ef(h:u7 n d=true):b7 d=true:=(Eg n d h).1
def gC(h:u7 n d=true)(j:n<=64):fit d=true:=by
 let⟨a,b,c⟩:=Eg n d h;delta fit PySem.SeqAt.shaped;rw[a,b,yDt (by lia)];rfl
noncomputable def Ua(x:D)(s:Str):Bool:=match x with
 |.str a=>decide (a=s)
 |_=>false
noncomputable def Js(x:D)(ss:List Str):Bool:=ss.any λs=>Ua x s
def Li(h:b7 d=true):PyData.eqv (.str g) (py d)=Ua d g:=by
 cases d<;>first|(simp[b7] at h;done)|simp only[py,PyData.eqv,Ua]
 rename_i a;by_cases e:g=a
 ·subst e;simp
 ·rw[yDf (λz=>e z.symm)];exact beq_eq_false_iff_ne.mpr e
theorem p7(h:b7 d=true):∀ss:List Str,inD d (ss.map D.str)=Js d ss
 |[]=>rfl
 |s::ss=>by
  have:=p7 h ss;unfold inD Js at this⊢;rw[zcf,zce,zce,this];rw[show PyData.eqv (py (.str s)) (py d)=Ua d s from Li h]
def p5(h:u7 n d=true)(o:n<=64)(j:ss.all dO=true)(q:g (.dat (.bl (neg != Js d ss))) S)(s:autoParam (ss.length<=100) r1):sX neg d (.tup (ss.map D.str)) S g:=by
 have a:=Ef h;delta sX;rw[tO a];refine⟨gC h o,gC (n:=1) ?_ (by decide),?_⟩
 ·simp only[u7,List.all_map,zbF,yDt s];exact j
 ·rw[p7 a];exact q
def su(h:u7 n d=true)(o:n<=64)(j:ss.all dO=true)(q:g (.dat (.bl (neg != Js d ss))) S)(s:autoParam (ss.length<=100) r1):sX neg d (.lst (ss.map D.str)) S g:=by
 have a:=Ef h;delta sX;rw[tO a];refine⟨gC h o,gC (n:=1) ?_ (by decide),?_⟩
 ·simp only[u7,List.all_map,zbF,yDt s];exact j
 ·rw[p7 a];exact q
end M
namespace M
open PySem PySem.Spec PyProof.Rows L2
theorem i6:∀{vs:List yai}{ss:List Str},StrsAre vs ss->Vals (ss.map V.str) vs
 |_,_,.nil=>.nil
 |_,_,.cons y t h=>.cons ⟨t,rfl⟩ (i6 h)
def PK(K:yaJ):List V->Hp->VK->Prop:=λq H Q=>∃(a:Addr)(o:List Str),q=[.ref a]/\cW K H a (o.map V.str)/\o.length<64/\∀(p)(j),H p=none->j.Perm o->sortedS j=true->Q (.ref p) (upd H p (.lst (j.map V.str)))
def zH:cJ X (.builtin "sorted") (PK X.K):=by
 intro C s Y H Z us Q I r h;let⟨a,G,rfl,P,hl,q⟩:=h;let⟨u,rfl,ru⟩:=vals1 r;cases ru;let⟨v,y,⟨o,n,e,O,hd,x⟩,_⟩:=I.list P;have E:v.length=G.length:=by have:=y.length;simp_all
 refine sorted_strs ⟨o,e,O,n,x⟩ (j7 y) (by simp_all) λout j W F U=>?_;let⟨S,L⟩:=sortedAll_at s.heap v out;have hz:(j.map V.str).length<=yag:=by rw[zbF,F.length_eq,yaf];lia
 refine⟨.ref (s.heap.objs.size+1),_,I.laid (o:=.lst (j.map V.str)) (λb ob q=>sortedAll_old q) (zcC _) ⟨hz,out.toList,S,i6 W,L⟩,rfl,q _ j (I.hok.fresh (zcC _)) F U⟩
def PL(K:yaJ):List V->Hp->VK->Prop:=λo H Q=>∃(a:Addr)(ns:List Int),o=[.ref a]/\cW K H a (ns.map V.int)/\ns.length<64/\∀(p:Addr)(j:List Int),H p=none->j.Perm ns->j.Pairwise (· <=·)->Q (.ref p) (upd H p (.lst (j.map V.int)))
def zI:cJ X (.builtin "sorted") (PL X.K):=by
 intro C s W H Y Z Q I r h;let⟨a,ns,rfl,O,hl,q⟩:=h;let⟨u,rfl,ru⟩:=vals1 r;cases ru;let⟨v,y,⟨o,n,e,L,hd,x⟩,_⟩:=I.list O;have E:v.length=ns.length:=by have:=y.length;simp_all
 refine sorted_ints ⟨o,e,L,n,x⟩ (intsAre_of y) (by simp_all) λout j U F S=>?_;let⟨P,G⟩:=sortedAll_at s.heap v out;have hz:(j.map V.int).length<=yag:=by rw[zbF,F.length_eq,yaf];lia
 refine⟨.ref (s.heap.objs.size+1),_,I.laid (o:=.lst (j.map V.int)) (λb ob q=>sortedAll_old q) (zcC _) ⟨hz,out.toList,P,rD U,G⟩,rfl,q _ j (I.hok.fresh (zcC _)) F S⟩
def L5:AN:=λq S Q=>∃d,q=[d]/\
 ((∃o:List Str,aX S d=.lst (o.map D.str)/\o.length<64/\∀a:List Str,a.Perm o->sortedS a=true->Q (.new (.lst (a.map D.str))) S)∨(∃ns:List Int,aX S d=.lst (ns.map D.int)/\ns.length<64/\∀j:List Int,j.Perm ns->j.Pairwise (· <=·)->Q (.new (.lst (j.map D.int))) S))
theorem jL:∀{ss:List Str}{a:List V},av d g (ss.map D.str) a->a=ss.map V.str
 |[],a,h=>by simpa[av] using h
 |s::ss,a,h=>by
  let⟨x,r,rfl,h1,h2⟩:=h;rw[tV h1 rfl,jL h2];rfl
theorem oU:∀{ns:List Int}{a:List V},av d g (ns.map D.int) a->a=ns.map V.int
 |[],a,h=>by simpa[av] using h
 |s::ss,a,h=>by
  let⟨x,r,rfl,h1,h2⟩:=h;rw[bP h1 rfl,oU h2];rfl
theorem eN:∀ss:List Str,av d g (ss.map D.str) (ss.map V.str)
 |[]=>by simp[av]
 |s::ss=>by
  refine⟨_,_,rfl,by simp[Rep],eN ss⟩
def Gf:s9 X (.builtin "sorted") L5:=⟨mC (V7 zH zI) λC H Q h=>by
 let⟨w,G,S,I,ok,rep,⟨d,rfl,q⟩,bk⟩:=h;let⟨v,rfl,E⟩:=jz rep;rcases q with⟨F,z,u,q⟩|⟨ns,z,u,q⟩
 ·let⟨a,C,rfl,h1,h2⟩:=bC ok E z;have:=jL h2;subst this;exact .inl ⟨a,F,rfl,cW.of h1,u,λp j s y x=>bk (.new (.lst _)) S _ w _ .refl (ok.alloc s) (ok.fresh s ⟨_,rfl,eN j⟩) (q j y x)⟩
 ·let⟨a,C,rfl,h1,h2⟩:=bC ok E z;have:=oU h2;subst this;exact .inr ⟨a,ns,rfl,cW.of h1,u,λp o s y x=>bk (.new (.lst _)) S _ w _ .refl (ok.alloc s) (ok.fresh s ⟨_,rfl,jf o⟩) (q o y x)⟩⟩
section
variable {o:Expr}{es:List Expr}{p p2 pos2 tpos:Pos}
noncomputable def putD(f:Str)(d:D):List Str->List D->List Str×List D
 |k::ks,e::ds=>if k=f then(k::ks,d::ds) else(k::(putD f d ks ds).1,e::(putD f d ks ds).2)
 |_,_=>([f],[d])
theorem AY(g:Rep z F d L):∀(fs)(ds),av z F ds (fs.map (·.2))->(ic J L fs).map (·.1)=(putD J d (fs.map (·.1)) ds).1/\av z F (putD J d (fs.map (·.1)) ds).2 ((ic J L fs).map (·.2))
 |[],ds,h=>by
  cases ds with
  |nil=>exact⟨rfl,.cons g .nil⟩
  |cons _ _=>exact⟨rfl,.cons g .nil⟩
 |(k,x)::fs,ds,h=>by
  cases ds with
  |nil=>simp[av] at h
  |cons e ds=>
   let⟨y,r,h1,h2,j⟩:=h;have u:=(List.cons.inj h1).1;have s:=(List.cons.inj h1).2;subst u;subst s;obtain⟨C,q⟩:=AY g fs ds j;simp only[ic,zcf,putD];by_cases a:k=J
   ·rw[yIp a,yIp a];exact⟨rfl,.cons g j⟩
   ·rw[yIn a,yIn a];exact⟨by simp_all,.cons h2 q⟩
theorem wF{K:yaJ}{w:Wd}{f:Str}{d:D}:∀(fs:List (Str×V))(ds),av K w ds (fs.map (·.2))->((fs.map (·.1)).zip ds).lookup f=some d->∃v,fs.lookup f=some v/\Rep K w d v
 |[],ds,h,q=>by simp at q
 |(k,x)::fs,ds,h,q=>by
  cases ds with
  |nil=>simp at q
  |cons e ds=>
   let⟨y,r,h1,h2,j⟩:=h;have u:=(List.cons.inj h1).1;have s:=(List.cons.inj h1).2;subst u;subst s;rw[zcf,zaR,zbs] at q;rw[zbs];split at q
   ·rename_i a;have  :=by simpa using q
    subst this;refine⟨x,by rw[a],h2⟩
   ·rename_i a;let⟨v,e,r⟩:=wF fs ds j q;refine⟨v,by rw[a];exact e,r⟩
theorem se:∀(fs:List (Str×V)),d ∉ fs.map (·.1)->fs.lookup d=none
 |[],_=>rfl
 |(k,x)::fs,h=>by
  grind
def uw(ok:Ok K d H S)(h:Rep K d (.loc n) v)(e:S[n]? =some (some (.ins C g ds))):
  ∃a j fs,v=.ref a/\d.r n=some a/\H a=some (.ins C j fs)/\fs.map (·.1)=g/\av K d ds (fs.map (·.2)):=by
 let⟨a,h1,rfl⟩:=h;obtain⟨F,u,q,E,y,j,fs,rfl,x,s⟩:=ok.live n _ e;rw[h1] at q;cases q;refine⟨a,j,fs,rfl,h1,y,x,s⟩
def zW(C:Addr)(a:AE)(f:Str):AE:=λu S Q=>a u S λr s=>∃n j q d,r=.dat (.loc n)/\s[n]? =some (some (.ins C j q))/\(j.zip q).lookup f=some d/\Q (.dat d) s
theorem bF(L:GE X e ta)(c:yi X.K C)(nf:dI X.K C g)(O:autoParam (attributeBase e g X.env (eval e X.env)=eval e X.env) r0):GE X (.Attribute e g pos) (zW C ta g):=
 ⟨mE (L2.bF L.p O) λσ H Q h=>by
  let⟨w,y,S,Qa,ok,env,q,bk⟩:=h;refine⟨w,y,S,_,ok,env,q,λr S1 v w1 H1 x s j u=>?_⟩;let⟨n,ks,Z,d,W,U,G,F⟩:=u;subst W;let⟨a,Y,fs,rfl,_,P,I,hd⟩:=uw s j U;subst I;let⟨v,l,E⟩:=wF fs Z hd G;refine⟨a,C,Y,fs,v,rfl,P,c,nf,l,bk.dat x s E F⟩⟩
def AF(C:Addr)(a v:AE)(f:Str):AS:=λD q S=>v q S λy x=>a q x λr u=>∃n j s,r=.dat (.loc n)/\u[n]? =some (some (.ins C j s))/\j.length<1000/\D.nx q (u.set n (some (.ins C (putD f y.d j s).1 (putD f y.d j s).2)))
theorem iE(G:GE X o ta)(hv:GE X value O)(c:yi X.K C)(nf:dI X.K C d)(hs:autoParam (yat value (some (.Attribute o d pos2)) pos.line X.env=pure false) r0):
  GS X (.Assign [.Attribute o d pos2] value pos) (AF C ta O d):=
 ⟨mS (L2.iE G.p hv.p hs) λDx σ H h=>by
  let⟨w,L,S,Da,ok,env,q,bk⟩:=h;refine⟨w,L,S,_,ok,env,q,.go λy S1 v1 W H1 s F v Y=>?_⟩;refine⟨W,L,S1,_,F,env.le s,Y,λr S2 v2 U H2 j x u E=>?_⟩;let⟨n,ks,I,er,P,hl,q2⟩:=E;subst er;let⟨a,Q,fs,rfl,hr,G,hk,hd⟩:=uw x u P;subst hk;obtain⟨i1,Z⟩:=AY (v.le j) fs I hd;refine⟨a,C,Q,fs,rfl,G,c,nf,by simp_all,?_⟩;exact bk.nx _ _ _ U _ (s.trans j) (x.put P hr (o':=.ins C (putD d y.d (fs.map (·.1)) I).1 (putD d y.d (fs.map (·.1)) I).2) ⟨Q,_,rfl,i1,Z⟩) (env.le (s.trans j)) q2⟩
end
structure gW(K:yaJ)(C:Addr)(m qual:Str)(ps:List Str)(st:Stmt):Prop where
 ex:∃f fd,DZ K m qual st f fd/\Meth K C m f/\Binds K fd ps []
structure bV(P:yaj)(w:yak)(K:yaJ)(mg:Str->Option yai)(base:Heap)(k:Nat)(C:Addr)(m:Str)(ps:List Str)(sp:AN):Prop where
 ex:∃f fd,cY P w K mg base lQ k f fd ps (az K sp)/\Meth K C m f/\Binds K fd ps []
def W6(F:DZ K x qual st f fd)(S:ak N ps (ah st))(len:∀ds S Q,sp ds S Q->ds.length=ps.length)(u:∀(f:Addr)(j:yai)(A:yal)(outer:List Env)(s:yah)(H:Hp)(E:XK),aW k (A.deeper (PyProof.Rows.envOfC qual (ah st) s.heap.objs.size f j))->∃a,yh (mz lQ P w K mg base N qual (ah st) f j A outer s H E).Gm (bG st) a/\∀ds S Q,sp ds S Q->a {nx:=λ_ C=>M.ret S C (.dat .bB) Q,rt:=λr C=>M.ret S C r Q} (aO N ds) S):cY P w K mg base lQ (k+1) f fd ps (az K sp):=
 F.ok S (λvs H Q E h=>by
  let⟨w,ds,S,I,ok,rep,q,bk⟩:=h;rw[rep.length];exact len ds S I q) λj A outer s H vs Q E O h=>by
  let⟨a,U,hd⟩:=u f j A outer s H E O;let⟨w,ds,S,I,ok,rep,q,bk⟩:=h;refine⟨_,U.p,w,aO N ds,S,_,ok,jk rep,hd ds S I q,⟨λY C X L W le o env G=>?_,λr C v L W le o y G=>?_,λ_ _ _ _ _ _ _ _ z=>z.elim,λ_ _ _ _ _ _ _ _ z=>z.elim⟩⟩
  ·exact tT (r:=.dat .bB) ok le o (show Rep K L .bB .bB from .bB) G bk
  ·exact tT ok le o y G bk
def Wv(F:gW K C d qual ps st)(S:ak N ps (ah st))(len:∀ds S Q,sp ds S Q->ds.length=ps.length)(j:∀(f)(o)(A)(outer)(s)(H)(E),aW k (A.deeper (PyProof.Rows.envOfC qual (ah st) s.heap.objs.size f o))->∃a,yh (mz lQ P w K mg base N qual (ah st) f o A outer s H E).Gm (bG st) a/\∀ds S Q,sp ds S Q->a {nx:=λ_ q=>M.ret S q (.dat .bB) Q,rt:=λr q=>M.ret S q r Q} (aO N ds) S):bV P w K mg base (k+1) C d ps sp:=by
 obtain⟨f,fd,F,u,v⟩:=F.ex;refine⟨f,fd,W6 F S len j,u,v⟩
section
variable {o:Expr}{es:List Expr}{p:Pos}{k:Nat}{m:Str}
def xT(C:Addr)(m:Str)(sp:AN)(a:AE)(t:AA):AE:=λj S Q=>a j S λr s=>∃n q u,r=.dat (.loc n)/\s[n]? =some (some (.ins C q u))/\m ∉ q/\t j s λes v=>sp (.loc n::es) v Q
def O8:∀F H Q,bH K (xT C m sp g z) F H Q->Ek C m (az K sp) [] d (bH K g) (q9 K z) F H Q:=by
 intro F H Q k;let⟨w,L,S,Qa,ok,env,q,bk⟩:=k;refine⟨w,L,S,_,ok,env,q,λr S1 v P H1 y u s G=>?_⟩;let⟨n,ks,ds,er,hS,X,U⟩:=G;subst er;let⟨g,dx,fs,rfl,W,Z,Y,hd⟩:=uw u s hS;subst Y;refine⟨g,dx,fs,rfl,Z,se fs X,P,L,S1,_,u,env.le y,U,λes S2 vs O H2 x I j q2=>?_⟩;refine⟨O,.loc n::es,S2,Qa,I,?_,q2,bk.le (y.trans x)⟩;rw[zbG];exact .cons (by refine⟨g,x.r _ _ W,rfl⟩) j
theorem aZ(v:GE X o ta)(c:yi X.K C)(D:bV X.prog X.w X.K X.mg X.base k C m ps sp)(s:aW k X.A)(y:GA X (e::es) d)(a:autoParam (yao (e::es) X.env=(false,eval e X.env)::yao es X.env) r0)(j:autoParam ((yau pos (yao es X.env)).any (·.1)=false) r0)(q:autoParam (eval (.Call (.Attribute o m apos) (e::es) [] pos) X.env=(do
   let ov <-eval o X.env
   standAt apos.atName
   let(f,first) <-holding [ov] (yaD ov m pl)
   yaz pos f first (yau pos (yao (e::es) X.env)) (yaF pos (yaE [] X.env)))) r0):
  GE X (.Call (.Attribute o m apos) (e::es) [] pos) (xT C m sp ta d):=by
 obtain⟨f,fd,F,u,x⟩:=D.ex;exact⟨mE (L2.aZ v.p c u F s x .nil rY y.p a j q) O8⟩
theorem iG(U:GE X o ta)(c:yi X.K C)(D:bV X.prog X.w X.K X.mg X.base k C m ps sp)(E:aW k X.A)(O:autoParam (eval (.Call (.Attribute o m apos) [] [] pos) X.env=(do
   let ov <-eval o X.env
   standAt apos.atName
   let(f,first) <-holding [ov] (yaD ov m pl)
   yaz pos f first (yau pos (yao [] X.env)) (yaF pos (yaE [] X.env)))) r0):
  GE X (.Call (.Attribute o m apos) [] [] pos) (xT C m sp ta gu):=by
 let⟨f,fd,F,y,W⟩:=D.ex;exact⟨mE (L2.iG U.p c y F E W .nil rY O) λσ H Q h=>by
  let⟨w,G,S,Qa,ok,env,q,bk⟩:=h;refine⟨w,G,S,_,ok,env,q,λr S1 v I H1 x s j u=>?_⟩;let⟨n,ks,ds,er,Z,y,L⟩:=u;subst er;let⟨a,dx,fs,rfl,E,Y,P,hd⟩:=uw s j Z;subst P;refine⟨a,dx,fs,rfl,Y,se fs y,I,[.loc n],S1,Qa,s,?_,L,bk.le x⟩;exact .cons j .nil⟩
def sW(C:Addr)(sp:AN)(t:AA):AE:=λj S Q=>t j S λes a=>sp (.loc a.length::es) (a++[some (.ins C [] [])]) λr q=>r=.dat .bB/\Q (.dat (.loc a.length)) q
theorem nV(MK:Mk X.K C f)(F:cY X.prog X.w X.K X.mg X.base lQ k f fd ps (az X.K sp))(hb:Binds X.K fd ps [])(hr:aW (k+1) X.A)(hg:Gl X x)(hm:X.mg x=some (.ref C))(ha:GA X (e::es) d)(W:(x==("__debug__":Str))=false:=by decide+kernel)(hs:autoParam ((e::es).all notStar=true) r0):GE X (.Call (.Name x p) (e::es) [] pos) (sW C sp d):=by
 have h2:=hs;rw[zcg,zbB] at h2;refine⟨mE (L2.nV MK F hr hg hm hb .nil rY ha.p W (bW es X.env h2.1) (eW es h2.2)) λσ H Q h=>?_⟩;let⟨w,Z,S,Qa,ok,env,q,bk⟩:=h;refine⟨w,Z,S,_,ok,env,q,λds S1 vs w1 H1 U P u q1 a Y na nd ne=>?_⟩;have I:(upd H1 Y (HO.own a)) a=none:=by rw[aQ (Ne.symm ne)];exact na
 have y:=(P.alloc (o:=.own a) nd)
 let⟨w2,G,nW,j⟩:=store (y.alloc I) (y.fresh I (m:=.ins C [] []) ⟨Y,[],rfl,rfl,.nil⟩);refine⟨w2,_,_,_,nW,by rw[zbG];exact .cons j (u.le G),q1,λr S2 v w3 H3 E O s L=>?_⟩;let⟨er,q4⟩:=L;subst er;have ev:=AQ s rfl;exact⟨ev,bk.dat (U.trans (G.trans E)) O (j.le E) q4⟩
def RB:AS:=λ_ _ _=>False
theorem cF:GS X st RB:=⟨mS L2.cF λD a H h=>by let⟨_,_,_,_,_,_,z,_⟩:=h;exact z.elim⟩
end
end M
namespace Srt
open PySem PySem.W PyProof.Rows
structure Ord(α:Type) where
 lt:α->α->Bool
 Wg:∀a,lt a a=false
 tr:∀a b c,lt a b=true->lt b c=true->lt a c=true
 nt:∀a b c,lt a c=true->lt a b=true∨lt b c=true
noncomputable def run{o:Type}(f:Nat->Nat->Bool):KasT o->o
 |.ret a=>a
 |.ask i j k=>run f (k (f i j))
theorem run_bind{o q:Type}{g:o->KasT q}:∀t:KasT o,run d (t.bind g)=run d (g (run d t))
 |.ret a=>rfl
 |.ask i j k=>run_bind (k (d i j))
section
variable {α:Type}(O:Ord α)
def le(a b:α):Prop:=O.lt b a=false
variable {O}
def le_rfl(a):le O a a:=O.Wg a
def Bp(h:O.lt d g=true):le O d g:=by
 delta le;cases e:O.lt g d with
 |false=>rfl
 |true=>have:=O.tr _ _ _ h e;rw[O.Wg] at this;lia
def jC(h:le O d k)(g:le O k q):le O d q:=by
 delta le at*;cases e:O.lt q d with
 |false=>rfl
 |true=>
  obtain z|z:=O.nt _ k _ e
  ·simp_all
  simp_all
def pT(h:¬O.lt d g=true):le O g d:=by delta le;simpa using h
end
section
variable {α:Type}{O:Ord α}{k:Nat->α}
noncomputable def val(k:Nat->α)(p:Array Nat)(i:Nat):α:=k (p.getD i 0)
variable (O k)
def Up(p:Array Nat)(m:Nat):Prop:=∀i j,i<=j->j<m->le O (val k p i) (val k p j)
def Down(p:Array Nat)(m:Nat):Prop:=∀i j,i<=j->j<m->le O (val k p j) (val k p i)
noncomputable abbrev ask(i j:Nat):Bool:=O.lt (k i) (k j)
variable {O k}
def JE(h:Up O k p n)(h1:1<=n)(g:le O (val k p (n - 1)) (val k p n)):Up O k p (n+1):=λi j a q=>by
 by_cases e:j<n
 ·exact h i j a e
 ·have:j=n:=by lia
  subst this;by_cases o:i=j
  ·subst o;exact le_rfl _
  ·exact jC (h i (j - 1) (by lia) (by omega)) g
def jn(h:Down O k p n)(h1:1<=n)(g:le O (val k p n) (val k p (n - 1))):Down O k p (n+1):=λi j a q=>by
 by_cases e:j<n
 ·exact h i j a e
 ·have:j=n:=by lia
  subst this;by_cases o:i=j
  ·subst o;exact le_rfl _
  ·exact jC g (h i (j - 1) (by lia) (by omega))
theorem zS:∀(f n),1<=n->Up O k p n->n<=run (ask O k) (kas_asc p f n)/\run (ask O k) (kas_asc p f n)<=n+f/\Up O k p (run (ask O k) (kas_asc p f n))
 |0,n,_,h=>⟨zcA _,zcA _,h⟩
 |f+1,n,h1,h=>by
  show n<=run _ (if O.lt (val k p n) (val k p (n - 1))=true then _ else _)/\_;by_cases e:O.lt (val k p n) (val k p (n - 1))=true
  ·have:run (ask O k) (kas_asc p (f+1) n)=n:=by
    show run _ (if O.lt (val k p n) (val k p (n - 1))=true then _ else _)=_;rw[yIp e];rfl
   rw[yIp e,this];refine⟨zcA _,by lia,h⟩
  ·have j:run (ask O k) (kas_asc p (f+1) n)=run (ask O k) (kas_asc p f (n+1)):=by
    show run _ (if O.lt (val k p n) (val k p (n - 1))=true then _ else _)=_;rw[yIn e]
   rw[yIn e,j];let⟨a,b,c⟩:=zS f (n+1) (by lia) (JE h h1 (pT e));refine⟨by lia,by lia,c⟩
def n5:p.getD d 0=(p[d]?).getD 0:=by
 simp
def val_rev(a:j<=p.size)(x):val k (kas_rev p i j) x=if i<=x/\x<j then val k p (i+j - 1 - x) else val k p x:=by
 delta val kas_rev;rw[n5,getElem?_mirror_all a];split<;>rw[n5]
def oS:(kas_rev p i j).size=p.size:=mirror_size _ _ _ _
def dj:(kas_rev p i j).Perm p:=mirror_perm _ _ _ _
def Flat(O:Ord α)(k:Nat->α)(p:Array Nat)(n q:Nat):Prop:=q+1<=n/\∀i j,n - (q+1)<=i->i<n->n - (q+1)<=j->j<n->le O (val k p i) (val k p j)
def xo(s:n<=p.size)(h:Down O k p n)(f:Flat O k p n q):Down O k (kas_rev p (n - (q+1)) n) n:=λi j o u=>by
 let⟨x,v⟩:=f;rw[val_rev s,val_rev s];by_cases a:n - (q+1)<=j
 ·rw[yIp ⟨a,u⟩];by_cases b:n - (q+1)<=i
  ·rw[yIp ⟨b,by lia⟩];exact v _ _ (by lia) (by lia) (by lia) (by lia)
  ·rw[yIn (by lia)];exact h _ _ (by lia) (by lia)
 ·rw[yIn (by simp_all),yIn (by lia)];exact h _ _ o u
def Hl(h:1<=n):Flat O k p n 0:=⟨by assumption,λi j a b c d=>by
 have:i=j:=by (simp_all;lia)
 subst this;exact le_rfl _⟩
theorem oi:∀(f n q)(p),n+f<=p.size->Down O k p n->Flat O k p n q->
  ∃s o u,run (ask O k) (kas_desc f p n q)=(s,o,u)/\s.Perm p/\n<=o/\o<=n+f/\Down O k s o/\Flat O k s o u
 |0,n,q,p,hz,h,fl=>⟨p,n,q,rfl,Array.Perm.refl _,zcA _,zcA _,h,fl⟩
 |f+1,n,q,p,hz,h,fl=>by
  have h1:1<=n:=by have:=fl.1;lia
  have P:run (ask O k) (kas_desc (f+1) p n q)=run (ask O k) (if O.lt (val k p n) (val k p (n - 1))=true then(if q> 0 then kas_desc f (kas_rev p (n - (q+1)) n) (n+1) 0 else kas_desc f p (n+1) 0) else .ask (p.getD (n - 1) 0) (p.getD n 0) λd=>if d=true then .ret (p,n,q) else kas_desc f p (n+1) (q+1)):=rfl;rw[P];by_cases e:O.lt (val k p n) (val k p (n - 1))=true
  ·rw[yIp e];by_cases F:q> 0
   ·rw[yIp F];have hd:=xo (by lia) h fl;have L:val k (kas_rev p (n - (q+1)) n) n=val k p n:=by rw[val_rev (by lia),yIn (by lia)]
    have I:le O (val k (kas_rev p (n - (q+1)) n) n) (val k (kas_rev p (n - (q+1)) n) (n - 1)):=by
     rw[L,val_rev (by lia),yIp (by omega)];exact jC (Bp e) (h _ _ (by (simp_all;lia)) (by lia))
    let⟨s,o,u,a,b,c,d,x,v⟩:=oi f (n+1) 0 (kas_rev p (n - (q+1)) n) (by rw[oS];lia) (jn hd h1 I) (Hl (by lia));refine⟨s,o,u,a,b.trans dj,by lia,by lia,x,v⟩
   ·rw[yIn F];let⟨s,o,u,a,b,c,d,x,v⟩:=oi f (n+1) 0 p (by lia) (jn h h1 (Bp e)) (Hl (by lia));refine⟨s,o,u,a,b,by lia,by lia,x,v⟩
  ·rw[yIn e];show∃s o u,run _ (if O.lt (val k p (n - 1)) (val k p n)=true then _ else _)=_/\_;by_cases g:O.lt (val k p (n - 1)) (val k p n)=true
   ·rw[yIp g];refine⟨p,n,q,rfl,Array.Perm.refl _,zcA _,by lia,h,fl⟩
   ·rw[yIn g];have H:=pT e;have E:=pT g;have C:Flat O k p (n+1) (q+1):=⟨by have:=fl.1;simp_all,λi j a b c d=>by
     by_cases G:i=n
     ·by_cases y:j=n
      ·rw[G,y];exact le_rfl _
      ·rw[G];exact jC E (fl.2 _ _ (by lia) (by lia) (by simp_all) (by lia))
     ·by_cases y:j=n
      ·rw[y];exact jC (fl.2 _ _ (by simp_all) (by lia) (by lia) (by lia)) H
      ·exact fl.2 _ _ (by simp_all) (by lia) (by simp_all) (by lia)⟩
    let⟨s,o,u,a,b,c,d,x,v⟩:=oi f (n+1) (q+1) p (by lia) (jn h h1 E) C;refine⟨s,o,u,a,b,by lia,by lia,x,v⟩
def Ag(h1:1<=n)(u:n<=m)(hz:m<=p.size)(h:Down O k p n):∃c o,run (ask O k) (kas_tail3 n m p)=(c,o)/\o.Perm p/\n<=c/\c<=m/\Up O k o c:=by
 delta kas_tail3;rw[run_bind];have q:Up O k (kas_rev p 0 n) n:=λi j s v=>by
  rw[val_rev (by lia),val_rev (by lia),yIp (by lia),yIp (by simp_all)];exact h _ _ (by (clear hz u h1;lia)) (by (clear v s hz u;omega))
 let⟨a,b,c⟩:=zS (m - n) n h1 q;refine⟨_,_,rfl,dj,a,by lia,c⟩
def ny(h1:1<=n)(G:n+1<=m)(hz:m<=p.size)(h:Down O k p n)(g:le O (val k p n) (val k p (n - 1))):∃c j,run (ask O k) (kas_descPart n m p)=(c,j)/\j.Perm p/\1<=c/\c<=m/\Up O k j c:=by
 delta kas_descPart;rw[run_bind];let⟨j,F,C,a,b,c,d,e,f⟩:=oi (m - (n+1)) (n+1) 0 p (by simp_all) (jn h h1 g) (Hl (by lia));have hs  :=b.size_eq;rw[a];by_cases y:C> 0
 ·rw[yIp y];let⟨u,o,x,v,E,s,q⟩:=Ag (m:=m) (by lia) (by simp_all) (by rw[oS];simp_all) (xo (by (simp_all;lia)) e f);refine⟨u,o,x,v.trans (dj.trans b),by lia,s,q⟩
 ·rw[yIn y];let⟨u,o,x,v,E,s,q⟩:=Ag (m:=m) (by lia) (by simp_all) (by simp_all) e;refine⟨u,o,x,v.trans b,by lia,s,q⟩
def HE(Q:1<=m)(hz:m<=p.size):∃c s,run (ask O k) (kas_count m p)=(c,s)/\s.Perm p/\1<=c/\c<=m/\Up O k s c:=by
 delta kas_count;rw[run_bind];have L:Up O k p 1:=λi j o u=>by
  have:i=j:=by simp_all
  subst this;exact le_rfl _
 let⟨a,b,c⟩:=zS (m - 1) 1 (zcA _) L;have stop:run (ask O k) (kas_asc p (m - 1) 1)<m->O.lt (val k p (run (ask O k) (kas_asc p (m - 1) 1))) (val k p (run (ask O k) (kas_asc p (m - 1) 1) - 1))=true:=by
  have:∀f n,run (ask O k) (kas_asc p f n)<n+f->O.lt (val k p (run (ask O k) (kas_asc p f n))) (val k p (run (ask O k) (kas_asc p f n) - 1))=true:=by
   intro f
   induction f with
   |zero=>intro n h;exact absurd h (zch _)
   |succ f ih=>
    intro n h;by_cases e:O.lt (val k p n) (val k p (n - 1))=true
    ·have q:run (ask O k) (kas_asc p (f+1) n)=n:=by
      show run _ (if O.lt (val k p n) (val k p (n - 1))=true then _ else _)=_;rw[yIp e];rfl
     simp_all
    ·have q:run (ask O k) (kas_asc p (f+1) n)=run (ask O k) (kas_asc p f (n+1)):=by
      show run _ (if O.lt (val k p n) (val k p (n - 1))=true then _ else _)=_;simp_all
     rw[q] at h⊢;exact ih (n+1) (by lia)
  simp_all
 generalize run (ask O k) (kas_asc p (m - 1) 1)=n at a b c stop;by_cases C:(n==m)=true
 ·rw[yIp C];exact⟨n,p,rfl,Array.Perm.refl _,a,by simp_all,c⟩
 ·rw[yIn C];have P:n≠m:=λz=>C (by simp_all);have st:=Bp (stop (by (clear a;lia)));by_cases q:n> 1
  ·rw[yIp q];show∃c s,run _ (if O.lt (val k p 0) (val k p (n - 1))=true then _ else _)=_/\_;by_cases y:O.lt (val k p 0) (val k p (n - 1))=true
   ·rw[yIp y];exact⟨n,p,rfl,Array.Perm.refl _,a,by simp_all,c⟩
   ·rw[yIn y];have all  :=λi j S u=>jC (c i (n - 1) (by omega) (by lia)) (jC (pT y) (c 0 j (by simp) u));have hd:Down O k (kas_rev p 0 n) n:=λi j o u=>by
     rw[val_rev (by grind),val_rev (by grind),yIp (by simp_all),yIp (by lia)];exact all _ _ (by simp) (by (clear u o q b hz Q;omega))
    let⟨G,v,I,H,F,E,x⟩:=ny (m:=m) a (by (clear stop;lia)) (by rw[oS];omega) hd (by
     rw[val_rev (by grind),val_rev (by grind),yIn (by simp),yIp (by lia)];exact jC st (all _ _ (by simp) (by lia)))
    refine⟨G,v,I,H.trans dj,F,E,x⟩
  ·rw[yIn q];let⟨G,v,I,H,F,E,x⟩:=ny (by omega) (by lia) hz (λi j o u=>by
    have:i=j:=by lia
    subst this;exact le_rfl _) st
   refine⟨G,v,I,H,F,E,x⟩
theorem pA{j:Nat}:∀(f l r),r<=l+f->l<=r->r<=j->(∀i,i<l->le O (val k p i) (val k p j))->(∀i,r<=i->i<j->le O (val k p j) (val k p i))->Up O k p j->
  ∃x,run (ask O k) (kas_place p j f l r)=x/\x<=j/\(∀i,i<x->le O (val k p i) (val k p j))/\∀i,x<=i->i<j->le O (val k p j) (val k p i)
 |0,l,r,h,hlr,hr,a,b,u=>by
  have:l=r:=by lia
  subst this;refine⟨l,rfl,hr,a,b⟩
 |f+1,l,r,h,hlr,hr,a,b,u=>by
  show∃x,run _ (if l≥r then _ else _)=x/\_;by_cases e:l≥r
  ·rw[yIp e];have:l=r:=by lia
   subst this;refine⟨l,rfl,hr,a,b⟩
  ·rw[yIn e];show∃x,run _ (if O.lt (val k p j) (val k p ((l+r) / 2))=true then _ else _)=x/\_;by_cases g:O.lt (val k p j) (val k p ((l+r) / 2))=true
   ·rw[yIp g];exact pA f l ((l+r) / 2) (by lia) (by lia) (by lia) a (λi h1 h2=>jC (Bp g) (u _ _ h1 h2)) u
   ·rw[yIn g];exact pA f ((l+r) / 2+1) r (by lia) (by lia) hr (λi h1=>jC (u _ _ (show i<=(l+r) / 2 by lia) (by lia)) (pT g)) b u
def Ae(a:j<p.size)(hd:d<=j)(x):val k (bubble p j d) x=if x=j - d then val k p j else if j - d<x/\x<=j then val k p (x - 1) else val k p x:=by
 have h1:∀y,val k p y=k ((p[y]?).getD 0):=λy=>by delta val;simp
 rw[h1 j,h1 (x - 1),h1 x];delta val;rw[n5,getElem?_bubble a d hd];split
 ·rfl
 ·split<;>rfl
theorem HP:∀(f j)(p),1<=j->j+f=p.size->Up O k p j->∃o,run (ask O k) (kas_bin f p j)=o/\o.Perm p/\Up O k o p.size
 |0,j,p,h1,h,u=>⟨p,rfl,Array.Perm.refl _,by rw[<-h];exact u⟩
 |f+1,j,p,h1,h,u=>by
  show∃o,run _ ((kas_place p j j 0 j).bind _)=o/\_;rw[run_bind];let⟨x,ex,G,a,b⟩:=pA j 0 j (by lia) (by lia) (zcA _) (λi z=>by lia) (λi h1 h2=>by lia) u;rw[ex];have s:Up O k (bubble p j (j - x)) (j+1):=λi F v y=>by
   rw[Ae (by lia) (by simp),Ae (by lia) (by simp)]
   repeat' split
   all_goals first|exact le_rfl _|(exact u _ _ (by (simp at *;lia)) (by lia))|(exact a _ (by (simp_all;lia)))|(exact b _ (by lia) (by lia))|(exfalso;lia)
  let⟨o,E,C,q⟩:=HP f (j+1) (bubble p j (j - x)) (by lia) (by rw[bubble_size];lia) s;refine⟨o,E,C.trans (bubble_perm _ _ _),by rw[bubble_size] at q;exact q⟩
def JN(v:1<=n):∃p:Array Nat,run (ask O k) (kas_sort n)=p/\p.Perm (List.toArray (zcE n))/\Up O k p n:=by
 delta kas_sort;rw[run_bind];have hz:(List.toArray (zcE n)).size=n:=by simp
 obtain⟨c,j,a,b,E,F,u⟩:=HE (p:=List.toArray (zcE n)) v (by simp);rw[a];have s:j.size=n:=by rw[b.size_eq,hz]
 by_cases e:c<n
 ·rw[yIp e];have x:max c 1=c:=by simp_all
  rw[x];let⟨q,C,y,o⟩:=HP (n - c) c j E (by simp_all) u;exact⟨q,C,y.trans b,by rw[s] at o;exact o⟩
 ·rw[yIn e];have:c=n:=by lia
  subst this;exact⟨j,rfl,b,u⟩
end
end Srt
namespace M5
open PySem PySem.Spec PyProof.Rows
def wI(t)(es)(h)(x):(layNew t es h x).2.1.led=t.led/\((layNew t es h x).2.1.plain=true->t.plain=true):=by
 delta layNew;split
 ·delta SetTable.orStandIn;dsimp only;split
  ·exact⟨rfl,λz=>z⟩
  ·exact⟨rfl,λz=>by cases z⟩
 ·exact⟨rfl,λz=>by cases z⟩
def m5(h:t.relaid g n=some (d,k)):d.led=t.led/\d.plain=t.plain:=by
 delta SetTable.relaid SetTable.laid at h;cases j:SetTable.layClean (SetTable.sizeAbove n - 1) g with
 |none=>rw[j] at h;cases h
 |some ow=>
  rw[j] at h;injection h with h;injection h with h1 h2;subst h1;simp
def qR(t)(es)(n):(relayAll t es n).2.1.led=t.led/\((relayAll t es n).2.1.plain=true->t.plain=true):=by
 delta relayAll;split
 ·rename_i o a j;dsimp only;split
  ·exact⟨(m5 j).1,λz=>by rw[<-(m5 j).2];exact z⟩
  ·exact⟨rfl,λz=>by cases z⟩
 ·exact⟨rfl,λz=>by cases z⟩
def WK(prog:yaj)(w:yak)(o:Obj)(S:List Str):Prop:=
 ∃a j t,o.ExactSet/\o.data=.set a j t/\ElemsOf (PySem.strKind prog w) a.toList/\(a.toList.map λe=>strOf e.2).Perm S/\t.fits a.size=true/\t.led=(!w.params.followText "set-order")/\(a.size≠0->t.plain=false)
def yf(prog:yaj)(w:yak)(h:Heap)(a:Addr)(S:List Str):Prop:=∃o,h.get? a=some o/\WK prog w o S
noncomputable def nG(S:List Str)(x:Str):List Str:=if x∈S then S else S++[x]
def Wf(x)(t):(PySem.strKind prog w).is x (.str x t)=true:=by
 show Value.isStrOf x (.str x t)=true;simp[Value.isStrOf]
def Eu(h:(PySem.strKind prog w).is x d=true):strOf d=x:=by
 let⟨t,rfl⟩:=Value.isStrOf_shape h;rfl
def nM(j)(t')(q:h.get? a=some o)(hd:o.data=.set es ep t):
  (h.update a (Obj.putSet j t')).get? a=some {o with data:=.set j (ep+1) t'}:=by
 have e:=zaB (Obj.putSet j t') q;rw[putSet_of j t' hd] at e;exact e rfl
theorem add_str(hS:yf prog w s.heap a d)(hn:d.length+1<4096)(h:∀b h',Heap.SameBut a s.heap h'->yf prog w h' a (nG d x)->g b {s with heap:=h'}):
  yar (model prog w) A (setAddHashed a (.str x tk) ((PySem.strKind prog w).hash x)) g E s:=by
 obtain⟨o,ho,H,ep,t,P,hd,F,hp,hf,C,hpl⟩:=hS;have ae:H.size=d.length:=by rw[<-hp.length_eq,zbF,zaN]
 have hb  :=by show H.size<4096;lia
 refine yad (yaa (wpAny_setState_of ho hd hf ?_));dsimp only;rw[byScan_of rfl hb F];refine yaa (yaa (wpAny_rule (yaa (wpAny_setScan_of (Wf x tk) ho hd hf F ?_))));cases hr:List.findIdx? (λe=>(PySem.strKind prog w).is x e.2) H.toList with
 |some j=>
  obtain⟨hj,hpj,_⟩:=List.findIdx?_eq_some_iff_getElem.mp hr;have Y  :=hp.mem_iff.mp (zcm.mpr ⟨_,zbv hj,Eu hpj⟩);refine yab (yab ?_);have q:=h false s.heap (Heap.SameBut.refl a s.heap) (by
   delta nG;rw[yIp Y];refine⟨o,ho,H,ep,t,P,hd,F,hp,hf,C,hpl⟩)
  exact q
 |none=>
  have Y:x ∉ d:=λY=>by
   let⟨e,he,z⟩:=zcm.mp (hp.mem_iff.mpr Y);let⟨⟨k,hk,_⟩,_⟩:=F e he;rw[Eu hk] at z
   grind
  have G:=layNew_perm t H ((PySem.strKind prog w).hash x) (.str x tk);have O:=layNew_fits t H ((PySem.strKind prog w).hash x) (.str x tk);have hlk:=wI t H ((PySem.strKind prog w).hash x) (.str x tk);generalize layNew t H ((PySem.strKind prog w).hash x) (.str x tk)=L at G O hlk⊢;let⟨u,t1,wd,gv⟩:=L;rw[zbl] at G;have hel1  :=(F.push (Wf x tk) rfl).perm G;have Z:(u.toList.map λe=>strOf e.2).Perm (d++[x]):=by
   refine(G.map _).trans ?_;rw[zbK];exact hp.append_right [x]
  have ac:u.size=d.length+1:=by rw[<-zaN,<-zbF,Z.length_eq,zaP];rfl
  have gw:∀b {y:yah}{Q':Unit->yah->Prop},Q' () y->yar (model prog w) A (match b with|true=>rule "set.scan.the-table-gave-way"|false=>pure ()) Q' E y:=by
   intro b y Q' q;cases b
   ·exact yab q
   ·exact wpAny_rule q
  refine yaa (gw _ ?_);have fin:∀v,v.fits u.size=true->v.led=t.led->v.plain=false->yar (model prog w) A (do
    storeSet a u v
    if(!wd&&v.tooFull)=true then do
      (match(relayAll v u (SetTable.grown u.size)).2.2 with|true=>rule "set.scan.the-table-gave-way"|false=>pure ())
      storeSet a (relayAll v u (SetTable.grown u.size)).1 (relayAll v u (SetTable.grown u.size)).2.1
      pure (some true)
     else pure (some true)) (λr s'=>r=some true/\g true s') E s:=by
   intro v f2 l2 p2;refine yaa (wpAny_storeSet_of ho hd ?_ (by rw[yaf];lia));have I:=nM u v ho hd;have W:=Heap.SameBut.update s.heap a (Obj.putSet u v);split
   ·have X:=relayAll_perm v u (SetTable.grown u.size);have rf:=relayAll_fits v u (SetTable.grown u.size);have rk:=qR v u (SetTable.grown u.size);generalize relayAll v u (SetTable.grown u.size)=Rl at X rf rk⊢;obtain⟨U,t3,g2⟩:=Rl;dsimp only at X rf rk⊢;have ab:U.size=u.size:=by rw[<-zaN,X.length_eq,zaN]
    refine yaa (gw _ ?_);refine yaa (wpAny_storeSet_of I rfl ?_ (by rw[yaf];lia));refine yab ⟨rfl,h true _ (W.trans (Heap.SameBut.update _ a _)) ⟨_,nM U t3 I rfl,U,_,t3,P,rfl,hel1.perm X,?_,rf,rk.1.trans (l2.trans C),λ_=>?_⟩⟩
    ·delta nG;rw[yIn Y];exact(X.map _).trans Z
    lia
   ·refine yab ⟨rfl,h true _ W ⟨_,I,u,_,v,P,rfl,hel1,?_,f2,l2.trans C,λ_=>p2⟩⟩;delta nG;simp_all
  cases hpt:t1.plain with
  |true=>
   refine yaa ?_;refine yab ?_;refine yac (fin _ ?_ ?_ ?_) ?_ (λ_ _ z=>z)
   ·exact SetTable.fits_plain_off O
   ·simp_all
   ·rfl
   ·rintro r s' ⟨rfl,q⟩;exact yab q
  |false=>
   refine yac (fin _ ?_ ?_ ?_) ?_ (λ_ _ z=>z)
   ·exact O
   ·simp_all
   ·simp_all
   ·rintro r s' ⟨rfl,q⟩;exact yab q
noncomputable def all1(val:Nat->Str):Nat->List Str
 |0=>[]
 |i+1=>nG (all1 val i) (val i)
def Ia(S)(x):(nG S x).length<=S.length+1:=by
 delta nG;split
 ·lia
 simp
theorem qq(val:Nat->Str):∀i,(all1 val i).length<=i
 |0=>zcA _
 |i+1=>zcp (Ia ..) (Nat.succ_le_succ (qq val i))
def yf.keep(x:yf prog w h a d)(e:∀o,h.get? a=some o->h'.get? a=some o):yf prog w h' a d:=
 by let⟨o,j,r⟩:=x;refine⟨o,e o j,r⟩
section
variable {R:Result->yah->Prop}{wr:List Addr}{G:Array yaw->Array yaw->Prop}{P:Nat->yai->Prop}{St:Nat->yah->Prop}
theorem GB(W:WalksS prog w A.in1 I fp wr G n P St)(a)(Z:a ∉ fp)(val)(x:∀i v,P i v->∃t,v=.str (val i) t)(hn:n<4000):
  ∀(k i)(s),n - i=k->i<=n->St i s->yf prog w s.heap a (all1 val i)->
   (∀j,Moved (a::wr) G s j->yf prog w j.heap a (all1 val n)->R (.ok (.ret .none)) j)->
   codeAny (model prog w) A (.builtin "set.update.loop" ⟨[.ref a,.ref I],[]⟩) R s:=by
 have haw  :=λz=>Z (W.sub _ z);have u:∀b∈wr,b∈a::wr:=λb z=>zaC _ z;intro k
 induction k with
 |zero=>
  intro i s hk hi q X Y;obtain rfl:i=n:=by lia
  refine codeAny_builtin PyProof.Rows.F.entry_set_update_loop ?_;refine yaa (W.done s _ _ q λj H=>?_);exact yab (Y j (H.mono u) (X.keep λo e=>H.heap a o haw e))
 |succ k ih=>
  intro i s hk hi q X Y;have L:i<n:=by lia
  refine codeAny_builtin PyProof.Rows.F.entry_set_update_loop ?_;refine yaa (W.item i s _ _ L q λv j hP y H=>?_);let⟨t,rfl⟩:=x i v hP;have hS'  :=X.keep λo e=>H.heap a o haw e;refine yaa (yad ?_);refine yad (yaa ((PySem.strKind prog w).pyHash (Wf _ _) ?_));have:=qq val i;refine add_str hS' (by lia) λb h' C U=>?_;refine yab ⟨plainId_quiet PyProof.Rows.F.plain_set_update_loop _,ih (i+1) _ (by grind) L (W.frame _ j _ _ y (zcC _) λb S o e=>?_) U λQ E O=>?_⟩
  ·rw[C.2 b λz=>Z (z▸S)];exact e
  ·refine Y Q (Moved.trans W.gtrans ((H.mono u).then_heap (zcC _) λb o S e=>?_) E) O;rw[C.2 b λz=>S (z▸zaQ)];exact e
end
namespace F
def sub_tuple_set:isSubtype (.type "tuple") (.type "set")=pure false:=by rfl
def sub_tuple_frozenset:isSubtype (.type "tuple") (.type "frozenset")=pure false:=by rfl
end F
noncomputable def b5(led:Bool):Obj:={cls:=.type "set",dict:=none,data:=.set #[] 0 (.fresh 0 0 led)}
def JQ(a)(h:Q₁ (.ref s.heap.objs.size) {s with heap:=s.heap.push (b5 (!w.params.followText "set-order"))}):
  codeAny (model prog w) A (.call (.builtin "set.__new__") ⟨[.type "set",a],[]⟩) (wants Q₁ E) s:=by
 refine codeAny_of_tree ?_;refine yaa (wpAny_of_eq (PySem.F.newCall_set_1 a) (yab ⟨plainId_quiet PySem.F.plain_set_new _,codeAny_builtin PySem.F.entry_set_new ?_⟩));have j:=sub_set_self
 wp_walk
 refine wpAny_askSetting (yab ?_);refine yaa (wpAny_alloc (yab ?_));exact yab h
def DB(e:h.get? a=some (b5 (!w.params.followText "set-order"))):yf prog w h a []:=
 ⟨_,e,#[],0,_,⟨rfl,rfl,rfl⟩,rfl,λe j=>by simp at j,.nil,rfl,rfl,λz=>absurd rfl z⟩
end M5
namespace M7
open PySem PySem.Spec PyProof.Rows M5
theorem sP{Z:Heap->Prop}(hT:s.TypeIs (.ref l) T)(h1:isSubtype (.type T) (.type "set")=pure false)(h2:isSubtype (.type T) (.type "frozenset")=pure false)(h3:(Value.type T==Value.type "dict")=false)(it:∀{A':yal}{y:yah}{Q':yai->yah->Prop}{E':yai->yah->Prop},(∀b o,s.heap.get? b=some o->y.heap.get? b=some o)->Q' (.ref y.heap.objs.size) {y with heap:=y.heap.push L}->yar (model prog w) A' (pyIter (.ref l)) Q' E' y)(S:L.isFreed=false)(lp:∀(I)(H){R:Result->yah->Prop},(∀b o,s.heap.get? b=some o->H.get? b=some o)->H.get? s.heap.objs.size=some (b5 (!w.params.followText "set-order"))->H.get? I=some L->l≠I->s.heap.objs.size ∉ [I,l]->(∀(h')(tk),Z h'->(∀b o,b ∉ [s.heap.objs.size,I]->H.get? b=some o->h'.get? b=some o)->R (.ok (.ret .none)) {s with heap:=h',toks:=tk})->codeAny (model prog w) A.in1.in1 (.builtin "set.update.loop" ⟨[.ref s.heap.objs.size,.ref I],[]⟩) R {s with heap:=H})(h:∀(h')(tk),Z h'->(∀b o,b<s.heap.objs.size->s.heap.get? b=some o->h'.get? b=some o)->Q (.ref s.heap.objs.size) {s with heap:=h',toks:=tk}):
  yar (model prog w) A (call (.type "set") [.ref l]) Q E s:=by
 have X:=PySem.F.called_set.made;have ab:=PySem.F.called_set.sub;have hct:=PySem.F.typeCall_set_1 (.ref l);refine yaI (codeAny_of_tree ?_);show yar _ _ (callAny (.type "set") _) _ _ _;refine yab ⟨Code.quiet_builtin _ (by decide+kernel),codeAny_builtin PySem.F.entry_type_call ?_⟩;rw[Around.under_plain (weight_type_call_type "set" [.ref l] []) rfl]
 repeat (any_goals (first|assumption|wp_step))
 generalize v:(!w.params.followText "set-order")=led;refine yax (JQ (.ref l) (E:=E) (Q₁:=λu q=>u=.ref s.heap.objs.size/\q={s with heap:=s.heap.push (b5 led)}) ⟨rfl,by rw[v]⟩) λr q P=>?_;cases r with
 |error e=>exact P
 |ok fl=>
  cases fl with
  |ret u=>
   let⟨rfl,rfl⟩:=P;have gS:(s.heap.push (b5 led)).get? s.heap.objs.size=some (b5 led):=zaO _ rfl;have tS:Shared.TypeIs {s with heap:=s.heap.push (b5 led)} (.ref s.heap.objs.size) "set":=⟨_,gS,rfl⟩
   have hli:=PySem.F.called_set.init.lookup;have hbi:=PySem.F.called_set.init.bind (.ref s.heap.objs.size)
   repeat (any_goals (first|assumption|wp_step))
   refine yax (codeAny_call_builtin (R:=wants (λr j=>r=.none/\∃h' tk,j={s with heap:=h',toks:=tk}/\Z h'/\(∀b o,b<s.heap.objs.size->s.heap.get? b=some o->h'.get? b=some o)) E) PySem.F.called_set.init.plain PySem.F.entry_set_init (check_set_init_1 tS ?_)) λC j a=>?_
   ·have Y:l<s.heap.objs.size:=by let⟨o,U,_⟩:=hT;exact zcy U
    have kp:∀b o,s.heap.get? b=some o->(s.heap.push (b5 led)).get? b=some o:=λb o e=>zau _ e;have tl1:Shared.TypeIs {s with heap:=s.heap.push (b5 led)} (.ref l) T:=by let⟨o,U,z⟩:=hT;exact⟨o,kp _ _ U,z⟩
    delta Builtin.«set.__init__» noKeywords Builtin.Frozenset.updateFrom;generalize hPI:pyIter=PI
    wp_walk
    subst hPI;refine it kp ?_;have sz:(s.heap.push (b5 led)).objs.size=s.heap.objs.size+1:=zcc ..;have G:∀b o,s.heap.get? b=some o->((s.heap.push (b5 led)).push L).get? b=some o:=λb o e=>zau _ (kp b o e);have W:l≠(s.heap.push (b5 led)).objs.size:=by rw[sz];exact zco (zbi Y)
    have hSf:s.heap.objs.size ∉ [(s.heap.push (b5 led)).objs.size,l]:=by
     grind
    refine yaa (wpAny_runValue ?_);refine lp _ _ G (by rw[v];exact zau _ gS) (zaO _ S) W hSf λh' O x hm=>?_
    ·refine yab (yab ⟨rfl,h',O,rfl,x,λb o hb e=>hm b o ?_ (G b o e)⟩)
     grind
   ·cases C with
    |error e=>exact a
    |ok fl₂=>
     cases fl₂ with
     |ret r=>
      obtain⟨rfl,h',tk,rfl,x,hk'⟩:=a
      repeat (any_goals (first|assumption|wp_step))
      exact h _ _ x hk'
     |_=>exact a.elim
  |_=>exact P.elim
end M7
namespace M5
open PySem PySem.Spec PyProof.Rows
def xJ{St:Addr->Nat->Heap->Prop}(U:A.handled=none)(Y:s.TypeIs (.ref l) T)(h1:isSubtype (.type T) (.type "set")=pure false)(h2:isSubtype (.type T) (.type "frozenset")=pure false)(h3:(Value.type T==Value.type "dict")=false)(it:∀{A':yal}{a:yah}{O:yai->yah->Prop}{E':yai->yah->Prop},(∀b o,s.heap.get? b=some o->a.heap.get? b=some o)->O (.ref a.heap.objs.size) {a with heap:=a.heap.push d}->yar (model prog w) A' (pyIter (.ref l)) O E' a)(F:d.isFreed=false)(W:∀{A':yal}(I),A'.handled=none->l≠I->Walks prog w A' I [I,l] [I] n g (St I))(x:∀I h',(∀b o,s.heap.get? b=some o->h'.get? b=some o)->h'.get? I=some d->St I 0 h')(j:∀i v,g i v->∃t,v=.str (val i) t)(S:n<4000)(h:∀(h')(tk),yf prog w h' s.heap.objs.size (all1 val n)->(∀b o,b<s.heap.objs.size->s.heap.get? b=some o->h'.get? b=some o)->Q (.ref s.heap.objs.size) {s with heap:=h',toks:=tk}):
  yar (model prog w) A (call (.type "set") [.ref l]) Q E s:=by
 refine M7.sP Y h1 h2 h3 it F (λI h0 R kp gS gI G H Z=>?_) h;refine GB (W (A':=A.in1.in1.in1) I U G).toS s.heap.objs.size H val j S (n - 0) 0 _ rfl (zcB _) (x I h0 kp gI) (DB gS) λa q L=>?_;obtain⟨h',g',d',u,y⟩:=a;obtain rfl:g'=s.gens:=q.gens;obtain rfl:d'=s.drawn:=q.drawn;obtain rfl:y=s.os:=q.os;exact Z h' u L λb o X e=>q.heap b o X e
theorem set_tuple(G:A.handled=none)(j:s.heap.IsTuple l its)(u:StrsAre its.toList ss)(C:ss.length<4000)(h:∀(h':Heap)(tk:Nat),yf prog w h' s.heap.objs.size (all1 (λi=>ss.getD i ⟨#[]⟩) ss.length)->(∀b o,b<s.heap.objs.size->s.heap.get? b=some o->h'.get? b=some o)->Q (.ref s.heap.objs.size) {s with heap:=h',toks:=tk}):
  yar (model prog w) A (call (.type "set") [.ref l]) Q E s:=by
 have el:its.size=ss.length:=by rw[<-zaN,u.length]
 rw[<-el] at h;refine xJ G j.typeIs F.sub_tuple_set F.sub_tuple_frozenset (by decide) (λkp q=>wpAny_pyIter_tuple (j.at (kp l)) q) rfl (λI h1 h2=>Walks.tuple h1 I l h2 its)
  (λI h' kp e=>⟨⟨_,e,rfl,rfl⟩,j.at (kp l)⟩) ?_ (by simp_all) h
 intro i v a;rw[<-zaA] at a;clear h;revert i;generalize its.toList=vs at u;clear el C
 induction u with
 |nil=>intro i a;simp at a
 |cons x t r ih=>
  intro i a;cases i with
  |zero=>simp at a;exact⟨t,by rw[<-a];rfl⟩
  |succ i=>
   let⟨y,e⟩:=ih i a;exact⟨y,e⟩
theorem set_list(G:A.handled=none)(j:s.heap.IsList l its)(u:StrsAre its.toList ss)(C:ss.length<4000)(h:∀(h')(tk),yf prog w h' s.heap.objs.size (all1 (λi=>ss.getD i ⟨#[]⟩) ss.length)->(∀b o,b<s.heap.objs.size->s.heap.get? b=some o->h'.get? b=some o)->Q (.ref s.heap.objs.size) {s with heap:=h',toks:=tk}):
  yar (model prog w) A (call (.type "set") [.ref l]) Q E s:=by
 have el:its.size=ss.length:=by rw[<-zaN,u.length]
 rw[<-el] at h;refine xJ G j.typeIs PySem.F.sub_list_set PySem.F.sub_list_frozenset (by decide) (λkp q=>wpAny_pyIter_list (j.at (kp l)) q) rfl (λI h1 h2=>Walks.list h1 I l h2 its)
  (λI h' kp e=>⟨⟨_,e,rfl,rfl⟩,j.at (kp l)⟩) ?_ (by simp_all) h
 intro i v a;rw[<-zaA] at a;clear h;revert i;generalize its.toList=vs at u;clear el C
 induction u with
 |nil=>intro i a;simp at a
 |cons x t r ih=>
  intro i a;cases i with
  |zero=>simp at a;exact⟨t,by rw[<-a];rfl⟩
  |succ i=>
   let⟨y,e⟩:=ih i a;exact⟨y,e⟩
def Gv:g∈nG d x↔g∈d∨g=x:=by
 delta nG;split
 ·simp_all
 ·simp
def yU(h:d.Nodup):(nG d x).Nodup:=by
 delta nG
 grind
theorem pO(val):∀n,(all1 val n).Nodup
 |0=>List.nodup_nil
 |n+1=>yU (pO val n)
theorem wC(val)(y):∀n,y∈all1 val n↔∃i,i<n/\val i=y
 |0=>by simp[all1]
 |n+1=>by
  show y∈nG _ _↔_;rw[Gv,wC val y n]
  grind
def C2(ss:List Str)(y):y∈all1 (λi=>ss.getD i ⟨#[]⟩) ss.length↔y∈ss:=by
 rw[wC];constructor
 ·grind
 ·intro h;obtain⟨i,h1,e⟩:=zaI h;refine⟨i,h1,by simp_all⟩
namespace F
def slot_next:Slot "set_iterator" "__next__" "set_iterator.__next__":=
 .of (owner:="set_iterator") (n:="__next__") (by rfl) (by rfl) (by rfl) (by rfl)
  (by first|exact .inl (by rfl)|exact .inr (by decide+kernel)) (by rfl)
def entry_next:entryFor table "set_iterator.__next__"=some Builtin.«set_iterator.__next__»:=entryFor_of_tree (by rfl)
def args_next(a):argsOk "set_iterator.__next__" ⟨[a],[]⟩:=by
 rfl
def rH:Slot "set_iterator" "__iter__" "set_iterator.__iter__":=
 .of (owner:="set_iterator") (n:="__iter__") (by rfl) (by rfl) (by rfl) (by rfl)
  (by first|exact .inl (by rfl)|exact .inr (by decide+kernel)) (by rfl)
def Du(a):argsOk "set_iterator.__iter__" ⟨[a],[]⟩:=by
 rfl
def zF:entryFor table "set_iterator.__iter__"=some Builtin.«dict_keyiterator.__iter__»:=
 entryFor_alias (id':="dict_keyiterator.__iter__") (by kernel_rfl) (by rfl) (by decide+kernel) (by kernel_rfl)
def oO:Slot "set" "__iter__" "set.__iter__":=
 .of (owner:="set") (n:="__iter__") (by rfl) (by rfl) (by rfl) (by rfl)
  (by first|exact .inl (by rfl)|exact .inr (by decide+kernel)) (by rfl)
def zT(a):argsOk "set.__iter__" ⟨[a],[]⟩:=by
 rfl
def xg:entryFor table "set.__iter__"=some Builtin.«frozenset.__iter__»:=
 entryFor_alias (id':="frozenset.__iter__") (by kernel_rfl) (by rfl) (by decide+kernel) (by kernel_rfl)
end F
noncomputable def R8(first:yai)(i:Nat)(a:Addr)(n j:Nat):Obj:={cls:=.type "set_iterator",data:=.fields #[first,rawInt i,.ref a,rawInt n,rawInt j]}
def jx(h:Heap)(I:Addr)(first:yai)(i:Nat)(a:Addr)(n j:Nat):Prop:=∃o,h.get? I=some o/\o.cls=.type "set_iterator"/\o.data=.fields #[first,rawInt i,.ref a,rawInt n,rawInt j]
def yg(h:Heap)(a:Addr)(es:Array (Int×yai))(j:Nat)(t:SetTable):Prop:=∃o,h.get? a=some o/\o.cls=.type "set"/\o.data=.set es j t
def jx.at(x:jx h I d i a n ep)(e:∀o,h.get? I=some o->h'.get? I=some o):jx h' I d i a n ep:=by let⟨o,j,r⟩:=x;refine⟨o,e _ j,r⟩
def yg.at(x:yg h a es ep t)(e:∀o,h.get? a=some o->h'.get? a=some o):yg h' a es ep t:=by let⟨o,j,r⟩:=x;refine⟨o,e _ j,r⟩
def jx.typeIs(x:jx s.heap I d i a n ep):s.TypeIs (.ref I) "set_iterator":=by let⟨o,j,q,_⟩:=x;refine⟨o,j,q⟩
def yg.typeIs(x:yg s.heap a es ep t):s.TypeIs (.ref a) "set":=by let⟨o,j,q,_⟩:=x;refine⟨o,j,q⟩
def zU(a:n≠0)(h:∀i d,i<n->g i {s with drawn:=d}):yar (model prog w) A (choose src n) g E s:=by
 intro o p j;exact⟨a,h _ _ (zcF _ (Nat.pos_of_ne_zero a))⟩
theorem jQ{α:Type}:∀{l:List α}{i:Nat}(h),(l[i]::l.eraseIdx i).Perm l
 |x::r,0,h=>.refl _
 |x::r,i+1,h=>by
  exact(List.Perm.swap ..).trans ((jQ (Nat.lt_of_succ_lt_succ h)).cons x)
theorem xN{α:Type}:∀(n)(a){s:yah}{Q:List α->yah->Prop},a.length=n->(∀j d,j.Perm a->Q j {s with drawn:=d})->yar (model prog w) A (drawOrder n a) Q E s
 |0,a,s,Q,hl,h=>by
  obtain rfl:a=[]:=zaa hl;exact yab (h [] s.drawn .nil)
 |n+1,[],s,Q,hl,h=>by cases hl
 |n+1,x::r,s,Q,hl,h=>by
  refine yaa (zU (by simp) λi d o=>?_);rw[zam o];refine yaa (xN n _ ?_ λj u q=>?_)
  ·rw[List.length_eraseIdx,yIp o,hl];rfl
  ·refine yab (h _ u ((q.cons _).trans ?_));exact jQ o
theorem A5{α:Type}(next:Nat->Nat):∀(n k:Nat)(left:List α)(out:Array α),left.length=n->(pickOrder.go next n k left out).toList.Perm (out.toList++left)
 |0,k,left,out,h=>by
  obtain rfl:left=[]:=zaa h;unfold pickOrder.go;simp
 |n+1,k,left,out,h=>by
  unfold pickOrder.go;have a:next k % left.length<left.length:=zcF _ (by simp_all)
  rw[zam a];refine(A5 next n (k+1) _ _ ?_).trans ?_
  ·rw[List.length_eraseIdx,yIp a,h];rfl
  ·rw[zbl,zbd];exact(jQ a).append_left _
def CJ{α:Type}(next)(a:Array α):(pickOrder next a).toList.Perm a.toList:=by
 delta pickOrder;have:=A5 next a.size 0 a.toList #[] zaN
 simp_all
end M5
namespace M5
open PySem PySem.Spec PyProof.Rows
def next_item{sl nx:Nat}(j:jx s.heap I (rawInt sl) i a n ep)(S:yg s.heap a es ep t)(L:t.fits es.size=true)(X:es.size=n)(H:∀{A':yal}{G:Option (yai×Nat)->yah->Prop}{W:yai->yah->Prop},G (some (d,nx)) s->yar (model prog w) A' (setNext a sl i ep) G W s)(U:∀h',jx h' I (rawInt nx) (i+1) a n ep->Heap.SameBut I s.heap h'->g (some d) {s with heap:=h'}):yar (model prog w) A (pyNext (.ref I)) g E s:=by
 let⟨o,y,P,hd⟩:=id j;let⟨os,v,O,C⟩:=id S;refine yaa (wpAny_attempt (wpAny_callSpecial?_slot j.typeIs F.slot_next (wpAny_call_entry F.slot_next j.typeIs F.entry_next ?_ (F.args_next _))));refine yaa (wpAny_of_eq rfl ?_);refine yaa (wpAny_fieldsOf y hd ?_);refine yaa (wpAny_setEntries_of v C L ?_);rw[yIn (by simp_all)];refine yaa (H ?_);refine yaa (wpAny_setField y hd (by simp) ?_);have u:=zaB (Obj.mapFields (·.setIfInBounds 0 (rawInt nx))) y (Obj.isFreed_of_fields (Obj.data_mapFields hd _));have q:=Obj.data_mapFields hd (·.setIfInBounds 0 (rawInt nx));refine yaa (wpAny_setField u q (by simp) ?_);refine yab ⟨d,rfl,yab (U _ ?_ ((Heap.SameBut.update ..).trans (Heap.SameBut.update ..)))⟩;refine⟨_,zaB _ u (Obj.isFreed_of_fields (Obj.data_mapFields q _)),(Obj.cls_mapFields ..).trans ((Obj.cls_mapFields ..).trans P),by
  rw[Obj.data_mapFields q];rfl⟩
def next_end{sl:Nat}(x:A.handled=none)(j:jx s.heap I (rawInt sl) i a n ep)(O:yg s.heap a es ep t)(G:t.fits es.size=true)(W:es.size=n)(C:∀{A':yal}{y:Option (yai×Nat)->yah->Prop}{S:yai->yah->Prop},y none s->yar (model prog w) A' (setNext a sl i ep) y S s)(P:∀h',Heap.ExtBut I s.heap h'->d none {s with heap:=h'}):yar (model prog w) A (pyNext (.ref I)) d E s:=by
 let⟨o,v,X,hd⟩:=id j;let⟨os,q,H,u⟩:=id O;refine yaa (wpAny_attempt (wpAny_callSpecial?_slot j.typeIs F.slot_next (wpAny_call_entry F.slot_next j.typeIs F.entry_next ?_ (F.args_next _))));refine yaa (wpAny_of_eq rfl ?_);refine yaa (wpAny_fieldsOf v hd ?_);refine yaa (wpAny_setEntries_of q u G ?_);rw[yIn (by simp_all)];refine yaa (C ?_);refine yaa (wpAny_setField v hd (by simp) ?_);refine yaa ?_;refine yaa (yae ?_ (by size_fits));refine yaa (wpAny_of_eq (by rfl) ?_);refine yae ?_ (by size_fits);simp only[raiseNew];refine yaa (wpAny_handled ?_)
 first|rw[show A.in1.handled=none from x]|rw[x]
 refine yaa (yab (wpAny_throw ?_));refine yaa (wpAny_isInstance ⟨_,zaO _ rfl,rfl⟩ isSubtype_stop ?_);refine yab (P _ (Heap.ExtBut.push (Heap.ExtBut.push ?_ _) _));exact λb U L e=>(zav _ _ (Ne.symm L)).trans e
def yV{pl:Nat}(j:jx s.heap I (.ref T) i a n ep)(X:yg s.heap a es ep t)(G:t.fits es.size=true)(hn:es.size=n)(W:s.heap.IsTuple T d)(L:d[i]? =some (.int pl tk))(O:es[pl]? =some (g,k))(Y:∀h',jx h' I (.ref T) (i+1) a n ep->Heap.SameBut I s.heap h'->r (some k) {s with heap:=h'}):yar (model prog w) A (pyNext (.ref I)) r E s:=by
 let⟨o,y,U,hd⟩:=id j;let⟨os,q,S,u⟩:=id X;obtain⟨Z,v,P,nt,C⟩:=id W;refine yaa (wpAny_attempt (wpAny_callSpecial?_slot j.typeIs F.slot_next (wpAny_call_entry F.slot_next j.typeIs F.entry_next ?_ (F.args_next _))));refine yaa (wpAny_of_eq rfl ?_);refine yaa (wpAny_fieldsOf y hd ?_);refine yaa (wpAny_setEntries_of q u G ?_);rw[yIn (by simp_all)];refine yaa (wpAny_seqItems v C ?_);dsimp only;rw[zbk,L];refine yaa ?_;refine yaa (wpAny_setState_of q u G ?_);dsimp only;rw[yIn (by simp),zbk,O];refine yab ?_;refine yaa (wpAny_setField y hd (by simp) ?_);refine yab ⟨k,rfl,yab (Y _ ?_ (Heap.SameBut.update ..))⟩;refine⟨_,zaB _ y (Obj.isFreed_of_fields (Obj.data_mapFields hd _)),(Obj.cls_mapFields ..).trans U,by
  rw[Obj.data_mapFields hd];rfl⟩
def CU(G:A.handled=none)(j:jx s.heap I (.ref T) i a n ep)(W:yg s.heap a es ep t)(O:t.fits es.size=true)(hn:es.size=n)(U:s.heap.IsTuple T d)(L:d[i]? =none)(X:∀h',Heap.ExtBut I s.heap h'->g none {s with heap:=h'}):yar (model prog w) A (pyNext (.ref I)) g E s:=by
 let⟨o,x,hc,hd⟩:=id j;let⟨os,u,S,C⟩:=id W;let⟨Y,q,P,nt,y⟩:=id U;refine yaa (wpAny_attempt (wpAny_callSpecial?_slot j.typeIs F.slot_next (wpAny_call_entry F.slot_next j.typeIs F.entry_next ?_ (F.args_next _))));refine yaa (wpAny_of_eq rfl ?_);refine yaa (wpAny_fieldsOf x hd ?_);refine yaa (wpAny_setEntries_of u C O ?_);rw[yIn (by simp_all)];refine yaa (wpAny_seqItems q y ?_);dsimp only;rw[zbk,L];refine yaa (wpAny_setField x hd (by simp) ?_);have v:=zaB (Obj.mapFields (·.setIfInBounds 0 (rawInt 0))) x (Obj.isFreed_of_fields (Obj.data_mapFields hd _));refine yaa (wpAny_setField v (Obj.data_mapFields hd _) (by simp) ?_);refine yaa ?_;refine yaa (yae ?_ (by size_fits));refine yaa (wpAny_of_eq (by rfl) ?_);refine yae ?_ (by size_fits);simp only[raiseNew];refine yaa (wpAny_handled ?_)
 first|rw[show A.in1.handled=none from G]|rw[G]
 refine yaa (yab (wpAny_throw ?_));refine yaa (wpAny_isInstance ⟨_,zaO _ rfl,rfl⟩ isSubtype_stop ?_);refine yab (X _ (Heap.ExtBut.push (Heap.ExtBut.push ?_ _) _));exact λb Z H e=>(zav _ _ (Ne.symm H)).trans ((zav _ _ (Ne.symm H)).trans e)
def Bs(j:jx s.heap I d i a n ep)(h:Q (.ref I) s):yar (model prog w) A (pyIter (.ref I)) Q E s:=by
 refine wpAny_pyIter_slot j.typeIs F.rH (wpAny_call_entry F.rH j.typeIs F.zF ?_ (F.Du _));exact yab ⟨_,rfl,"set_iterator",_,j.typeIs,F.slot_next.lookup,h⟩
def D6{j:List yai}{sl:Nat->Nat}(hh:A.handled=none)(H:a≠I)(X:t.fits es.size=true)(U:j.length=es.size)(Y:∀i x,j[i]? =some x->∀{A':yal}{q:yah}{F:Option (yai×Nat)->yah->Prop}{S:yai->yah->Prop},yg q.heap a es ep t->F (some (x,sl (i+1))) q->yar (model prog w) A' (setNext a (sl i) i ep) F S q)(he:∀{A':yal}{q:yah}{F:Option (yai×Nat)->yah->Prop}{S:yai->yah->Prop},yg q.heap a es ep t->F none q->yar (model prog w) A' (setNext a (sl j.length) j.length ep) F S q):
  Walks prog w A I [I,a] [I] j.length (λi v=>j[i]? =some v) (λi h=>jx h I (rawInt (sl i)) i a es.size ep/\yg h a es ep t) where
 sub:=λb G=>by simp_all
 frame:=λ_ _ _ x W=>⟨x.1.at λo e=>W I (by simp) o e,x.2.at λo e=>W a (by simp) o e⟩
 item:=λi s Q E Z x C=>by
  have hx  :=zam Z;refine next_item x.1 x.2 X rfl (Y i _ hx x.2) λO y u=>?_;exact C _ O s.toks hx ⟨y,x.2.at λo e=>(u.2 a H).trans e⟩ λb o G P=>u.extBut b o (λz=>G (by simp[z])) P
 done:=λs Q E x C=>next_end hh x.1 x.2 X rfl (he x.2) λO L=>C O s.toks λb o G P=>L b o (λz=>G (by simp[z])) P
 self:=λ_ _ _ _ x C=>Bs x.1 C
def OA{ps:List Nat}{j:List yai}(Y:A.handled=none)(H:a≠I)(Z:T≠I)(U:t.fits es.size=true)(X:j.length=ps.length)(W:∀i (h)(h2:i<j.length),∃k,es[ps[i]]? =some (k,j[i])):
  Walks prog w A I [I,a,T] [I] j.length (λi v=>j[i]? =some v) (λi h=>jx h I (.ref T) i a es.size ep/\yg h a es ep t/\h.IsTuple T (ps.map λ(i:Nat)=>rawInt i).toArray) where
 sub:=λb G=>by grind
 frame:=λ_ _ _ x u=>⟨x.1.at λo e=>u I (by simp) o e,x.2.1.at λo e=>u a (by simp) o e,x.2.2.at λo e=>u T (by simp) o e⟩
 item:=λi s Q E S x F=>by
  have hx  :=zam S;have C:i<ps.length:=by lia
  let⟨k,u⟩:=W i C S;refine yV (tk:=0) x.1 x.2.1 U rfl x.2.2 (by simp[C,rawInt]) u λO y q=>?_;exact F _ O s.toks hx ⟨y,x.2.1.at λo e=>(q.2 a H).trans e,x.2.2.at λo e=>(q.2 T Z).trans e⟩ λb o G P=>q.extBut b o (λz=>G (by simp[z])) P
 done:=λs Q E x F=>CU Y x.1 x.2.1 U rfl x.2.2 (by simp[X]) λO L=>F O s.toks λb o G P=>L b o (λz=>G (by simp[z])) P
 self:=λ_ _ _ _ x F=>Bs x.1 F
def oq(h:d (w.params.followText "set-order") s):yar (model prog w) A setsByText d E s:=by
 exact yaa (wpAny_askSetting (yab h))
def Ny(u:w.params.followText "set-order"=true)(v:yg s.heap a es ep t)(q:t.fits es.size=true)(h:d (((pickOrder (w.params.setOrder a ep) es)[i]?).map λe=>(e.2,0)) s):yar (model prog w) A (setNext a 0 i ep) d E s:=by
 let⟨o,j,x,hd⟩:=v;refine yaa (wpAny_setState_of j hd q ?_);refine yaa (oq ?_);rw[yIp u];rw[yIn (by simp)];refine yaa ?_;refine yaa (wpAny_setState_of j hd q ?_);refine yaa (oq ?_);rw[yIp u];refine yaa (wpAny_askSetting (yab ?_));exact yab h
def Oe(vs:List yai)(S:List Str):Prop:=(∀v∈vs,∃x t,v=.str x t)/\(vs.map strOf).Perm S
def Eh(a:ElemsOf (PySem.strKind prog w) es.toList)(o:(es.toList.map λe=>strOf e.2).Perm g)(h:d.Perm (es.toList.map (·.2))):Oe d g:=by
 refine⟨λv j=>?_,(h.map _).trans (by rw[zcn];exact o)⟩;let⟨e,s,rfl⟩:=zcm.mp (h.mem_iff.mp j);let⟨⟨k,q,_⟩,_⟩:=a e s;let⟨t,z⟩:=Value.isStrOf_shape q;refine⟨k,t,z⟩
def pull{α:Type}(es:Array α)(ps:List Nat)(h:ps.Perm (zcE es.size)):∃l:List α,l.length=ps.length/\l.Perm es.toList/\∀i (h)(h2:i<l.length),es[ps[i]]? =some l[i]:=by
 have all:∀p∈ps,p<es.size:=λp j=>zbV.mp (h.mem_iff.mp j);have key:∀a:List Nat,(∀p∈a,p<es.size)->∃l:List α,l.length=a.length/\l=a.filterMap (λi=>es[i]?)/\∀i h (h2:i<l.length),es[a[i]]? =some l[i]:=by
  intro a
  induction a with
  |nil=>exact λ_=>⟨[],rfl,rfl,λi h=>by simp at h⟩
  |cons q r ih=>
   intro v;let⟨l,s,u,o⟩:=ih λp j=>v p (zaC _ j);have x:=v q zaQ;refine⟨es[q]::l,by simp[s],by simp_all,λi h h2=>?_⟩;cases i with
   |zero=>simp
   |succ i=>exact o i (by simp_all) (by simpa using h2)
 let⟨l,s,u,o⟩:=key ps all;refine⟨l,s,?_,o⟩;rw[u,<-filterMap_getElem?_range es];exact h.filterMap _
end M5
namespace M7
open PySem PySem.Spec PyProof.Rows M5
def rq(a:Array Nat):Prop:=∀i j,i<j->(o:j<a.size)->(q:i<a.size)->a[i]<a[j]
theorem qk{o:Array Nat}(q:rq o)(j:Nat):∀(f lo a:Nat),a - lo<=f->lo<=a->a<=o.size->(∀i (h:i<o.size),i<lo->o[i]<j)->(∀i (h:i<o.size),a<=i->j<=o[i])->
  SetTable.below.go o j f lo a<=o.size/\(∀i (h:i<o.size),i<SetTable.below.go o j f lo a->o[i]<j)/\∀i (h:i<o.size),SetTable.below.go o j f lo a<=i->j<=o[i]
 |0,lo,a,h1,h2,h3,h4,h5=>by
  have:a=lo:=by lia
  subst this;refine⟨h3,h4,h5⟩
 |f+1,lo,a,h1,h2,h3,h4,h5=>by
  rw[SetTable.below.go.eq_2];by_cases x:lo<a
  ·rw[yIp x];dsimp only;have v:(lo+a) / 2<o.size:=by lia
   have y:o.getD ((lo+a) / 2) j=o[(lo+a) / 2]:=by simp_all
   rw[y];by_cases u:o[(lo+a) / 2]<j
   ·rw[yIp u];refine qk q j f _ a (by (simp_all;lia)) (by lia) h3 (λi h s=>?_) h5;obtain z|z:=zct i ((lo+a) / 2)
    ·have:=q i _ z v h;lia
    ·obtain rfl:i=(lo+a) / 2:=by lia
     exact u
   ·rw[yIn u];refine qk q j f lo _ (by lia) (by lia) (by lia) h4 (λi h s=>?_);obtain z|z:=zct ((lo+a) / 2) i
    ·have:=q _ i z h v;lia
    ·obtain rfl:i=(lo+a) / 2:=by lia
     simp_all
  ·rw[yIn x];have:a=lo:=by lia
   subst this;refine⟨h3,h4,h5⟩
def k7(o:rq d)(j):SetTable.below d j<=d.size/\(∀i (h),i<SetTable.below d j->d[i]<j)/\∀i (h),SetTable.below d j<=i->j<=d[i]:=
 qk o j d.size 0 d.size (by lia) (zcB _) (zcA _) (λi h z=>absurd z (zbP _)) (λi h z=>by lia)
def zQ(j:rq d)(q):SetTable.below d (d[i]+1)=i+1:=by
 let⟨h1,h2,s⟩:=k7 j (d[i]+1);have u:i<SetTable.below d (d[i]+1):=by
  obtain z|z:=zct i (SetTable.below d (d[i]+1))
  ·exact z
  ·have:=s i q z;lia
 obtain z|z:=zct (i+1) (SetTable.below d (d[i]+1))
 ·have o:i+1<d.size:=by lia
  have:=h2 (i+1) o z;have:=j i (i+1) (by lia) o q;lia
 ·lia
def zP(j:rq d):SetTable.below d 0=0:=by
 let⟨h1,h2,o⟩:=k7 j 0;obtain z|z:=Nat.eq_zero_or_pos (SetTable.below d 0)
 ·exact z
 ·have:=h2 0 (by lia) z;simp_all
def Nx(F:w.params.followText "set-order"=false)(v:yg s.heap a es ep t)(u:t.fits es.size=true)(h1:(!t.plain&&decide (es.size> 1))=false)(y:t.led=true)(h:g (match es[SetTable.below t.place d]?,t.place[SetTable.below t.place d]? with|some (_,x),some j=>some (x,j+1)|_,_=>none) s):yar (model prog w) A (setNext a d i ep) g E s:=by
 let⟨o,q,C,hd⟩:=v;refine yaa (wpAny_setState_of q hd u ?_);refine yaa (oq ?_);rw[yIn (by simp_all)];rw[yIn (by
  show¬((!t.plain&&decide (es.size> 1))=true);rw[h1];decide)]
 refine yaa ?_;show yar _ _ (if(!t.led&& !es.isEmpty)=true then unsupported "set:maker-not-led" else pure ()) _ _ _;rw[yIn (by simp_all)];refine yab (yab ?_);exact h
def xV(w:yak)(h:Heap)(a:Addr)(es:Array (Int×yai))(j:Nat)(t:SetTable):Prop:=
 ∃o,h.get? a=some o/\o.ExactSet/\o.data=.set es j t/\t.fits es.size=true/\t.led=(!w.params.followText "set-order")/\(t.plain=true->rq t.place)
def xV.keep(x:xV d h a es ep t)(e:∀o,h.get? a=some o->h'.get? a=some o):xV d h' a es ep t:=
 by let⟨o,j,r⟩:=x;refine⟨o,e o j,r⟩
theorem GV(hS:xV w s.heap a es ep t)(hn:es.size<4000)(h:∀(I:Addr)(O:List yai)(fp:List Addr)(St:Nat->Heap->Prop)(h':Heap) d,(∀b o,s.heap.get? b=some o->h'.get? b=some o)->s.heap.objs.size<=I->(∀b∈fp,b=a∨s.heap.objs.size<=b)->(∀{A':yal},A'.handled=none->Walks prog w A' I fp [I] O.length (λi v=>O[i]? =some v) St)->St 0 h'->O.Perm (es.toList.map (·.2))->Q (.ref I) {s with heap:=h',drawn:=d}):
  yar (model prog w) A (pyIter (.ref a)) Q E s:=by
 let⟨o,H,L,hd,y,G,hpl⟩:=hS;have sa:yg s.heap a es ep t:=⟨o,H,L.1,hd⟩
 have la  :=zcy H;refine wpAny_pyIter_slot sa.typeIs M5.F.oO (wpAny_call_entry M5.F.oO sa.typeIs M5.F.xg ?_ (M5.F.zT _));refine yaa (wpAny_of_eq rfl ?_);refine yaa (yaa (wpAny_setEntries_of H hd y (yab ?_)));refine yaa ?_;refine yaa (wpAny_setState_of H hd y ?_);refine yaa (oq ?_);refine yab ?_;cases hb:w.params.followText "set-order" with
 |true=>
  refine yaa (yab ?_);refine yaa (wpAny_setEpoch_of H hd y ?_);refine yaa (yae ?_);have U:=zau (R8 (rawInt 0) 0 a es.size ep) H;have W:jx (s.heap.push (R8 (rawInt 0) 0 a es.size ep)) s.heap.objs.size (rawInt 0) 0 a es.size ep:=⟨_,zaO _ rfl,rfl,rfl⟩
  refine yab ⟨_,rfl,"set_iterator",_,⟨_,zaO _ rfl,rfl⟩,M5.F.slot_next.lookup,?_⟩;have X:=CJ (w.params.setOrder a ep) es;refine h s.heap.objs.size ((pickOrder (w.params.setOrder a ep) es).toList.map (·.2)) [s.heap.objs.size,a] _ _ s.drawn (λb o e=>zau _ e) (zcA _) (λb z=>?_)
   (λ{A'} Z=>D6 (sl:=λ_=>0) Z (zco la) y (by rw[zbF,X.length_eq,zaN]) ?_ ?_) ⟨W,_,U,L.1,hd⟩ (X.map _)
  ·grind
  ·intro i x C A' s' Q' E' u q;refine Ny hb u y ?_;rw[zbb,zaA] at C;cases hy:(pickOrder (w.params.setOrder a ep) es)[i]? with
   |none=>rw[hy] at C;cases C
   |some e=>rw[hy] at C;injection C with C;subst C;exact q
  ·intro A' s' Q' E' u q;refine Ny hb u y ?_;rw[zas (by simp)];exact q
 |false=>
  rw[hb] at G;have S  :=by
   simp only[SetTable.fits,zbB,beq_iff_eq] at y;exact y.1
  by_cases hz:(!t.plain&&decide (es.size> 1))=false
  ·have hR  :=by
    cases Y:t.plain with
    |true=>exact hpl Y
    |false=>
     rw[Y] at hz;have hz:=of_decide_eq_false hz;intro i j hij hj _;lia
   rw[yIn (by
    show¬((!false&&(!t.plain&&decide (es.size> 1)))=true);rw[hz];decide)]
   refine yaa (yab ?_);refine yaa (wpAny_setEpoch_of H hd y ?_);refine yaa (yae ?_);have U:=zau (R8 (rawInt 0) 0 a es.size ep) H;have W:jx (s.heap.push (R8 (rawInt 0) 0 a es.size ep)) s.heap.objs.size (rawInt 0) 0 a es.size ep:=⟨_,zaO _ rfl,rfl,rfl⟩
   refine yab ⟨_,rfl,"set_iterator",_,⟨_,zaO _ rfl,rfl⟩,M5.F.slot_next.lookup,?_⟩;have NX:∀i,i<=es.size->SetTable.below t.place (if i=0 then 0 else t.place.getD (i - 1) 0+1)=i:=λi hi=>by
    by_cases h0:i=0
    ·subst h0;exact zP hR
    ·rw[yIn h0];have h1:i - 1<t.place.size:=by omega
     have e1:t.place.getD (i - 1) 0=t.place[i - 1]:=by simp[h1]
     rw[e1,zQ hR h1];lia
   refine h s.heap.objs.size (es.toList.map (·.2)) [s.heap.objs.size,a] _ _ s.drawn (λb o e=>zau _ e) (zcA _) (λb z=>?_)
    (λ{A'} Z=>D6 (sl:=λi=>if i=0 then 0 else t.place.getD (i - 1) 0+1) Z (zco la) y (by simp) ?_ ?_) ⟨W,_,U,L.1,hd⟩ (.refl _)
   ·grind
   ·intro i x C A' s' Q' E' u q;have hi:i<es.size:=by
     have:=(zaf.mp C).1;simp_all
    refine Nx hb u y hz G ?_;rw[zbb,zaA,zak hi] at C;injection C with C;subst C;rw[NX i (by lia),zak hi,zak (by simp_all:i<t.place.size)];have e1:(if i+1=0 then 0 else t.place.getD (i+1 - 1) 0+1)=t.place[i]'(by simp_all)+1:=by
     simp_all
    rw[e1] at q;exact q
   ·intro A' s' Q' E' u q;refine Nx hb u y hz G ?_;rw[zbF,zaN];have en:es[SetTable.below t.place (if es.size=0 then 0 else t.place.getD (es.size - 1) 0+1)]? =none:=by
     rw[NX es.size (zcA _)];simp
    rw[en];exact q
  ·have hz:(!t.plain&&decide (es.size> 1))=true:=by lia
   rw[yIp (by
    show(!false&&(!t.plain&&decide (es.size> 1)))=true;rw[hz];rfl)]
   refine yaa (xN _ _ (by simp) λps d S=>?_);let⟨l,e1,e2,e3⟩:=pull es ps S;refine yaa ?_;refine yae ?_ (by
    have:ps.length=es.size:=by rw[S.length_eq,zbe]
    show(ps.map λ(i:Nat)=>rawInt i).toArray.size<=yag;rw[zba,zbF,yaf];lia)
   refine yaa (wpAny_setEpoch_of (zau _ H) hd y ?_);refine yaa (yae ?_);generalize P:({cls:=.type "tuple",data:=.seq (ps.map λ(i:Nat)=>rawInt i).toArray}:Obj)=to;have hT1:(s.heap.push to).get? s.heap.objs.size=some to:=zaO _ (by rw[<-P];rfl);have z1:(s.heap.push to).objs.size=s.heap.objs.size+1:=zcc ..;have gI:((s.heap.push to).push (R8 (.ref s.heap.objs.size) 0 a es.size ep)).get? (s.heap.push to).objs.size=some (R8 (.ref s.heap.objs.size) 0 a es.size ep):=zaO _ rfl;refine yab ⟨_,rfl,"set_iterator",_,⟨_,gI,rfl⟩,M5.F.slot_next.lookup,?_⟩;refine h (s.heap.push to).objs.size (l.map (·.2)) [(s.heap.push to).objs.size,a,s.heap.objs.size] _ _ d (λb o e=>zau _ (zau _ e)) (by simp) (λb z=>?_)
    (λ{A'} Z=>OA (ps:=ps) Z (by rw[z1];exact zco (zbi la)) (by simp) y (by simp_all) (λi h1 h2=>?_)) ⟨⟨_,gI,rfl,rfl⟩,⟨_,zau _ (zau _ H),L.1,hd⟩,⟨_,zau _ hT1,by rw[<-P],0,by rw[<-P]⟩⟩ (e2.map _)
   ·grind
   ·have h3:i<l.length:=by simp_all
    refine⟨l[i].1,?_⟩;rw[e3 i h1 h3,List.getElem_map]
def De(j:s.TypeIs (.ref a) "set")(h:d false s):yar (model prog w) A (Builtin.List.listLengthHint (.ref a)) d E s:=by
 refine yaa (wpAny_specialOf j PySem.F.slot_set_len.lookup ?_);refine yaa (wpAny_isInstance j sub_set_self ?_);refine yaa (wpAny_typeOf j ?_);exact yab h
def zE(hh:A.handled=none)(hS:xV w s.heap a es ep t)(hn:es.size<4000)(Y:s.heap.get? L=some {cls:=.type "list",data:=.seq #[]})(G:L≠a)(hR:∀q (j:List yai) y,(∀b o,b≠L->s.heap.get? b=some o->q.heap.get? b=some o)->q.gens=s.gens->q.os=s.os->q.heap.get? L=some {cls:=.type "list",dict:=none,data:=.seq j.toArray y,slots:=#[]}->j.Perm (es.toList.map (·.2))->R (.ok (.ret (.ref L))) q):
  yar (model prog w) A.in1 (Builtin.List.listExtendWith (.ref L) (.ref a) (.ref L))
   (λZ q=>match Z with|.done f=>R (.ok f) q|.again y=>y.quiet=true/\codeAny (model prog w) A y R q) (λe q=>R (.error e) q) s:=by
 have tS:s.TypeIs (.ref a) "set":=by let⟨o,Q,X,_⟩:=hS;refine⟨o,Q,X.1⟩
 refine yaa (wpAny_typeOf tS ?_);have h1:Builtin.List.listSameRef (.ref L) (.ref a)=false:=by simp[Builtin.List.listSameRef,G]
 simp only[h1];refine yaa (GV hS hn λI j fp St H d kp hI U W P tx=>?_);have ll  :=zcy Y;have hLf  :=λz=>(U L z).elim G λz=>absurd ll (Nat.not_lt.mpr z);have O:Shared.TypeIs {s with heap:=H,drawn:=d} (.ref a) "set":=by let⟨o,Q,hc⟩:=tS;refine⟨o,kp _ _ Q,hc⟩
 refine yaa (yad (De O ?_));refine yaa (wpAny_rule ?_);refine yaa ?_;refine yaa (wpAny_updateSeq (kp _ _ Y) rfl ?_);have g2:=zaB (Obj.mapSeq (·.push Value.none)) (kp _ _ Y) rfl;refine wpAny_updateSeq g2 rfl ?_;have g3:=zaB (Obj.mapSeq (·.pop)) g2 rfl;have C:∀b o,b≠L->H.get? b=some o->((H.update L (Obj.mapSeq (·.push Value.none))).update L (Obj.mapSeq (·.pop))).get? b=some o:=
  λb o x e=>(zav _ _ (Ne.symm x)).trans ((zav _ _ (Ne.symm x)).trans e)
 have ab:j.length=es.size:=by rw[tx.length_eq,zbF,zaN]
 have WS:=(W (A':=A.in1) hh).toS;refine yab ⟨plainId_quiet PySem.F.plain_extend_loop _,codeAny_extend_loopS WS (by rw[yaf];lia) _ hLf _ j.length 0 _ _ _ rfl (zcB _) (WS.frame 0 {s with heap:=H,drawn:=d} _ s.toks P (zcA _) λb x o e=>C b o (λz=>hLf (z▸x)) e) g3 (ItemsOf.nil _) λq v y S E u=>?_⟩;have ea:v=j.toArray:=by
  refine Array.ext (by rw[u.1,zba]) λi h1 h2=>?_;have z  :=u.2 i v[i] (zak h1);have h2  :=by simpa using h2
  simp_all
 rw[ea] at E;refine hR q j y (λb o x e=>?_) S.gens S.os E tx;refine S.heap b o ?_ (C b o x (kp b o e));simp only[zcd,zbw,or_false];rintro(z|z)
 ·exact x z
 ·have:=zcy e;rw[z] at this;exact absurd this (Nat.not_lt.mpr hI)
def rg(E:A.handled=none)(v:xV w s.heap a es ep t)(C:es.size<4000)(F:∀q (j:List yai) u,(∀b o,s.heap.get? b=some o->q.heap.get? b=some o)->q.gens=s.gens->q.os=s.os->q.heap.get? s.heap.objs.size=some {cls:=.type "list",dict:=none,data:=.seq j.toArray u,slots:=#[]}->j.Perm (es.toList.map (·.2))->R (.ok (.ret (.ref s.heap.objs.size))) q):
  codeAny (model prog w) A (.builtin "proto.collect" ⟨[.ref a],[]⟩) R s:=by
 have x:a<s.heap.objs.size:=by let⟨o,y,_⟩:=v;exact zcy y
 refine codeAny_builtin entry_proto_collect' ?_;refine yaa (wpAny_newList (yab ⟨Code.quiet_builtin _ (by decide+kernel),codeAny_builtin entry_list_iadd' ?_⟩));refine zE ?_ (v.keep λo e=>zau _ e) C (zaO _ rfl) (zcr x) λq j u kp H G g tx=>?_
 ·exact E
 ·exact F q j u (λb o e=>kp b o (zco (zcy e)) (zau _ e)) H G g tx
def nA(v:A.handled=none)(x:xV w s.heap a es ep t)(u:es.size<4000)(h:∀q (j),(∀b o,s.heap.get? b=some o->q.heap.get? b=some o)->q.gens=s.gens->q.os=s.os->s.heap.objs.size<=q.heap.objs.size->j.Perm (es.toList.map (·.2))->d j q):yar (model prog w) A (collect (.ref a)) d E s:=by
 refine yaa (wpAny_runValue (rg v x u λq j F kp C y g tx=>?_));refine yaa (wpAny_load g ?_);exact yab (h q j kp C y (zcq (zcy g)) tx)
end M7
namespace M5
open PySem PySem.Spec PyProof.Rows
def yf.raw(L:yf prog w s.heap a d):∃es y t,M7.xV w s.heap a es y t/\ElemsOf (PySem.strKind prog w) es.toList/\(es.toList.map λe=>strOf e.2).Perm d:=by
 let⟨o,G,es,y,t,v,hd,x,F,u,q,C⟩:=L;refine⟨es,y,t,⟨o,G,v,hd,u,q,λE=>?_⟩,x,F⟩;intro i j I H _;rw[(by simp only[SetTable.fits,zbB,beq_iff_eq] at u;exact u.1:t.place.size=es.size)] at H;simp_all
def xC(C:A.handled=none)(F:yf prog w s.heap a d)(y:d.length<4000)(h:∀q (j),(∀b o,s.heap.get? b=some o->q.heap.get? b=some o)->q.gens=s.gens->q.os=s.os->s.heap.objs.size<=q.heap.objs.size->Oe j d->g j q):yar (model prog w) A (collect (.ref a)) g E s:=by
 obtain⟨O,P,t,x,u,v⟩:=F.raw;exact M7.nA C x (by rw[<-zaN,<-zbF,v.length_eq];exact y) λq j L I H G tx=>h q j L I H G (Eh u v tx)
def yx(H:A.handled=none)(L:yf prog w s.heap a d)(hn:d.length<64)(h:∀(p:Addr) q (out)(ss) c,(∀b o,s.heap.get? b=some o->q.heap.get? b=some o)->q.gens=s.gens->q.os=s.os->s.heap.objs.size<=p->q.heap.get? p=some (seqObj "list" out.toArray c)->StrsAre out ss->ss.Perm d->sortedS ss=true->Q (.ref p) q):
  yar (model prog w) A (call (.builtin "sorted") [.ref a]) Q E s:=by
 refine zal kind_sorted plain_sorted entry_sorted (args_sorted1 _) ?_;refine yaa (yab ?_);refine yaa (xC ?_ L (by lia) λx j kp P O le tx=>?_)
 ·exact H
 refine yaa (wpAny_newList ?_ (by have:=tx.2.length_eq;rw[zbF] at this;first|(rw[yaf];lia)|(rw[zba,yaf];lia)));have hl:j.length=d.length:=by rw[<-tx.2.length_eq,zbF]
 have hSA  :=strsAre_map j tx.1;have y:(x.heap.push (seqObj "list" j.toArray 0)).get? x.heap.objs.size=some (seqObj "list" j.toArray 0):=zaO _ rfl;refine yaa (yad (wpAny_call_entry slot_list_sort ⟨_,y,rfl⟩ entry_list_sort (list_sort_treeK strKind_oneLt y hSA.keysOf (λF C rest e=>keyKind_strs (by rw[<-e];exact hSA)) (by simp_all) λu Z Y=>⟨_,rfl,?_⟩) (args_list_sort _)));let⟨v,X,W,U⟩:=sorted_out_str hSA Z Y;obtain⟨c,I⟩:=sortedHeap_at y;refine yab ⟨_,rfl,h x.heap.objs.size _ ((arrOf u).map (·.2)).toList v c (λb o e=>?_) P O le ?_ X (W.trans tx.2) U⟩
 ·have G:=zcy (kp b o e);rw[sortedHeap_old (zco G) (by rw[size_push'];exact zbi G)];exact zau _ (kp b o e)
 ·exact I
end M5
namespace L2
open PySem PySem.Spec PyProof.Rows
def Inv.Xd(I:Inv X pins σ H s)(d:Drawn):Inv X pins σ H {s with drawn:=d}:=
 ⟨I.ok,I.os,I.bare,I.base,I.loc,I.cell,I.free,I.g8,I.pin,I.hok,I.len⟩
end L2
namespace M
open PySem PySem.Spec PyProof.Rows L2
def xR(a:AE):AE:=λs S Q=>a s S λr q=>∃o:List Str,(aX q r.d=.tup (o.map D.str)∨aX q r.d=.lst (o.map D.str))/\o.length<64/\
 ∀j:List Str,j.Nodup->(∀y,y∈j↔y∈o)->sortedS j=true->Q (.new (.lst (j.map D.str))) q
noncomputable def dN(ks:List Key)(ds:List D)(k:Key):Option D:=((ks.zip ds).find? λp=>decide (p.1=k)).map (·.2)
noncomputable def iO(ks:List Key)(ds:List D)(k:Key)(d:D):MO:=if(ks.any λj=>decide (j=k))=true then .dct ks ((ks.zip ds).map λp=>if p.1=k then d else p.2) else .dct (ks++[k]) (ds++[d])
theorem kR{w:Wd}{k:Key}{d:D}:∀{a:List (Key×V)}{ds:List D},av K w ds (a.map (·.2))->dN (a.map (·.1)) ds k=some d->∃v,eY a k=some v/\Rep K w d v
 |[],ds,h,e=>by simp[dN] at e
 |(j,u)::r,ds,h,e=>by
  cases ds with
  |nil=>simp[dN] at e
  |cons x ds=>
   let⟨s,y,q,h1,h2⟩:=h;injection q with e1 e2;subst e1;subst e2;delta dN at e;delta eY;by_cases o:j=k
   ·rw[zcf,zaR,List.find?_cons_of_pos (by simpa using o)] at e;rw[List.find?_cons_of_pos (by simpa using o)];cases e;refine⟨u,rfl,h1⟩
   ·rw[zcf,zaR,List.find?_cons_of_neg (by simpa using o)] at e;rw[List.find?_cons_of_neg (by simpa using o)];exact kR h2 e
theorem vM(g:Rep K F d J):∀{a:List (Key×V)}{ds:List D},av K F ds (a.map (·.2))->
  av K F (((a.map (·.1)).zip ds).map λp=>if p.1=k then d else p.2) ((a.map λq=>if q.1=k then(q.1,J) else q).map (·.2))
 |[],ds,h=>by
  cases ds with
  |nil=>exact .nil
  |cons x ds=>let⟨_,_,z,_⟩:=h;cases z
 |(j,u)::r,ds,h=>by
  cases ds with
  |nil=>cases h
  |cons x ds=>
   let⟨y,C,s,h1,h2⟩:=h;injection s with e1 e2;subst e1;subst e2;simp only[zcf,zaR];refine .cons ?_ (vM g h2);by_cases o:j=k
   ·rw[yIp o,yIp o];exact g
   ·rw[yIn o,yIn o];exact h1
def vQ(g:Rep K q d v)(h:av K q ds (kvs.map (·.2))):mK K q (iO (kvs.map (·.1)) ds k d) (.dK (putK kvs k v)):=by
 delta iO putK;have e:((kvs.map (·.1)).any λj=>decide (j=k))=(kvs.any λa=>decide (a.1=k)):=by
  rw[zcl];rfl
 rw[e];by_cases o:(kvs.any λa=>decide (a.1=k))=true
 ·rw[yIp o,yIp o];refine⟨_,rfl,?_,vM g h⟩;rw[zcn];refine zaJ λa _=>?_;lia
 ·rw[yIn o,yIn o];refine⟨_,rfl,by simp,?_⟩;rw[zbK];exact h.snoc g
def uF(ok:Ok K d H S)(h:Rep K d (.loc g) v)(e:S[g]? =some (some (.dct k ds))):
  ∃a j,v=.ref a/\d.r g=some a/\H a=some (.dK j)/\j.map (·.1)=k/\av K d ds (j.map (·.2)):=by
 let⟨a,h1,rfl⟩:=h;obtain⟨C,u,o,y,x,j,rfl,s,q⟩:=ok.live g _ e;rw[h1] at o;cases o;refine⟨a,j,rfl,h1,x,s,q⟩
def QU(k:Ok K d H S)(e:S[m]? =some (some (.lst ds))):∃C,d.le C/\Ok K C H (S.set m none)/\∀v,Rep K d (.loc m) v->Rep K C (.lst ds) v:=by
 let⟨a,u,h1,h2,h3,q,rfl,W⟩:=k.live m _ e;have le:d.le ⟨upd d.B a (.lst q),d.r⟩:=⟨al h2,λ_ _ e=>e⟩
 have at_:∀n o,(S.set m none)[n]? =some (some o)->n≠m/\S[n]? =some (some o):=λn o z=>by
  by_cases U:m=n
  ·subst U;rw[zbc] at z;simp at z
  (simp_all;lia)
 refine⟨⟨upd d.B a (.lst q),d.r⟩,le,⟨λb o z=>?_,λn o z=>?_,λn j o F O L z=>?_,λn G=>k.top n (by simp_all)⟩,λv Q=>?_⟩
 ·by_cases I:b=a
  ·subst I;have z:upd d.B b (.lst q) b=some o:=z;rw[bL] at z;simp_all
  ·have z:upd d.B a (.lst q) b=some o:=z;rw[aQ I] at z;exact k.base b o z
 ·let⟨G,z⟩:=at_ n o z;let⟨x,P,s,Z,Y,X⟩:=k.live n o z;have E:x≠a:=λy=>G (k.inj n m _ _ z e (by simp_all));refine⟨x,P,s,by show upd d.B a _ x=none;rw[aQ E];exact Z,Y,X.le le⟩
 ·exact k.inj n j o F (at_ n o O).2 (at_ j F L).2 z
 ·let⟨x,s,rfl⟩:=Q;rw[h1] at s;cases s;refine⟨a,q,rfl,bL,W.le le⟩
noncomputable def sb(m:Nat)(e:D):D->D
 |.loc n=>if n=m then e else .loc n
 |d=>d
theorem yC(le:g.le k)(f:∀v,Rep K g (.loc q) v->Rep K k (.lst z) v):∀{es:List D}{a:List V},av K g es a->av K k (es.map (sb q (.lst z))) a
 |[],a,h=>by subst h;exact .nil
 |d::es,a,h=>by
  let⟨x,r,rfl,h1,h2⟩:=h;refine .cons ?_ (yC le f h2);cases d with
  |loc n=>
   show Rep K k (if n=q then _ else _) x;by_cases o:n=q
   ·rw[yIp o];subst o;exact f x h1
   ·rw[yIn o];exact h1.le le
  |_=>exact h1.le le
def RI(a:AE):AE:=λs S Q=>a s S λr q=>∃m o j,r=.dat (.tup j)/\q[m]? =some (some (.lst o))/\Q (.dat (.tup (j.map (sb m (.lst o))))) (q.set m none)
def Th:∀s H Q,bH K (RI d) s H Q->bH K d s H Q:=by
 intro s H Q z;let⟨w,E,S,Qa,ok,env,q,bk⟩:=z;refine⟨w,E,S,_,ok,env,q,λr Z v W H1 C y o u=>?_⟩;let⟨m,Y,X,P,L,G⟩:=u;subst P;let⟨t,F,rfl,O,I⟩:=o;let⟨U,j,x,f⟩:=QU y L;refine bk.dat (C.trans j) x ?_ G;refine⟨t,F,rfl,fR.same j.b O,yC j f I⟩
def fre(h:GE X e d):GE X e (RI d):=⟨mE h.p Th⟩
end M
namespace M6
open PySem PySem.Spec PyProof.Rows
mutual
noncomputable def cG:yam->Bool
 |.int _=>true
 |.str x=>(PyData.str x).canLay0
 |.tuple xs=>d7 xs
 |_=>false
noncomputable def d7:List yam->Bool
 |[]=>true
 |x::xs=>cG x&&d7 xs
end
mutual
noncomputable def bO(w:yak):yam->Int
 |.int i=>hashInt i
 |.str x=>hashStr w x
 |.tuple xs=>reduceHash (Builtin.Tuple.tupleHashOf (jP w xs))
 |_=>0
noncomputable def jP(w:yak):List yam->List Int
 |[]=>[]
 |x::xs=>bO w x::jP w xs
end
mutual
noncomputable def Wu:yam->Nat
 |.int _=>1
 |.str _=>1
 |.tuple xs=>uD xs+1
 |_=>0
noncomputable def uD:List yam->Nat
 |[]=>0
 |x::xs=>Wu x+uD xs
end
theorem jE(w):∀a b,jP w (a++b)=jP w a++jP w b
 |[],b=>rfl
 |x::a,b=>by simp only[zbx,jP,jE w a b]
theorem nu:∀a b,uD (a++b)=uD a+uD b
 |[],b=>by simp[uD]
 |x::a,b=>by simp only[zbx,uD,nu a b];lia
theorem iJ:∀{j:List yam},d7 j=true->∀x∈j,cG x=true
 |[],_,x,a=>by simp at a
 |y::j,h,x,a=>by
  simp only[d7,zbB] at h;obtain rfl|a:=zcd.mp a
  ·exact h.1
  ·exact iJ h.2 x a
theorem dR:∀{a:List yam}{x:yam},x∈a->x.depth<=PyData.depthAll a
 |y::a,x,j=>by
  simp only[PyData.depthAll];obtain rfl|j:=zcd.mp j
  ·lia
  ·have:=dR j;lia
def cZ(a):(PyData.tuple a).depth=PyData.depthAll a+1:=by
 rfl
def eV(j:s.heap.get? a=some o)(q:o.cls=Value.type "tuple"):s.TypeIs (.ref a) "tuple":=⟨o,j,q⟩
theorem vP:∀(n)(d){v:yai}{as:List Addr}{A:yal}{E:yai->yah->Prop}{s:yah}{Q:Int->yah->Prop},d.depth<=n->cG d=true->Reads s.heap v d as->A.units+n<cLine->
  Q (bO w d) {s with toks:=s.toks+Wu d}->yar (model prog w) A (pyHash v) Q E s:=by
 intro n
 induction n with
 |zero=>
  intro d v as A E s Q hd u G O h;cases G with
  |int i t=>exact wpAny_pyHash_int h
  |str x t=>exact wpAny_pyHash_str h
  |tuple ho hc hd' hall=>rw[cZ] at hd;lia
  |none=>simp[cG] at u
  |bool b=>simp[cG] at u
  |list _ _ _ _=>simp[cG] at u
  |dict _ _ _ _ _=>simp[cG] at u
 |succ n ih=>
  intro d v as A E s Q hd u G O h;cases G with
  |int i t=>exact wpAny_pyHash_int h
  |str x t=>exact wpAny_pyHash_str h
  |none=>simp[cG] at u
  |bool b=>simp[cG] at u
  |list _ _ _ _=>simp[cG] at u
  |dict _ _ _ _ _=>simp[cG] at u
  |@tuple a o vs m xs as ho hc hdat hall=>
   have P:=eV ho hc;rw[cZ] at hd;refine W.pyHash_slot P F.slot_tuple_hash F.entry_tuple_hash (F.args_tuple_hash_1 (.ref a)) (by decide) (.inr (by lia)) ?_;show yar (model prog w) A.in1 (do
    let __do_lift <-Builtin.Tuple.tupleItemsOf (.ref a);let __s <-forIn __do_lift (#[]:Array Int) λx __s=>do
       let __do_lift <-pyHash x
       pure (ForInStep.yield (__s.push __do_lift))
    retInt (Builtin.Tuple.tupleHashOf __s.toList)) _ E s
   refine yaa (wpAny_tupleItemsOf ho hdat (yaa ?_));rw[<-zaX];refine wpAny_forIn_list _ (λrest b C=>∃j left y,xs=j++left/\ReadsAll s.heap rest left y/\b.toList=jP w j/\C={s with toks:=s.toks+uD j}) _ ?_ ?_ vs.toList #[] ⟨[],xs,_,rfl,hall,rfl,rfl⟩
   ·intro x rest b C k;let⟨j,left,y,rfl,H,I,rfl⟩:=k;cases H with
    |@cons _ _ d' ds as1 bs hx hrest=>
     have L:d'∈j++d'::ds:=by simp
     refine yaa (ih d' (by have:=dR L;lia) (iJ u d' L) hx (by show A.units+1+n<cLine;lia) ?_);refine yab ⟨j++[d'],ds,bs,by simp,hrest,?_,?_⟩
     ·rw[zbl,I,jE];rfl
     ·rw[nu];simp only[uD,Nat.add_zero,Nat.add_assoc]
   ·intro b C k;let⟨j,left,y,rfl,H,I,rfl⟩:=k;cases H;rw[zbG] at h;rw[I];refine yac (wpAny_ret_mkInt (Q:=λv C=>∃n t,v=Value.int n t/\Q (reduceHash n) C) ⟨_,_,rfl,?_⟩) (λS C=>?_) (λ_ _ z=>z)
    ·exact h
    ·rintro⟨v,rfl,n,t,rfl,q⟩;refine⟨n,t,rfl,q⟩
theorem B4{h:Heap}:∀{ds:List yam}{vs:List yai}{as:List Addr},ReadsAll h vs ds as->∀y∈vs,∃d∈ds,∃j,Reads h y d j
 |[],_,_,hr,y,a=>by cases hr;simp at a
 |d::ds,_,_,hr,y,a=>by
  cases hr with
  |cons hx hrest=>
   obtain rfl|a:=zcd.mp a
   ·refine⟨_,zaQ,_,hx⟩
   ·let⟨o,m,r⟩:=B4 hrest y a;refine⟨o,zaC _ m,r⟩
theorem deep{G:Nat->yai->Prop}(h1:∀n i t,G n (.int i t))(h2:∀n x t,G n (.str x t))(E:∀n a o vs m,h.get? a=some o->o.cls=.type "tuple"->o.data=.seq vs m->(∀y∈vs.toList,G n y)->G (n+1) (.ref a)):
  ∀(n)(d){v:yai}{as:List Addr},d.depth<=n->cG d=true->Reads h v d as->G n v:=by
 intro n
 induction n using Nat.strongRecOn with
 |_ n ih=>
 intro d v as hd s j;cases j with
 |int i t=>exact h1 ..
 |str x t=>exact h2 ..
 |tuple ho hc hdat hall=>
  rw[cZ] at hd;obtain⟨m,rfl⟩:∃m,n=m+1:=⟨n - 1,by lia⟩
  refine E m _ _ _ _ ho hc hdat λy C=>?_;obtain⟨u,q,F,j⟩:=B4 hall y C;exact ih m (by lia) u (by have:=dR q;lia) (iJ s u q) j
 |_=>simp[cG] at s
def jN:∀(n)(d){v:yai}{as:List Addr}{A:yal}{E:yai->yah->Prop}{s:yah}{Q:Bool->yah->Prop},d.depth<=n->cG d=true->Reads s.heap v d as->Q true s->yar (model prog w) A (eqIsQuiet n v) Q E s:=by
 intro n d v as A E s Q hd U S h;refine deep (G:=λn v=>∀{Q:Bool->yah->Prop},Q true s->yar (model prog w) A (eqIsQuiet n v) Q E s) (λn i t Q h=>by rw[eqIsQuiet_byValue _ rfl];exact yab h) (λn i t Q h=>by rw[eqIsQuiet_byValue _ rfl];exact yab h) (λn a o vs m I W q u Q h=>?_) n d hd U S h;have L:=eV I W;rw[eqIsQuiet.eq_def];refine yaa (wpAny_specialOf L F.slot_tuple_eq.lookup ?_);refine yaa (wpAny_isInstance L isSubtype_tuple_tuple ?_);refine yaa (wpAny_seqItems I q (yaa ?_));rw[<-zaX];refine wpAny_forIn_list _ (λrest r C=>r.1=none/\C=s/\∀y∈rest,y∈vs.toList) _ ?_ ?_ vs.toList (none,()) ⟨rfl,rfl,λ_ H=>H⟩
 ·rintro y rest ⟨P,O⟩ C ⟨z,rfl,j⟩;exact yaa (u y (j y (by simp)) (yab ⟨rfl,rfl,λx H=>j x (zaC _ H)⟩))
 ·rintro⟨P,O⟩ C ⟨z,rfl,_⟩;subst z;exact yab h
noncomputable instance:DecidableEq yam:=λ_ _=>Classical.propDecidable _
mutual
theorem n8:∀x y:yam,cG x=true->cG y=true->PyData.eqv x y=decide (x=y)
 |.int i,.int j,_,_=>by
  simp only[PyData.eqv];by_cases h:i=j
  ·subst h;simp
  ·have:¬PyData.int i=.int j:=λe=>h (by injection e);rw[yDf this];simpa using h
 |.str i,.str j,_,_=>by
  simp only[PyData.eqv];by_cases h:i=j
  ·subst h;simp
  ·have:¬PyData.str i=.str j:=λe=>h (by injection e);rw[yDf this];simpa using h
 |.tuple xs,.tuple ys,hx,hy=>by
  simp only[PyData.eqv];rw[w9 xs ys hx hy];by_cases h:xs=ys
  ·subst h;simp
  ·have:¬PyData.tuple xs=.tuple ys:=λe=>h (by injection e);rw[yDf this,yDf h]
 |.int i,.str j,_,_=>by rw[yDf (λe=>nomatch e)];rfl
 |.int i,.tuple j,_,_=>by rw[yDf (λe=>nomatch e)];rfl
 |.str i,.int j,_,_=>by rw[yDf (λe=>nomatch e)];rfl
 |.str i,.tuple j,_,_=>by rw[yDf (λe=>nomatch e)];rfl
 |.tuple i,.int j,_,_=>by rw[yDf (λe=>nomatch e)];rfl
 |.tuple i,.str j,_,_=>by rw[yDf (λe=>nomatch e)];rfl
 |.none,_,h,_=>by simp[cG] at h
 |.bool _,_,h,_=>by simp[cG] at h
 |.list _,_,h,_=>by simp[cG] at h
 |.dict _,_,h,_=>by simp[cG] at h
 |_,.none,_,h=>by simp[cG] at h
 |_,.bool _,_,h=>by simp[cG] at h
 |_,.list _,_,h=>by simp[cG] at h
 |_,.dict _,_,h=>by simp[cG] at h
theorem w9:∀x y:List yam,d7 x=true->d7 y=true->PyData.eqvAll x y=decide (x=y)
 |[],[],_,_=>by simp[PyData.eqvAll]
 |[],y::ys,_,_=>by simp[PyData.eqvAll]
 |x::xs,[],_,_=>by simp[PyData.eqvAll]
 |x::xs,y::ys,hx,hy=>by
  simp only[d7,zbB] at hx hy;simp only[PyData.eqvAll];rw[n8 x y hx.1 hy.1,w9 xs ys hx.2 hy.2];by_cases h:x=y<;>by_cases g:xs=ys<;>simp[h,g]
end
mutual
theorem gP:∀x:yam,cG x=true->x.canLay0=true
 |.int i,_=>rfl
 |.str i,h=>h
 |.tuple xs,h=>by simp only[PyData.canLay0];exact Bq xs h
 |.none,h=>by simp[cG] at h
 |.bool _,h=>by simp[cG] at h
 |.list _,h=>by simp[cG] at h
 |.dict _,h=>by simp[cG] at h
theorem Bq:∀x:List yam,d7 x=true->PyData.canLayAll0 x=true
 |[],_=>rfl
 |x::xs,h=>by
  simp only[d7,zbB] at h;simp only[PyData.canLayAll0,gP x h.1,Bq xs h.2,zci]
end
def isKey(h:Heap)(d:yam)(a:Addr):Prop:=cG d=true/\d.depth<=6/\∃as,Reads h (.ref a) d as
mutual
theorem rQ{h h':Heap}{b:Addr}{s:Obj}{es:Array yav}{x:Nat}(u:h.get? b=some s)(hd:s.data=Data.dict es x)(q:Heap.SameBut b h h'):∀(d:yam){v:yai}{as:List Addr},cG d=true->Reads h v d as->Reads h' v d as
 |.int i,v,as,hk,hr=>by cases hr;exact .int ..
 |.str i,v,as,hk,hr=>by cases hr;exact .str ..
 |.tuple xs,v,as,hk,hr=>by
  cases hr with
  |@tuple a o vs m _ _ ho hc hdat hall=>
   have j:a≠b:=λe=>by
    subst e;rw[u] at ho;cases ho;rw[hd] at hdat;cases hdat
   exact .tuple (by rw[q.2 a j];exact ho) hc hdat (oX u hd q xs hk hall)
 |.none,_,_,h,_=>by simp[cG] at h
 |.bool _,_,_,h,_=>by simp[cG] at h
 |.list _,_,_,h,_=>by simp[cG] at h
 |.dict _,_,_,h,_=>by simp[cG] at h
theorem oX{h h':Heap}{b:Addr}{j:Obj}{es:Array yav}{q:Nat}(o:h.get? b=some j)(hd:j.data=Data.dict es q)(a:Heap.SameBut b h h'):∀(ds:List yam){vs:List yai}{as:List Addr},d7 ds=true->ReadsAll h vs ds as->ReadsAll h' vs ds as
 |[],vs,as,hk,hr=>by cases hr;exact .nil
 |d::ds,vs,as,hk,hr=>by
  simp only[d7,zbB] at hk;cases hr with
  |cons hx hr=>exact .cons (rQ o hd a d hk.1 hx) (oX o hd a ds hk.2 hr)
end
noncomputable def bg(prog)(w):HeapKind prog w yam where
 is:=isKey
 hash:=bO w
 draws:=Wu
 room:=λA=>A.units+10<cLine
 inj:=λ⟨_,_,as,v⟩ ⟨_,_,bs,u⟩=>(Reads.unique v _ _ u).1
 keeps:=λ⟨h1,h2,as,j⟩ F hd q=>⟨h1,h2,as,rQ F hd q _ h1 j⟩
 pyHash:=λC ⟨h1,h2,as,j⟩ h=>vP 6 _ h2 h1 j (by lia) h
 eqBool:=λ{A E s x y a b Q} C ⟨h1,h2,as,j⟩ ⟨o,H,bs,G⟩ h=>SeqAt.eqBoolOverData prog w A E s _ _ _ _ _ _ Q j G (gP _ h1) (gP _ o) (by lia) (by
  rw[n8 _ _ h1 o];exact h)
 quiet:=λ⟨h1,h2,as,j⟩ h=>jN 8 _ (by lia) h1 j h
def iu(h:Heap)(d:Addr)(es:Array yav)(a:Nat):Prop:=∃o,h.get? d=some o/\o.ExactDict/\o.data=Data.dict es a
def iu.at(x:iu h d g ep)(e:∀o,h.get? d=some o->h'.get? d=some o):iu h' d g ep:=by let⟨o,a,r⟩:=x;refine⟨o,e o a,r⟩
def iu.typeIs(x:iu s.heap d g ep):s.TypeIs (.ref d) "dict":=by let⟨o,a,j,_⟩:=x;refine⟨o,a,j.1⟩
def nextK(u:s.heap.IsKeyIter it d i g.size ep)(O:iu s.heap d g ep)(G:g[i]? =some k)(L:∀h',h'.IsKeyIter it d (i+1) g.size ep->Heap.SameBut it s.heap h'->r (some k.key) {s with heap:=h'}):yar (model prog w) A (pyNext (.ref it)) r E s:=by
 let⟨o,C,I,hd⟩:=id u;let⟨P,j,H,v⟩:=id O;have y:=Heap.IsKeyIter.typeIs u;refine yaa (wpAny_attempt (wpAny_callSpecial?_slot y F.slot_dict_keyiterator_next (wpAny_call_entry F.slot_dict_keyiterator_next y F.entry_dict_keyiterator_next ?_ (F.args_dict_keyiterator_next_1 _))));refine yaa (yab ?_);refine yaa ?_;refine yaa ?_;refine yaa (wpAny_typeNameOfWhole_keyiter y (yab ?_));have a:Builtin.Dict_items.ownsTuple "dict_keyiterator"=false:=by rfl
 refine yaa (wpAny_fieldsOf C hd ?_);refine yaa (yab ?_);refine yaa (wpAny_dictEntries j v ?_);rw[yIn (by simp)];refine yaa (yab ?_);refine yaa (wpAny_dictEpoch j v ?_);rw[yIn (by simp)];refine yab ?_;dsimp only;rw[show((i:Int)).toNat=i from zbk i,G];refine yaa (?_);refine yaa (wpAny_typeNameOfWhole_keyiter y (yab ?_));simp only[a];refine yaa (wpAny_isOneOf_keyiter y ?_);refine yaa (wpAny_setField C hd (by simp) ?_);refine yaa (yad ?_);have q:=zaB (Obj.mapFields (·.setIfInBounds (0+1) (rawInt ((i+1:Nat):Int)))) C (Obj.isFreed_of_fields (Obj.data_mapFields hd _));have x:=(Obj.cls_mapFields o (·.setIfInBounds (0+1) (rawInt ((i+1:Nat):Int)))).trans I;refine yaa (wpAny_isOneOf_keyiter ⟨_,q,x⟩ ?_);refine yab (yab ⟨k.key,rfl,yab (L _ ?_ (Heap.SameBut.update ..))⟩);refine⟨_,q,x,by rw[Obj.data_mapFields hd];rfl⟩
def Uy(y:A.handled=none)(q:s.heap.IsKeyIter it d g.size g.size ep)(I:iu s.heap d g ep)(H:∀h',Heap.ExtBut it s.heap h'->k none {s with heap:=h'}):yar (model prog w) A (pyNext (.ref it)) k E s:=by
 let⟨o,x,P,hd⟩:=id q;let⟨L,j,C,u⟩:=id I;have v:=Heap.IsKeyIter.typeIs q;refine yaa (wpAny_attempt (wpAny_callSpecial?_slot v F.slot_dict_keyiterator_next (wpAny_call_entry F.slot_dict_keyiterator_next v F.entry_dict_keyiterator_next ?_ (F.args_dict_keyiterator_next_1 _))));refine yaa (yab ?_);refine yaa ?_;refine yaa ?_;refine yaa (wpAny_typeNameOfWhole_keyiter v (yab ?_));have a:Builtin.Dict_items.ownsTuple "dict_keyiterator"=false:=by rfl
 refine yaa (wpAny_fieldsOf x hd ?_);refine yaa (yab ?_);refine yaa (wpAny_dictEntries j u ?_);rw[yIn (by simp)];refine yaa (yab ?_);refine yaa (wpAny_dictEpoch j u ?_);rw[yIn (by simp)];refine yab ?_;dsimp only;rw[show((g.size:Int)).toNat=g.size from zbk _,zas (zcA _)];refine yaa ?_;refine yaa (wpAny_typeNameOfWhole_keyiter v (yab ?_));simp only[a];refine yaa (wpAny_setField x hd (by simp) ?_);refine yaa ?_;refine yaa (yae ?_ (by size_fits));refine yaa (wpAny_of_eq (by rfl) ?_);refine yae ?_ (by size_fits);simp only[raiseNew];refine yaa (wpAny_handled ?_)
 first|rw[show A.in1.handled=none from y]|rw[y]
 refine yaa (yab (wpAny_throw ?_));refine yaa (wpAny_isInstance ⟨_,zaO _ rfl,rfl⟩ isSubtype_stop ?_);refine yab (H _ (Heap.ExtBut.push (Heap.ExtBut.push ?_ _) _));exact λb O G e=>(zav _ _ (Ne.symm G)).trans e
def ND(hd:(d==yas)=false)(q:iu s.heap d g ep)(v:Q (.ref s.heap.objs.size) {s with heap:=s.heap.push {cls:=.type "dict_keyiterator",data:=.fields #[.ref d,.int 0 0,.int g.size 0,.int ep 0]}}):yar (model prog w) A (pyIter (.ref d)) Q E s:=by
 let⟨x,a,u,j⟩:=id q;have o:=q.typeIs;refine wpAny_pyIter_slot o F.slot_dict_iter (wpAny_call_entry F.slot_dict_iter o F.entry_dict_iter ?_ (F.args_dict_iter_1 _));refine yaa (yaa (wpAny_notOrdered_dict o (yab ?_)));refine yaa (yab ?_);delta Builtin.Dict.showsAll;rw[yIn (by simp_all)];refine yaa (yab ?_);refine yaa (wpAny_dictEntries a j ?_);refine yaa (wpAny_dictEpoch a j ?_);refine yaa (yae ?_ (by size_fits));exact yab ⟨_,rfl,"dict_keyiterator",_,⟨_,zaO _ rfl,rfl⟩,F.slot_dict_keyiterator_next.lookup,v⟩
def Oz(H:A.handled=none)(I d)(y:d≠I)(es)(F):
  Walks prog w A I [I,d] [I] es.size (λi v=>∃e,es[i]? =some e/\v=e.key) (λi h=>h.IsKeyIter I d i es.size F/\iu h d es F) where
 sub:=λb u=>by simp_all
 frame:=λi h x st C=>⟨Heap.IsKeyIter.at st.1 λo e=>C I (by simp) o e,st.2.at λo e=>C d (by simp) o e⟩
 item:=λi s Q E G st q=>by
  have hx  :=zak G;refine nextK st.1 st.2 hx λx j a=>q es[i].key x s.toks ⟨es[i],hx,rfl⟩ ⟨j,st.2.at λo e=>by rw[a.2 d y];exact e⟩ λb o u e=>?_;rw[a.2 b (λz=>u (by simp[z]))];exact e
 done:=λs Q E st q=>Uy H st.1 st.2 λx L=>q x s.toks λb o u e=>L b o (λz=>u (by simp[z])) e
 self:=λi s Q E st q=>wpAny_pyIter_keyiter st.1 q
def OP(lo:(d==yas)=false):W.KdlSrc prog w "dict" d d g.size (λi v=>∃e,g[i]? =some e/\v=e.key) (λh=>iu h d g ep) where
 type:=λs a=>a.typeIs
 there:=λh a=>by let⟨o,j,_⟩:=a;exact⟨zcy j,zcy j⟩
 keep:=λh C a x=>a.at λo e=>x d (.inl rfl) o e
 notList:=by decide
 notTuple:=by decide
 hint:=λA E s Q a q=>W.kdl_hint_dict a.typeIs q
 iter:=λA s y a=>by
  have u:d<s.heap.objs.size:=by let⟨o,j,_⟩:=a;exact zcy j
  refine⟨_,_,λE Q q=>ND lo a q,Oz y s.heap.objs.size d (zco u) g ep,⟨_,zaO _ rfl,rfl,rfl⟩,a.at λo e=>zau _ e⟩
def xD(lo:(d==yas)=false)(u:A.handled=none)(x:iu s.heap d g ep)(q:g.size<=yag)(h:∀(h')(tk),(∀b o,s.heap.get? b=some o->h'.get? b=some o)->R (g.toList.map (·.key)) {s with heap:=h',toks:=tk}):yar (model prog w) A (collect (.ref d)) R E s:=by
 refine W.kdu_collect (OP lo) u x q λh' tk j kp a=>?_;have:j.toList=g.toList.map (·.key):=by
  refine zbf λi=>?_;cases z:j[i]? with
  |some v=>
   let⟨e,y,rfl⟩:=a.2 i v z;simp_all
  |none=>
   have:g.size<=i:=by rw[<-a.1];simp_all
   simp_all
 rw[this];exact h h' tk kp
mutual
noncomputable def fV:yam->yam->Bool
 |.int i,.int j=>decide (i<j)
 |.str i,.str j=>decide (i.cps.toList<j.cps.toList)
 |.tuple xs,.tuple ys=>cU xs ys
 |_,_=>false
noncomputable def cU:List yam->List yam->Bool
 |[],[]=>false
 |[],_::_=>true
 |_::_,[]=>false
 |x::xs,y::ys=>if x=y then cU xs ys else fV x y
end
mutual
noncomputable def b8:yam->yam->Bool
 |.int _,.int _=>true
 |.str _,.str _=>true
 |.tuple xs,.tuple ys=>fu xs ys
 |_,_=>false
noncomputable def fu:List yam->List yam->Bool
 |x::xs,y::ys=>b8 x y&&fu xs ys
 |_,_=>true
end
theorem f9:∀{ds:List yam}{vs:List yai}{as:List Addr},ReadsAll d vs ds as->vs.length=ds.length
 |[],_,_,d=>by cases d;rfl
 |_::_,_,_,d=>by cases d with|cons _ r=>simp[f9 r]
theorem KW:∀(n)(x y){u v:yai}{as bs:List Addr}{A:yal}{E:yai->yah->Prop}{s:yah}{Q:yai->yah->Prop},x.depth<=n->y.depth<=n->cG x=true->cG y=true->b8 x y=true->Reads s.heap u x as->Reads s.heap v y bs->A.units+n<cLine->
  Q (.bool (fV x y)) s->yar (model prog w) A (yan .Lt u v) Q E s:=by
 intro n
 induction n with
 |zero=>
  intro x y u v as bs A E s Q hx hy G ky L U W hu h;cases U with
  |int i t=>
   cases W with
   |int j t'=>exact wpAny_lt_int h
   |_=>simp[b8] at L
  |str i t=>
   cases W with
   |str j t'=>exact lt_str h
   |_=>simp[b8] at L
  |tuple ho L hd' hall=>rw[cZ] at hx;lia
  |none=>simp[cG] at G
  |bool b=>simp[cG] at G
  |list _ _ _ _=>simp[cG] at G
  |dict _ _ _ _ _=>simp[cG] at G
 |succ n ih=>
  intro x y u v as bs A E s Q hx hy G ky L U W hu h;cases U with
  |int i t=>
   cases W with
   |int j t'=>exact wpAny_lt_int h
   |_=>simp[b8] at L
  |str i t=>
   cases W with
   |str j t'=>exact lt_str h
   |_=>simp[b8] at L
  |none=>simp[cG] at G
  |bool b=>simp[cG] at G
  |list _ _ _ _=>simp[cG] at G
  |dict _ _ _ _ _=>simp[cG] at G
  |@tuple a o us m xs as ho hcl hdat hall=>
   cases W with
   |@tuple b o2 vs m2 ys bs ho2 hcl2 hdat2 hall2=>
    have hT:=eV ho hcl;have X:=eV ho2 hcl2;rw[cZ] at hx hy;show yar (model prog w) A (richCompare .Lt (.ref a) (.ref b)) Q E s;refine wpAny_richCompare_same_room hT X F.slot_tuple_lt ?_ (by lia);refine wpAny_call_entry F.slot_tuple_lt hT F.entry_tuple_lt ?_ (F.args_tuple_lt_2 _ _);refine yaa (yab ?_);refine yaa (wpAny_isInstance X isSubtype_tuple_tuple ?_);refine yaa (wpAny_tupleItemsOf ho hdat (yaa (wpAny_tupleItemsOf ho2 hdat2 (yaa ?_))));refine wpAny_forIn_list _ (λrest r Y=>r.1=none/\Y=s/\∃O I lu Z S P,rest=lu.zip Z/\ReadsAll s.heap lu O S/\ReadsAll s.heap Z I P/\cU xs ys=cU O I/\(∀z∈O,z∈xs)/\(∀z∈I,z∈ys)/\fu O I=true/\us.size+I.length=vs.size+O.length) _ ?_ ?_ (us.toList.zip vs.toList) (none,())
     ⟨rfl,rfl,xs,ys,us.toList,vs.toList,_,_,rfl,hall,hall2,rfl,λ_ z=>z,λ_ z=>z,L,by
      have h1:=f9 hall;have h2:=f9 hall2;rw[zaN] at h1 h2;lia⟩
    ·rintro⟨p,q⟩ rest ⟨r1,r2⟩ Y ⟨U,rfl,O,I,lu,Z,S,P,hz,h1,h2,hl,m1,m2,H,C⟩;cases h1 with
     |nil=>simp at hz
     |@cons _ _ d1 ds1 a1 b1 g1 t1=>
      cases h2 with
      |nil=>simp at hz
      |@cons _ _ d2 ds2 a2 b2 g2 t2=>
       injection hz with e1 e2;injection e1 with e3 e4;subst e3;subst e4;subst e2;have n1:=m1 d1 (by simp);have n2:=m2 d2 (by simp);have k1:=iJ G d1 n1;have k2:=iJ ky d2 n2;have dd1:=dR n1;have dd2:=dR n2;simp only[fu,zbB] at H;refine yaa (SeqAt.eqBoolOverData prog w _ _ _ _ _ _ _ _ _ _ g1 g2 (gP _ k1) (gP _ k2) (by show A.units+1+_<cLine;lia) ?_);rw[n8 _ _ k1 k2];by_cases he:d1=d2
       ·rw[yDt he];refine yab ⟨rfl,rfl,ds1,ds2,_,_,_,_,rfl,t1,t2,?_,λz hz=>m1 z (zaC _ hz),λz hz=>m2 z (zaC _ hz),H.2,by simp only[zby] at C;lia⟩;rw[hl];simp only[cU];simp_all
       ·rw[yDf he];have hl2:cU xs ys=fV d1 d2:=by
         rw[hl];simp only[cU];simp_all
        refine yaa (wpAny_rule ?_);refine yaa (ih d1 d2 (by lia) (by lia) k1 k2 H.1 g1 g2 (by show A.units+1+n<cLine;lia) ?_);refine yaa (yab (yab ?_));refine yab ⟨_,rfl,(λz=>by cases z),?_⟩;rw[<-hl2];exact h
    ·rintro⟨r1,r2⟩ Y ⟨U,rfl,O,I,lu,Z,S,P,hz,h1,h2,hl,m1,m2,H,C⟩;subst U;refine yab ⟨_,rfl,(λz=>by cases z),?_⟩;have Wn:decide (us.size<vs.size)=cU xs ys:=by
      rw[hl];cases h1 with
      |nil=>
       cases I with
       |nil=>simp only[cU] at C⊢;simp_all
       |cons _ _=>simp only[zby,List.length_nil] at C⊢;exact yDt (by lia)
      |cons g1 t1=>
       cases h2 with
       |nil=>simp only[cU] at C⊢;simp_all
       |cons g2 t2=>simp at hz
     show Q (.bool (decide (us.size<vs.size))) Y;rw[Wn];exact h
   |_=>simp[b8] at L
def Fs(b:Bool)(z:yam):Prop:=(b=false/\∃i,z=.int i)∨(b=true/\∃i,z=.str i)
def Ge(n)(q:d.depth<=n)(o:g.depth<=n)(j:cG d=true)(a:cG g=true)(G:b8 d g=true)(F:Reads s.heap u d as)(H:Reads s.heap k g bs)(C:A.units+n<cLine)(h:r (fV d g) s):yar (model prog w) A (PyProof.Rows.oneLt' false u k) r E s:=W.kat_one u k (KW n d g q o j a G F H C h)
theorem wH{A:yal}{Q:Bool->yah->Prop}{s:yah}{m1 m2:Nat}:∀(j a){C o:List yai}{as bs:List Addr}(i),(∀z∈j,z.depth<=6)->(∀z∈a,z.depth<=6)->d7 j=true->d7 a=true->fu j a=true->ReadsAll s.heap C j as->ReadsAll s.heap o a bs->A.units+6<cLine->
  (i=0->∃b,Fs b (j.headD .none)/\Fs b (a.headD .none))->m1+a.length=m2+j.length->Q (cU j a) s->W.KatLex prog w A true (decide (m1<m2)) Q (C.zip o) i s
 |[],a,C,o,as,bs,i,d1,d2,k1,k2,hc,h1,h2,hu,h0,hm,h=>by
  cases h1;cases a with
  |nil=>rw[yDf (by simp_all)];exact h
  |cons _ _=>simp only[List.length_nil,zby] at hm h;rw[yDt (by lia)];exact h
 |x::j,[],C,o,as,bs,i,d1,d2,k1,k2,hc,h1,h2,hu,h0,hm,h=>by
  cases h2;rw[List.zip_nil_right];simp only[List.length_nil] at hm h;rw[yDf (by simp_all)];exact h
 |x::j,y::a,C,o,as,bs,i,d1,d2,k1,k2,hc,h1,h2,hu,h0,hm,h=>by
  simp only[d7,zbB] at k1 k2;simp only[fu,zbB] at hc;have P:=d1 x (by simp);have O:=d2 y (by simp);cases h1 with
  |@cons u us _ _ a1 b1 g1 t1=>
   cases h2 with
   |@cons v vs _ _ a2 b2 g2 t2=>
    refine SeqAt.eqBoolOverData prog w _ _ _ _ _ _ _ _ _ _ g1 g2 (gP _ k1.1) (gP _ k2.1) (by lia) ?_;rw[n8 _ _ k1.1 k2.1];simp only[cU] at h;by_cases E:x=y
    ·rw[yDt E];rw[yIp E] at h;exact wH j a (i+1) (λz hz=>d1 z (zaC _ hz)) (λz hz=>d2 z (zaC _ hz)) k1.2 k2.2 hc.2 t1 t2 hu (λz=>by lia) (by simp only[zby] at hm;lia) h
    ·rw[yDf E];rw[yIn E] at h;by_cases F:i=0
     ·let⟨b,L,I⟩:=h0 F;subst F;rcases L with⟨rfl,p,H⟩|⟨rfl,p,H⟩<;>rcases I with⟨z,q,G⟩|⟨z,q,G⟩<;>cases z
      ·cases(show x=_ from H);cases(show y=_ from G);cases g1;cases g2;exact W.kat_lt_int h
      ·cases(show x=_ from H);cases(show y=_ from G);cases g1;cases g2;exact PyProof.Rows.oneLt_str h
     ·have:(true&&i==0)=false:=by simp[F]
      rw[this];exact Ge 6 P O k1.1 k2.1 hc.1 g1 g2 hu h
def fK{o:Type}(P:o->Prop)(n:Nat):W.KasT o->Prop
 |.ret a=>P a
 |.ask i j k=>i<n/\j<n/\∀b,fK P n (k b)
theorem fK.bind{o q:Type}{P:o->Prop}{R:q->Prop}{f:o->W.KasT q}:∀{t:W.KasT o},fK P n t->(∀a,P a->fK R n (f a))->fK R n (t.bind f)
 |.ret a,h,g=>g a h
 |.ask i j k,⟨h1,h2,h3⟩,g=>⟨h1,h2,λb=>fK.bind (h3 b) g⟩
def dW(j:0<n)(a:p.Perm (zcE n).toArray)(x):p.getD x 0<n:=by
 rw[Srt.n5];cases z:p[x]? with
 |none=>exact j
 |some y=>
  have hm  :=Array.mem_of_getElem? z;have:=(a.mem_iff).mp hm;simp_all
theorem uP(j:0<n)(a:d.Perm (zcE n).toArray):∀(f x),fK (λ_=>True) n (W.kas_asc d f x)
 |0,x=>trivial
 |f+1,x=>⟨dW j a _,dW j a _,λb=>by
  cases b
  ·exact uP j a f (x+1)
  ·exact trivial⟩
theorem kU(a:0<n):∀(f){p:Array Nat}(x q),p.Perm (zcE n).toArray->fK (λr:Array Nat×Nat×Nat=>r.1.Perm (zcE n).toArray) n (W.kas_desc f p x q)
 |0,p,x,q,hp=>hp
 |f+1,p,x,q,hp=>⟨dW a hp _,dW a hp _,λb=>by
  cases b
  ·refine⟨dW a hp _,dW a hp _,λc=>?_⟩;cases c
   ·exact kU a f (x+1) (q+1) hp
   ·exact hp
  ·by_cases j:q> 0
   ·rw[yIp j];exact kU a f (x+1) 0 (Srt.dj.trans hp)
   ·rw[yIn j];exact kU a f (x+1) 0 hp⟩
def vf(o:0<n)(j:p.Perm (zcE n).toArray)(x m):fK (λr:Nat×Array Nat=>r.2.Perm (zcE n).toArray) n (W.kas_tail3 x m p):=
 fK.bind (uP o (Srt.dj.trans j) _ _) λa _=>Srt.dj.trans j
def kW(a:0<n)(o:p.Perm (zcE n).toArray)(x m):fK (λr:Nat×Array Nat=>r.2.Perm (zcE n).toArray) n (W.kas_descPart x m p):=
 fK.bind (kU a _ _ _ o) λr j=>by
  by_cases h:r.2.2> 0
  ·rw[yIp h];exact vf a (Srt.dj.trans j) _ _
  ·rw[yIn h];exact vf a j _ _
def Dk(j:0<n)(a:p.Perm (zcE n).toArray)(m):fK (λr:Nat×Array Nat=>r.2.Perm (zcE n).toArray) n (W.kas_count m p):=
 fK.bind (uP j a _ _) λx _=>by
  by_cases h:(x==m)=true
  ·rw[yIp h];exact a
  ·rw[yIn h];by_cases h2:x> 1
   ·rw[yIp h2];refine⟨dW j a _,dW j a _,λb=>?_⟩;cases b
    ·exact kW j (Srt.dj.trans a) _ _
    ·exact a
   ·rw[yIn h2];exact kW j a _ _
theorem lY(j:0<n)(a:d.Perm (zcE n).toArray)(k:Nat):∀(f l r:Nat),fK (λ_=>True) n (W.kas_place d k f l r)
 |0,l,r=>trivial
 |f+1,l,r=>by
  rw[W.kas_place.eq_2];by_cases h:l≥r
  ·rw[yIp h];exact trivial
  ·rw[yIn h];refine⟨dW j a _,dW j a _,λb=>?_⟩;cases b
   ·exact lY j a k f _ _
   ·exact lY j a k f _ _
theorem BW(a:0<n):∀(f){p:Array Nat}(j),p.Perm (zcE n).toArray->fK (λr:Array Nat=>r.Perm (zcE n).toArray) n (W.kas_bin f p j)
 |0,p,j,hp=>hp
 |f+1,p,j,hp=>by
  exact fK.bind (lY a hp _ _ _ _) λl _=>BW a f (j+1) ((bubble_perm _ _ _).trans hp)
def vo(j:0<n):fK (λr:Array Nat=>r.Perm (zcE n).toArray) n (W.kas_sort n):=
 fK.bind (Dk j (Array.Perm.refl _) _) λr a=>by
  by_cases h:r.1<n
  ·rw[yIp h];exact BW j _ _ a
  ·rw[yIn h];exact a
theorem wp_run{o:Type}{n:Nat}{P:o->Prop}{f:Nat->Nat->Bool}{cmp:Nat->Nat->(Bool->yah->Prop)->yah->Prop}{Q:o->yah->Prop}{s:yah}(u:∀i j C,i<n->j<n->C (f i j) s->cmp i j C s):∀{t:W.KasT o},fK P n t->Q (Srt.run f t) s->W.KasT.kasWp cmp t Q s
 |.ret a,h,q=>q
 |.ask i j k,⟨h1,h2,h3⟩,q=>u i j _ h1 h2 (wp_run u (h3 _) q)
theorem AH{o:Type}{P:o->Prop}:∀{t:W.KasT o},fK P d t->P (Srt.run g t)
 |.ret a,h=>h
 |.ask i j k,⟨_,_,h3⟩=>show P (Srt.run g (k (g i j))) from AH (h3 (g i j))
theorem run_eq{o:Type}{n:Nat}{P:o->Prop}{f g:Nat->Nat->Bool}:∀{t:W.KasT o},fK P n t->(∀i j,i<n->j<n->f i j=g i j)->Srt.run f t=Srt.run g t
 |.ret a,h,_=>rfl
 |.ask i j k,⟨h1,h2,h3⟩,e=>by
  show Srt.run f (k (f i j))=Srt.run g (k (g i j));rw[e i j h1 h2];exact run_eq (h3 _) e
def rT:((zcE vs.length).map λi=>vs.getD i Value.none)=vs:=by
 refine zbz (by simp) λi h1 h2=>?_;simp_all
noncomputable def dS(h:Heap)(a:Addr)(vs:List yai):Heap:=((h.update a (Obj.mapSeq λ_=>#[])).push (seqObj "tuple" vs.toArray 0)).push (seqObj "list" #[] 0)
def zh(f)(O:s.heap.get? a=some (seqObj "list" vs.toArray n))(S:vs.length<64)(hk:2<=vs.length->∃y,(∀(Q),Q y {s with heap:=dS s.heap a vs}->yar (model prog w) A (keyKind' vs.toArray) Q (λ_ _=>False) {s with heap:=dS s.heap a vs})/\∀i j C,i<vs.length->j<vs.length->C (f i j) {s with heap:=dS s.heap a vs}->W.kas_ask prog w A y vs i j C {s with heap:=dS s.heap a vs})(h:∀p:Array Nat,p.Perm (zcE vs.length).toArray->(2<=vs.length->p=Srt.run f (W.kas_sort vs.length))->d (.done (.ret .none)) {s with heap:=sortedHeap s.heap a vs (p.toList.map λi=>vs.getD i Value.none).toArray}):
  yar (model prog w) A (Builtin.«list.sort» ⟨[.ref a],[]⟩) d E s:=by
 obtain⟨U,x⟩:∃U,(s.heap.update a (Obj.mapSeq λ_=>#[])).get? a=some (seqObj "list" #[] U):=⟨_,get?_update_seq O λ_=>#[]⟩
 have o:(dS s.heap a vs).get? a=some (seqObj "list" #[] U):=zau _ (zau _ x);have hz:vs.toArray.size<=yag:=by rw[zba,yaf];lia
 rw[list_sort_plain a];refine yaa (listItems_at O rfl (yaa (listUpdate_at O rfl ?_ hz (zcB _))));refine yaa (seqEpoch_at x rfl (yaa (wpAny_newTuple ?_ (by simp_all))));refine yaa (wpAny_newList (yad ?_) (zcB _));by_cases h2:vs.length<2
 ·rw[yIp (by simp_all)];refine yaa (yab ?_);rw[yIp (by simp_all)];refine yaa (yab ?_);have Y:((vs.toArray.zip vs.toArray).map (·.2))=((zcE vs.length).map λi=>vs.getD i Value.none).toArray:=by
   rw[List.zip_toArray,List.map_toArray,List.map_snd_zip (zcA _),rT]
  refine yaa (seqEpoch_at o rfl (yaa (listUpdate_at o rfl ?_ (zcB _) ?_)))
  ·rw[yIn (by simp)];refine yab ?_;have:=h (zcE vs.length).toArray (Array.Perm.refl _) (λz=>by lia);rw[<-Y] at this;exact this
  ·rw[Y,rT];lia
 ·rw[yIn (by simp_all)];let⟨y,k1,k2⟩:=hk (by simp_all);refine yaa (yac (k1 (λv q=>v=y/\q={s with heap:=dS s.heap a vs}) ⟨rfl,rfl⟩) (λv q z=>?_) (λ_ _ z=>z.elim));let⟨rfl,rfl⟩:=z;rw[yIn (by simp_all)];have u:=vo (n:=vs.length) (by lia);refine yaa (yac (W.kat_run (Q:=λst q=>∃p:Array Nat,(arrOf st).map (·.2)=(p.toList.map λi=>vs.getD i Value.none).toArray/\failedOf st=none/\p.Perm (zcE vs.length).toArray/\p=Srt.run f (W.kas_sort vs.length)/\q={s with heap:=dS s.heap a vs}) (G:=λp q=>(p.Perm (zcE vs.length).toArray/\p=Srt.run f (W.kas_sort vs.length))/\q={s with heap:=dS s.heap a vs}) rfl (by simp_all) S ?_ (wp_run k2 u ⟨⟨AH u,rfl⟩,rfl⟩)) ?_ (λ_ _ z=>z))
  ·rintro p Z q hp1 L I ⟨⟨H,F⟩,rfl⟩;refine⟨p,W.kat_snds rfl L,I,H,F,rfl⟩
  ·rintro⟨⟨⟩,st⟩ q ⟨p,o1,o2,X,o4,rfl⟩;refine yaa (seqEpoch_at o rfl (yaa (listUpdate_at o rfl ?_ (zcB _) ?_)))
   ·rw[o2];rw[yIn (by simp)];refine yab ?_;have:=h p X λ_=>o4;rw[<-o1] at this;exact this
   ·have:=X.size_eq
    grind
mutual
theorem rP{h h':Heap}{b:Addr}{q:Obj}(s:h.get? b=some q)(hd:q.cls≠ .type "tuple")(kp:∀c o,c≠b->h.get? c=some o->h'.get? c=some o):∀(d:yam){v:yai}{as:List Addr},cG d=true->Reads h v d as->Reads h' v d as
 |.int i,v,as,hk,hr=>by cases hr;exact .int ..
 |.str i,v,as,hk,hr=>by cases hr;exact .str ..
 |.tuple xs,v,as,hk,hr=>by
  cases hr with
  |@tuple a o vs m _ _ ho hc hdat hall=>
   have j:a≠b:=λe=>by
    subst e;rw[s] at ho;cases ho;exact hd hc
   exact .tuple (kp a o j ho) hc hdat (oW s hd kp xs hk hall)
 |.none,_,_,h,_=>by simp[cG] at h
 |.bool _,_,_,h,_=>by simp[cG] at h
 |.list _,_,_,h,_=>by simp[cG] at h
 |.dict _,_,_,h,_=>by simp[cG] at h
theorem oW{h h':Heap}{b:Addr}{a:Obj}(j:h.get? b=some a)(hd:a.cls≠ .type "tuple")(kp:∀c o,c≠b->h.get? c=some o->h'.get? c=some o):∀(ds:List yam){vs:List yai}{as:List Addr},d7 ds=true->ReadsAll h vs ds as->ReadsAll h' vs ds as
 |[],vs,as,hk,hr=>by cases hr;exact .nil
 |d::ds,vs,as,hk,hr=>by
  simp only[d7,zbB] at hk;cases hr with
  |cons hx hr=>exact .cons (rP j hd kp d hk.1 hx) (oW j hd kp ds hk.2 hr)
end
theorem fh{α a:Type}{f:α->a}:∀{ks:List α}{out:List a},out.Perm (ks.map f)->∃o':List α,o'.Perm ks/\out=o'.map f
 |[],out,h=>⟨[],.refl _,by simp_all⟩
 |k::ks,out,h=>by
  have u:f k∈out:=h.mem_iff.mpr (by simp);let⟨s,q,rfl⟩:=List.append_of_mem u;have h2:(s++q).Perm (ks.map f):=by
   have:=List.perm_middle.symm.trans h;simp_all
  let⟨o',o,j⟩:=fh h2;let⟨o1,o2,v,y,x⟩:=List.map_eq_append_iff.mp j.symm;subst v;refine⟨o1++k::o2,List.perm_middle.trans (o.cons k),?_⟩
  grind
mutual
theorem Gz:∀x:yam,fV x x=false
 |.int i=>by simp only[fV];exact yDf (Int.lt_irrefl i)
 |.str i=>by simp only[fV];exact yDf (List.lt_irrefl _)
 |.tuple xs=>by simp only[fV];exact Bl xs
 |.none=>by simp only[fV]
 |.bool _=>by simp only[fV]
 |.list _=>by simp only[fV]
 |.dict _=>by simp only[fV]
theorem Bl:∀x:List yam,cU x x=false
 |[]=>by simp only[cU]
 |x::xs=>by simp only[cU];rw[yIp trivial];exact Bl xs
end
def uK(h:b8 (.int d) g=true):∃j,g=.int j:=by
 cases g<;>first|exact⟨_,rfl⟩|simp[b8] at h
def uJ(h:b8 (.str d) g=true):∃j,g=.str j:=by
 cases g<;>first|exact⟨_,rfl⟩|simp[b8] at h
def uI(h:b8 (.tuple d) g=true):∃a,g=.tuple a/\fu d a=true:=by
 cases g<;>first|refine⟨_,rfl,h⟩|simp[b8] at h
mutual
theorem Gy:∀x y z:yam,b8 x y=true->b8 y z=true->b8 x z=true->fV x y=true->fV y z=true->fV x z=true
 |.int i,y,z,a,b,_,h,g=>by
  let⟨j,rfl⟩:=uK a;let⟨k,rfl⟩:=uK b;simp only[fV,decide_eq_true_eq] at h g⊢;lia
 |.str i,y,z,a,b,_,h,g=>by
  let⟨j,rfl⟩:=uJ a;let⟨k,rfl⟩:=uJ b;simp only[fV,decide_eq_true_eq] at h g⊢;exact List.lt_trans h g
 |.tuple xs,y,z,a,b,c,h,g=>by
  let⟨q,rfl,a⟩:=uI a;let⟨o,rfl,b⟩:=uI b;simp only[fV] at h g⊢;exact Gx xs q o a b c h g
 |.none,_,_,a,_,_,_,_=>by simp[b8] at a
 |.bool _,_,_,a,_,_,_,_=>by simp[b8] at a
 |.list _,_,_,a,_,_,_,_=>by simp[b8] at a
 |.dict _,_,_,a,_,_,_,_=>by simp[b8] at a
theorem Gx:∀x y z:List yam,fu x y=true->fu y z=true->fu x z=true->cU x y=true->cU y z=true->cU x z=true
 |[],[],z,_,_,_,h,_=>by simp[cU] at h
 |[],y::ys,[],_,_,_,_,g=>by simp[cU] at g
 |[],y::ys,z::zs,_,_,_,_,_=>by simp only[cU]
 |x::xs,[],z,_,_,_,h,_=>by simp[cU] at h
 |x::xs,y::ys,[],_,_,_,_,g=>by simp[cU] at g
 |x::xs,y::ys,z::zs,a,b,c,h,g=>by
  simp only[fu,zbB] at a b c;simp only[cU] at h g⊢;by_cases o:x=y
  ·rw[yIp o] at h;subst o;by_cases j:x=z
   ·rw[yIp j] at g⊢;exact Gx xs ys zs a.2 b.2 c.2 h g
   ·rw[yIn j] at g⊢;exact g
  ·rw[yIn o] at h;by_cases j:y=z
   ·subst j;rw[yIn o];exact h
   ·rw[yIn j] at g;have t:=Gy x y z a.1 b.1 c.1 h g;rw[yIn (λq=>by subst q;rw[Gz] at t;cases t)];exact t
end
mutual
theorem zd:∀x y:yam,b8 x y=true->x≠y->fV x y=true∨fV y x=true
 |.int i,y,a,n=>by
  let⟨j,rfl⟩:=uK a;have:i≠j:=λe=>n (by rw[e]);simp only[fV,decide_eq_true_eq];lia
 |.str i,y,a,n=>by
  let⟨j,rfl⟩:=uJ a;simp only[fV,decide_eq_true_eq];by_cases h:i.cps.toList<j.cps.toList
  ·exact .inl h
  ·by_cases g:j.cps.toList<i.cps.toList
   ·exact .inr g
   ·refine absurd ?_ n;have e:i.cps.toList=j.cps.toList:=List.le_antisymm g h;obtain⟨i⟩:=i;obtain⟨j⟩:=j;have e:i.toList=j.toList:=e;rw[show i=j from Array.toList_inj.mp e]
 |.tuple xs,y,a,n=>by
  let⟨o,rfl,a⟩:=uI a;simp only[fV];exact Bk xs o a λe=>n (by rw[e])
 |.none,_,a,_=>by simp[b8] at a
 |.bool _,_,a,_=>by simp[b8] at a
 |.list _,_,a,_=>by simp[b8] at a
 |.dict _,_,a,_=>by simp[b8] at a
theorem Bk:∀x y:List yam,fu x y=true->x≠y->cU x y=true∨cU y x=true
 |[],[],_,n=>absurd rfl n
 |[],y::ys,_,_=>.inl (by simp only[cU])
 |x::xs,[],_,_=>.inr (by simp only[cU])
 |x::xs,y::ys,a,n=>by
  simp only[fu,zbB] at a;simp only[cU];by_cases e:x=y
  ·subst e;rw[yIp rfl,yIp rfl];exact Bk xs ys a.2 λe=>n (by rw[e])
  ·rw[yIn e,yIn (Ne.symm e)];exact zd x y a.1 e
end
noncomputable def V6(S:List yam)(j:∀x∈S,∀y∈S,b8 x y=true):Srt.Ord {x // x∈S} where
 lt:=λa b=>fV a.1 b.1
 Wg:=λa=>Gz a.1
 tr:=λa b c h g=>Gy _ _ _ (j _ a.2 _ b.2) (j _ b.2 _ c.2) (j _ a.2 _ c.2) h g
 nt:=λa b c h=>by
  by_cases e:a.1=b.1
  ·simp_all
  ·obtain z|z:=zd _ _ (j _ a.2 _ b.2) e
   ·exact .inl z
   ·exact .inr (Gy _ _ _ (j _ b.2 _ a.2) (j _ a.2 _ c.2) (j _ b.2 _ c.2) z h)
theorem JD{a:List (yam×Addr)}(hok:∀k∈a,cG k.1=true)(hc:∀k∈a,∀l∈a,b8 k.1 l.1=true)(E:p.Perm (zcE n).toArray)(G:n=a.length)(F:2<=n->p=Srt.run (λi j=>fV (a.getD i g).1 (a.getD j g).1) (W.kas_sort n)):
  (p.toList.map λi=>a.getD i g).Pairwise (λx y=>fV y.1 x.1=false):=by
 have hsz  :=by have:=E.size_eq;simpa using this
 rw[zaj];intro i j q u L;have hi'  :=by simpa using q
 have hj'  :=by simpa using u
 have h2:2<=n:=by lia
 have I:∀i∈p.toList,i<a.length:=λi q=>by
  have:=(Array.perm_iff_toList_perm.mp E).mem_iff.mp q;simp_all
 cases a with
 |nil=>simp at G;simp_all
 |cons o rest=>
  generalize P:(o::rest).map (·.1)=S;have v:∀x∈S,∀y∈S,b8 x y=true:=λx Z y Y=>by
   grind
  have H:∀i,((o::rest).getD i o).1∈S:=λi=>by
   rw[<-P];refine zcm.mpr ⟨_,?_,rfl⟩;by_cases h:i<(o::rest).length
   ·simp_all
   simp_all
  let⟨C,X,e2,U⟩:=Srt.JN (O:=V6 S v) (k:=λi=>⟨((o::rest).getD i o).1,H i⟩) (n:=n) (by simp_all);have Q:Srt.run (λi j=>fV ((o::rest).getD i g).1 ((o::rest).getD j g).1) (W.kas_sort n)=C:=by
   rw[<-X];refine run_eq (vo (by simp_all)) λi j q u=>?_;have d:∀i,i<n->(o::rest).getD i g=(o::rest).getD i o:=λi q=>by
    simp_all
   show _=fV ((o::rest).getD i o).1 ((o::rest).getD j o).1;rw[d i q,d j u]
  obtain rfl:p=C:=(F h2).trans Q;have:=U i j (by lia) (by simp_all);have this:fV ((o::rest).getD (p.getD j 0) o).1 ((o::rest).getD (p.getD i 0) o).1=false:=this;(clear h2 hsz;simp_all)
def Jh(b:Bool)(h:Heap)(k:yam×Addr):Prop:=isKey h k.1 k.2/\∃p r,Fs b p/\k.1=.tuple (p::r)
def Ab(h:Heap)(k:yam×Addr):Prop:=isKey h k.1 k.2/\∃p r,k.1=.tuple (.int p::r)
def Ab.g(i:Ab h k):Jh false h k:=by obtain⟨a,p,r,e⟩:=i;refine⟨a,_,r,.inl ⟨rfl,p,rfl⟩,e⟩
noncomputable def tyB(b:Bool):String:=if b then "str" else "int"
def Ut(f:Fs b z)(g:Reads h d z as)(s:yah):s.TypeIs d (tyB b):=by
 rcases f with⟨rfl,p,rfl⟩|⟨rfl,p,rfl⟩
 ·cases g;exact typeIs_int s _ _
 ·cases g;exact typeIs_str s _ _
theorem wJ:∀{ks:List (yam×Addr)},(∀k∈ks,Jh g z k)->∃fs,W.KatTups z (ks.map λk=>.ref k.2) fs/\fs.length=ks.length/\∀f∈fs,∀s:yah,s.TypeIs f (tyB g)
 |[],_=>⟨[],.nil,rfl,by simp⟩
 |(d,a)::ks,hk=>by
  let⟨fs,h1,h2,C⟩:=wJ λk u=>hk k (zaC _ u);obtain⟨⟨k1,k2,as,x⟩,p,r,y,e⟩:=hk (d,a) (by simp);subst e;cases x with
  |@tuple _ o vs m _ _ ho hc hdat hall=>
   generalize q:vs.toList=l at hall;cases hall with
   |@cons v l' _ _ a1 b1 g1 t1=>
    refine⟨v::fs,.cons ho hc hdat ?_ h1,by simp[h2],λf j=>?_⟩
    ·rw[<-zaA,q];rfl
    ·obtain rfl|j:=zcd.mp j
     ·exact Ut y g1
     ·exact C f j
theorem LW(G:∀k∈ks,Jh b s.heap k)(U:∀k∈ks,∀l∈ks,b8 k.1 l.1=true)(P:A.units+6<cLine)(i j)(C)(v)(u:j<ks.length)(h:C (fV ks[i].1 ks[j].1) s):
  W.kas_ask prog w A (tuples' true) (ks.map λk=>.ref k.2) i j C s:=by
 have F:=G ks[i] (zbv v);have E:=G ks[j] (zbv u);have a:=U ks[i] (zbv v) ks[j] (zbv u);have e:∀n S,(ks.map λk=>Value.ref k.2).getD n Value.none=.ref ks[n].2:=λn S=>by simp_all
 delta W.kas_ask;rw[e i v,e j u];generalize ks[i]=x at F a h;generalize ks[j]=y at E a h;let⟨⟨k1,k2,as,Q⟩,p,r,Z,e1⟩:=F;let⟨⟨O,L,bs,X⟩,q,t,Y,e2⟩:=E;obtain⟨dx,ax⟩:=x;obtain⟨dy,ay⟩:=y;subst e1;subst e2;rw[cZ] at k2 L;cases Q with
 |@tuple _ o us m _ _ ho hcl hdat hall=>
  cases X with
  |@tuple _ o2 vs m2 _ _ ho2 hcl2 hdat2 hall2=>
   have I:=f9 hall;have H:=f9 hall2;rw[zaN] at I H;exact W.kat_lt ho hdat ho2 hdat2 (wH _ _ 0 (λz hz=>by have:=dR hz;lia) (λz hz=>by have:=dR hz;lia) k1 O a hall hall2 P (λ_=>⟨b,Z,Y⟩) (by lia) h)
def C1(j:d≠a)(e:h.get? d=some o):(dS h a vs).get? d=some o:=
 zau _ (zau _ ((zav _ _ (Ne.symm j)).trans e))
def mY{R:yah->Prop}(hh:A.handled=none)(hk:∀k∈ks,Jh b s.heap k)(hc:∀k∈ks,∀l∈ks,b8 k.1 l.1=true)(h64:ks.length<64)(hu:A.units+20<cLine)(col:∀{A':yal}{Q':List yai->yah->Prop}{U:yai->yah->Prop},A'.handled=none->(∀s1 (a:List (yam×Addr)),(∀b o,s.heap.get? b=some o->s1.heap.get? b=some o)->R s1->a.Perm ks->Q' (a.map λk=>Value.ref k.2) s1)->yar (model prog w) A' (collect (.ref d)) Q' U s)(h:∀(s1)(h2)(out:List (yam×Addr))(c),R s1->(∀b o,s.heap.get? b=some o->s1.heap.get? b=some o)->(∀b o,s1.heap.get? b=some o->h2.get? b=some o)->h2.get? s1.heap.objs.size=some (seqObj "list" (out.map λk=>Value.ref k.2).toArray c)->out.Perm ks->out.Pairwise (λx y=>fV y.1 x.1=false)->Q (.ref s1.heap.objs.size) {s1 with heap:=h2}):
  yar (model prog w) A (call (.builtin "sorted") [.ref d]) Q E s:=by
 refine zal kind_sorted plain_sorted entry_sorted (args_sorted1 _) ?_;refine yaa (yab ?_);refine yaa (col ?_ λs1 a kp hR u=>?_)
 ·exact hh
 have hol  :=u.length_eq;generalize F:(a.map λk=>Value.ref k.2)=vs;have X:vs.length=a.length:=by grind
 refine yaa (wpAny_newList ?_ (by first|(rw[yaf];lia)|(rw[zba,yaf];lia)));have S:(s1.heap.push (seqObj "list" vs.toArray 0)).get? s1.heap.objs.size=some (seqObj "list" vs.toArray 0):=zaO _ rfl;have H:∀k∈a,Jh b (dS (s1.heap.push (seqObj "list" vs.toArray 0)) s1.heap.objs.size vs) k:=λk G=>by
  obtain⟨⟨k1,k2,as,hr⟩,r⟩:=hk k (u.mem_iff.mp G);exact⟨⟨k1,k2,as,rP S (λz=>by lia) (λc o hc1 e=>C1 hc1 e) _ k1 (Reads.keeps (λb o e=>zau _ (kp b o e)) hr)⟩,r⟩
 have hc'  :=λk h1 l h2=>hc k (u.mem_iff.mp h1) l (u.mem_iff.mp h2);generalize ab:(PyData.none,(0:Addr))=df;have key:∀A',A'.units+8<cLine->∀{P:PySem.Fin->yah->Prop}{U:yai->yah->Prop},(∀p,p.Perm (zcE vs.length).toArray->(2<=vs.length->p=Srt.run (λi j=>fV (a.getD i df).1 (a.getD j df).1) (W.kas_sort vs.length))->P (.done (.ret .none)) {s1 with heap:=sortedHeap (s1.heap.push (seqObj "list" vs.toArray 0)) s1.heap.objs.size vs (p.toList.map λi=>vs.getD i Value.none).toArray})->
   yar (model prog w) A' (Builtin.«list.sort» ⟨[.ref s1.heap.objs.size],[]⟩) P U {s1 with heap:=s1.heap.push (seqObj "list" vs.toArray 0)}:=λA' hA P U hP=>by
  refine zh _ S (by simp_all) (λh2=>⟨tuples' true,λQ' hQ'=>?_,?_⟩) hP
  ·let⟨fs,f1,f2,f3⟩:=wJ H;rw[F] at f1;cases b<;>exact W.kat_kind f1 (by lia) (λv hv A2 Q2 E2 s2 _ q=>wpAny_typeOf (f3 v hv s2) q) (by decide) hQ'
  ·intro i j C I hj hC;have e:∀i I,a.getD i df=a[i]:=λi I=>by simp[I]
   rw[e i (by simp_all),e j (by simp_all)] at hC;have:=LW (prog:=prog) (w:=w) (A:=A') H hc' (by lia) i j C (by lia) (by lia) hC;rw[F] at this;exact this
 refine yaa (yad (wpAny_call_entry slot_list_sort ⟨_,S,rfl⟩ entry_list_sort (key _ ?_ λp hp L=>⟨_,rfl,?_⟩) (args_list_sort _)))
 ·show A.units+1+1+8<cLine;lia
 ·obtain⟨c,Z⟩:=sortedHeap_at S;have O:p.toList.Perm (zcE a.length):=by have:=Array.perm_iff_toList_perm.mp hp;simp_all
  have Y:∀i∈p.toList,i<a.length:=λi I=>zbV.mp (O.mem_iff.mp I);have eo:(p.toList.map λi=>vs.getD i Value.none)=(p.toList.map λi=>a.getD i df).map λk=>Value.ref k.2:=by
   rw[zcn];refine zaJ λi I=>?_;have:=Y i I;rw[<-F];simp[this]
  refine yab ⟨_,rfl,h s1 _ (p.toList.map λi=>a.getD i df) c hR kp (λb o e=>?_) (by rw[<-eo];exact Z) ?_ ?_⟩
  ·have lb:=zcy e;rw[sortedHeap_old (zco lb) (by rw[size_push'];exact zbi lb)];exact zau _ e
  ·refine(O.map _).trans ?_;have:(zcE a.length).map (λi=>a.getD i df)=a:=by
    refine zbz (by simp) λi h1 h2=>?_;simp[zam h2]
   rw[this];exact u
  ·exact JD (λk G=>(H k G).1.1) hc' hp X L
end M6
namespace L2
open PySem PySem.Spec PyProof.Rows M6
section
variable {σ:St}
def Inv.key(I:Inv X pins σ H s)(h1:cG d=true)(h2:d.depth<=6)(a:dJ X.K H d (.ref g)):isKey s.heap d g:=
 ⟨h1,h2,I.reads d (.ref g) (.ref g) a rfl⟩
end
theorem dP{α:Type}(f:α->Addr):∀l:List α,Vals (l.map λx=>V.ref (f x)) (l.map λx=>Value.ref (f x))
 |[]=>.nil
 |x::l=>.cons rfl (dP f l)
end L2
namespace M6
open PySem PySem.Spec PyProof.Rows
def wK{es:Array yav}(a:ItemsOf (λi v=>∃e,es[i]? =some e/\v=e.key) d es.size):d.toList=es.toList.map (·.key):=by
 refine zbf λi=>?_;cases z:d[i]? with
 |some v=>
  let⟨e,o,rfl⟩:=a.2 i v z;simp_all
 |none=>
  have:es.size<=i:=by rw[<-a.1];simp_all
  simp_all
end M6
namespace L2
open PySem PySem.Spec PyProof.Rows M6
def QG(h:pW k u=true):RelV (kV k) u:=by
 rcases bQ h with⟨i,t,rfl,rfl⟩|⟨x,t,rfl,rfl⟩
 ·exact⟨t,rfl⟩
 ·exact⟨t,rfl⟩
theorem pV{prog:yaj}{w:yak}:∀{a:List (Key×V)}{vs:List (Key×yai)}{es:List yav},KV a vs->Pairs (bJ prog w) es vs->Vals (a.map λp=>kV p.1) (es.map (·.key))
 |[],_,es,h1,h2=>by cases h1;cases h2;exact .nil
 |p::a,_,es,h1,h2=>by
  cases h1 with
  |cons r t=>
   cases h2 with
   |cons g1 g2 g3=>
    refine .cons ?_ (pV t g3);show RelV (kV p.1) _;rw[r.1];exact QG g1
def PM:List V->Hp->VK->Prop:=λo H Q=>∃(a:Addr)(j:List (Key×V)),o=[.ref a]/\H a=some (.dK j)/\∀p,H p=none->Q (.ref p) (upd H p (.lst (j.map λx=>kV x.1)))
def PR(o:Bool):R2:=λy x H Q=>∃a j k,x=.ref a/\y=kV k/\H a=some (.dK j)/\Q (.bl (o != (eY j k).isSome)) H
def FT(I:Inv X pins d H s)(e:H a=some (.dK kvs)):(a==yas)=false/\kvs.length<=yag/\∃es u,iu s.heap a es u/\Vals (kvs.map λx=>kV x.1) (es.toList.map (·.key)):=by
 let⟨z,hd,vs,q,o,es,u,E,y,j,G,C,F⟩:=BJ I.hok e;refine⟨hd,z,es,u,⟨o,E,y,j⟩,pV q C⟩
def zJ(F:aW k X.A):cJ X (.type "list") PM:=by
 intro C s O H P S Q I r h;let⟨a,j,rfl,e,q⟩:=h;let⟨u,rfl,ru⟩:=vals1 r;cases ru;obtain⟨lo,hz,L,Z,G,E⟩:=FT I e;have U:L.size=j.length:=by have:=E.length;simp_all
 refine W.kdl_call (OP lo) F.hd G (by simp_all) λY tk y c kp g v=>?_;have ea  :=wK v;refine⟨.ref s.heap.objs.size,_,I.laid (o:=.lst (j.map λx=>kV x.1)) kp (zcA _) ⟨by simp_all,y.toList,c,by rw[ea];exact E,by exact g⟩,rfl,q _ (I.hok.fresh (zcA _))⟩
def Qi(F:X.A.units+1<cLine):iw X (yan .In) (PR false):=by
 intro o s L H y x v u Q I C E h;let⟨a,j,k,rfl,rfl,e,q⟩:=h;obtain rfl:u=Value.ref a:=E;exact Ww F I (nJ.k e) C λO G=>⟨.bl (eY j k).isSome,H,G,rfl,by simpa using q⟩
def CO(F:X.A.units+1<cLine):iw X (yan .NotIn) (PR true):=by
 intro o s L H y x v u Q I C E h;let⟨a,j,k,rfl,rfl,e,q⟩:=h;obtain rfl:u=Value.ref a:=E;exact Lq F I (nJ.k e) C λO G=>⟨.bl (!(eY j k).isSome),H,G,rfl,by simpa using q⟩
end L2
namespace M6
open PySem PySem.Spec PyProof.Rows
def C0:typeLookup (.type "list") (Str.ofString "keys")=pure none:=by rfl
def C4(y:s.heap.get? a=some {cls:=.type "list",data:=.seq r k})(O:A.handled=none)(h:∀(h')(tk),(∀b o,s.heap.get? b=some o->h'.get? b=some o)->z none {s with heap:=h',toks:=tk}):yar (model prog w) A (getAttr? (.ref a) (Str.ofString "keys")) z E s:=by
 have G:=sub_AttributeError;have X:=PySem.F.slot_list_getattribute.lookup;have W:=PySem.F.slot_list_getattribute.bind (Value.ref a);have S:=am_list_getattr_none;have P:=C0;obtain⟨U,g,d,tk,os⟩:=s;delta getAttr? getAttrBy? getAttrBy getAttrByItsOwn callGetattribute boundAndCalled;generalize L:@PySem.call=C
 wp_walk
 subst L;refine call_meets PySem.F.slot_list_getattribute ⟨_,y,rfl⟩ am_entry_list_getattribute (PySem.F.args_list_getattribute_2 (Value.ref a) (Value.str (Str.ofString "keys") tk)) (meets_getattribute_miss_list a r k #[] (Str.ofString "keys") tk P (by rfl)) ⟨y,O,λh' j e q=>?_⟩;obtain⟨t,u,I⟩:=q.there;have v:Shared.TypeIs ⟨h',g,d,j,os⟩ (.ref e) "AttributeError":=⟨_,I,rfl⟩
 have H:=q.keeps;refine yaa (wpAny_isInstance v G ?_);refine yaa (wpAny_of_eq S ?_);refine yaa (wpAny_throw ?_);refine yaa (wpAny_isInstance v G ?_);exact yab (h h' j H)
def sD:entryFor table "dict.update.loop"=some Builtin.«dict.update.loop»:=entryFor_of_tree (by rfl)
def rV:plainId "dict.update.loop"=true:=by decide+kernel
noncomputable def cL{K:Type}[DecidableEq K](ps:List (K×yai)):List (K×yai):=ps.foldl (λa p=>stored a p.1 p.2) []
section
variable {K:Type}[DecidableEq K]{knd:KeyKind prog w K}
def mU(knd:KeyKind prog w K)(h:Heap)(v:yai)(p:K×yai):Prop:=∃t a o n,v=.ref t/\h.get? t=some o/\o.cls=.type "tuple"/\o.data=.seq #[a,p.2] n/\knd.is p.1 a=true
def mU.at(x:mU knd h d g)(e:∀b o,o.cls=.type "tuple"->h.get? b=some o->h'.get? b=some o):mU knd h' d g:=by
 let⟨t,j,o,n,h1,h2,a,q⟩:=x;refine⟨t,j,o,n,h1,e t o a h2,a,q⟩
def BL(x:Heap.DictOf knd h d g)(e:∀o,h.get? d=some o->h'.get? d=some o):Heap.DictOf knd h' d g:=by
 let⟨o,j,q,h1,r⟩:=x;refine⟨o,j,q,e o h1,r⟩
def yt(a:List (K×yai))(k)(v):(stored a k v).length<=a.length+1:=by
 delta stored;split
 ·simp
 simp
def oM(ps:List (K×yai))(p):cL (ps++[p])=stored (cL ps) p.1 p.2:=by
 delta cL;simp
def qP(ps:List (K×yai)):(cL ps).length<=ps.length:=by
 have:∀(l j:List (K×yai)),(l.foldl (λj p=>stored j p.1 p.2) j).length<=j.length+l.length:=by
  intro l
  induction l with
  |nil=>simp
  |cons a r ih=>intro j;rw[zbJ,zby];have:=ih (stored j a.1 a.2);have:=yt j a.1 a.2;lia
 have:=this ps [];simpa[cL] using this
abbrev KT(h h':Heap):Prop:=∀b o,o.cls=.type "tuple"->h.get? b=some o->h'.get? b=some o
def Of(prog:yaj)(w:yak)(A:yal)(d:Addr)(its:Array yai)(Dc:Nat->Heap->Prop)(PP:yai->Nat->Heap->Prop):Prop:=
 ∀(i)(v)(s),its[i]? =some v->PP v i s.heap->Dc i s.heap->∃t o k u n,v=.ref t/\s.heap.get? t=some o/\o.cls=.type "tuple"/\o.data=.seq #[k,u] n/\
  ∀{E:yai->yah->Prop}{Q:Unit->yah->Prop},(∀a tk,Dc (i+1) a->KT s.heap a->Heap.SameBut d s.heap a->Q () {s with heap:=a,toks:=tk})->yar (model prog w) A (dictSet d k u) Q E s
theorem zf{d:Addr}{R:Result->yah->Prop}{St:Nat->Heap->Prop}{Dc:Nat->Heap->Prop}{PP:yai->Nat->Heap->Prop}(W:Walks prog w A.in1 I [I,l] [I] its.size (λi v=>its[i]? =some v) St)(hSt:∀i h,St i h->∀o,h.get? I=some o->o.cls≠ .type "tuple")(hdI:d≠I)(hdl:d≠l)(dk:∀{i h h'},Dc i h->(∀o,h.get? d=some o->h'.get? d=some o)->KT h h'->Dc i h')(X:∀{v i h h'},PP v i h->KT h h'->PP v i h')(st:Of prog w A.in1 d its Dc PP):
  ∀(k i)(s),its.size - i=k->i<=its.size->St i s.heap->Dc i s.heap->(∀i v,its[i]? =some v->PP v i s.heap)->
   (∀(h')(tk),Dc its.size h'->(∀b o,b≠d->b≠I->s.heap.get? b=some o->h'.get? b=some o)->R (.ok (.ret .none)) {s with heap:=h',toks:=tk})->
   codeAny (model prog w) A (.builtin "dict.update.loop" ⟨[.ref d,.ref I,rawInt i,.none],[]⟩) R s:=by
 intro k
 induction k with
 |zero=>
  intro i s hk hi a U P Q;obtain rfl:i=its.size:=by lia
  refine codeAny_builtin sD ?_;refine yaa (W.done s _ _ a λh' tk q=>?_);exact yab (Q h' tk (dk U (λo e=>q d o (by simp_all) e) λb o y e=>q b o (λz=>by
   grind) e) λb o h1 h2 e=>q b o (by simp_all) e)
 |succ k ih=>
  intro i s hk hi a U P Q;have E:i<its.size:=by lia
  refine codeAny_builtin sD ?_;refine yaa (W.item i s _ _ E a λv h' tk hP C q=>?_);have kt:KT s.heap h':=λb o y e=>q b o (λz=>by
   grind) e
  let⟨t,o,ku,u,n,rfl,Y,y,hd,sd⟩:=st i v {s with heap:=h',toks:=tk} hP (X (P i v hP) kt) (dk U (λo e=>q d o (by simp_all) e) kt);refine yaa (yad ?_);refine yaa (wpAny_tryCatch ?_);refine yaa (wpAny_typeOf ⟨o,Y,y⟩ ?_);refine yaa (wpAny_seqItems Y hd (yab ?_));refine yad (sd λx H F L hs=>?_);have e9:∀b o,b≠d->h'.get? b=some o->x.get? b=some o:=λb o Z e=>(hs.2 b Z).trans e;refine yab ⟨plainId_quiet rV _,?_⟩;refine ih (i+1) {s with heap:=x,toks:=H} (by grind) E (W.frame _ h' x C λb Z o e=>e9 b o ?_ e) F (λj v h1=>X (P j v h1) λb o y e=>L b o y (kt b o y e)) λh3 G S O=>
   Q h3 G S λb o h1 h2 e=>O b o h1 h2 (e9 b o h1 (q b o (by simp_all) e))
  grind
def qj(P:A.handled=none)(O:s.heap.get? l=some {cls:=.type "list",data:=.seq its d})(Z:Dc 0 (s.heap.push {cls:=.type "dict",data:=.dict #[]}))(S:∀{i h h'},Dc i h->(∀o,h.get? s.heap.objs.size=some o->h'.get? s.heap.objs.size=some o)->KT h h'->Dc i h')(I:∀{v i h h'},PP v i h->KT h h'->PP v i h')(st:Of prog w A.in1.in1 s.heap.objs.size its Dc PP)(W:∀i v,its[i]? =some v->PP v i s.heap)(h:∀(h':Heap)(tk:Nat),Dc its.size h'->(∀b o,s.heap.get? b=some o->h'.get? b=some o)->Q (.ref s.heap.objs.size) {s with heap:=h',toks:=tk}):
  yar (model prog w) A (call (.type "dict") [.ref l]) Q E s:=by
 refine callType_codes PySem.F.kt_called_dict (PySem.F.kt_typeCall_dict_1 (.ref l)) PySem.F.entry_dict_init (kt_code_dict_new (.ref l) (Q₁:=λu j=>u=.ref s.heap.objs.size/\j={s with heap:=s.heap.push {cls:=.type "dict",data:=.dict #[]}}) ⟨rfl,rfl⟩) λobj j z=>?_;let⟨rfl,rfl⟩:=z;have q:(s.heap.push {cls:=Value.type "dict",data:=Data.dict #[]}).get? s.heap.objs.size=some {cls:=Value.type "dict",data:=Data.dict #[]}:=zaO _ rfl;have x:(s.heap.push {cls:=Value.type "dict",data:=Data.dict #[]}).get? l=some {cls:=.type "list",data:=.seq its d}:=zau _ O;have y:Shared.TypeIs {s with heap:=s.heap.push {cls:=Value.type "dict",data:=Data.dict #[]}} (.ref s.heap.objs.size) "dict":=⟨_,q,rfl⟩
 refine⟨y,PySem.F.args_dict_init_2 _ _,?_⟩;refine yaa (yaa (wpAny_notOrdered_dict y (yab ?_)));refine yaa (wpAny_typeOf ⟨_,x,rfl⟩ ?_);refine yaa (C4 x P λh1 U a=>?_);refine yaa (wpAny_rule ?_);have C:h1.IsList l its:=⟨_,a _ _ x,rfl,d,rfl⟩
 refine yaa (wpAny_pyIter_list C ?_);refine yab ⟨plainId_quiet rV _,?_⟩;have lS  :=zcy (a _ _ q);have ll  :=zcy O;have kp2  :=λb o e=>a b o (zau _ e);refine zf (Dc:=Dc) (PP:=PP) (Walks.list (A:=A.in1.in1) P h1.objs.size l (zco (zcs ll lS)) its) (λi h z o e=>?_) (zco lS) (zcr ll) S I st its.size 0 _ rfl (zcB _) ?_
  (S Z (λo e=>zau _ (a _ _ e)) λb o _ e=>zau _ (a _ _ e)) (λi v h2=>I (W i v h2) λb o _ e=>zau _ (kp2 b o e)) λh' tk H G=>⟨rfl,h h' tk H λb o e=>?_⟩
 ·let⟨o',X,Y,_⟩:=z.1;lia
 ·exact⟨⟨_,zaO _ rfl,rfl,rfl⟩,C.at λo e=>zau _ e⟩
 ·have L:=zcy e;exact G b o (zco L) (zco (zcs L lS)) (zau _ (kp2 b o e))
def zK(X:A.handled=none)(W:s.heap.get? l=some {cls:=.type "list",data:=.seq its g})(u:its.size=d.length)(S:∀(i:Nat)(v)(p),its[i]? =some v->d[i]? =some p->mU knd s.heap v p)(hn:d.length<=1000)(h:∀(h')(tk),Heap.DictOf knd h' s.heap.objs.size (cL d)->(∀b o,s.heap.get? b=some o->h'.get? b=some o)->Q (.ref s.heap.objs.size) {s with heap:=h',toks:=tk}):
  yar (model prog w) A (call (.type "dict") [.ref l]) Q E s:=by
 refine qj (Dc:=λi h=>Heap.DictOf knd h s.heap.objs.size (cL (d.take i))) (PP:=λv i h=>∃p,d[i]? =some p/\mU knd h v p) X W (Heap.DictOf.new s.heap) (λx e _=>BL x e) (λ⟨p,e,x⟩ k=>⟨p,e,x.at k⟩) (λi v Y F z C=>?_) (λi v F=>?_) λh' tk C=>h h' tk (by rw[u,zbu] at C;exact C)
 ·let⟨p,a,t,P,o,n,rfl,U,L,hd,H⟩:=z;refine⟨t,o,P,p.2,n,rfl,U,L,hd,λ{E Q} q=>wpAny_dictSet_pairs H C (λj y O=>q j _ ?_ (λb o L e=>(O.2 b λz=>?_).trans e) O) ?_⟩
  ·show Heap.DictOf knd j _ (cL (d.take (i+1)));rw[List.take_succ,a];show Heap.DictOf knd j _ (cL (d.take i++[p]));rw[oM];exact y
  ·subst z;let⟨Z,_,_,G,I,_⟩:=C;rw[G] at e;cases e;rw[I.1] at L;lia
  ·have h2:=qP (d.take i);rw[zbq] at h2;rw[yaf];(clear z a u;lia)
 ·have  :=(zae.mp F).1;have a:d[i]? =some d[i]:=zam (by simp_all);refine⟨_,a,S i v _ F a⟩
end
end M6
namespace L2
open PySem PySem.Spec PyProof.Rows M6
noncomputable def putAll(a:List (Key×V)):List (Key×V):=a.foldl (λj p=>putK j p.1 p.2) []
theorem o7:∀{j:List (Key×V)}{vs:List (Key×yai)},KV j vs->∀{a:List (Key×V)}{b:List (Key×yai)},KV a b->KV (j.foldl (λo p=>putK o p.1 p.2) a) (vs.foldl (λo p=>stored o p.1 p.2) b)
 |[],_,h,a,b,g=>by cases h;exact g
 |p::j,_,h,a,b,g=>by
  cases h with
  |@cons _ q _ vs r t=>
   show KV (j.foldl _ (putK a p.1 p.2)) (vs.foldl _ (stored b q.1 q.2));rw[<-r.1];exact o7 t (g.put p.1 r.2)
def yP(o):(putAll o).length<=o.length:=by
 have:∀(l j:List (Key×V)),(l.foldl (λj p=>putK j p.1 p.2) j).length<=j.length+l.length:=by
  intro l
  induction l with
  |nil=>simp
  |cons a r ih=>intro j;rw[zbJ,zby];have:=ih (putK j a.1 a.2);have:=iM j a.1 a.2;lia
 have:=this o [];simpa[putAll] using this
def RQ(K:yaJ)(H:Hp)(ts:List Addr)(a:List (Key×V)):Prop:=Paired (λt (p:Key×V)=>fR K H t [kV p.1,p.2]) ts a
def PV(K:yaJ):List V->Hp->VK->Prop:=λq H Q=>∃(a:Addr)(o:List Addr)(j:List (Key×V)),q=[.ref a]/\H a=some (.lst (o.map V.ref))/\RQ K H o j/\j.length<=1000/\∀p,H p=none->Q (.ref p) (upd H p (.dK (putAll j)))
theorem rO:∀{ts:List Addr}{a:List yai},Vals (ts.map V.ref) a->a=ts.map Value.ref
 |[],a,h=>by cases h;rfl
 |t::ts,a,h=>by
  cases h with
  |cons r g=>
   obtain rfl:_=Value.ref t:=r;rw[rO g];rfl
theorem F2(I:Inv X d k z D):∀{ts:List Addr}{a:List (Key×V)},RQ X.K z ts a->∃ps:List (Key×yai),KV a ps/\ps.length=ts.length/\∀(i:Nat)(v)(p),(ts.map Value.ref)[i]? =some v->ps[i]? =some p->mU (bJ X.prog X.w) D.heap v p
 |[],_,h=>by cases h;refine⟨[],.nil,rfl,λi v p h=>by simp at h⟩
 |t::ts,_,h=>by
  cases h with
  |@cons _ q _ a r g=>
   let⟨ps,h1,h2,O⟩:=F2 I g;let⟨F,j,⟨o,G,L,n,hd⟩,_⟩:=I.tuple r;cases j with
   |@cons _ ku _ its' g1 j=>
    cases j with
    |@cons _ u _ its'' g2 j=>
     cases j;refine⟨(q.1,u)::ps,.cons ⟨rfl,g2⟩ h1,by simp[h2],λi v p C y=>?_⟩;cases i with
     |zero=>
      simp only[zcf,zao,zcD.injEq] at C y;subst C;subst y;refine⟨t,ku,o,n,rfl,G,L,hd,kQ g1⟩
     |succ i=>
      exact O i v p C y
def zM(G:aW k X.A):cJ X (.type "dict") (PV X.K):=by
 intro x s S H U W Q I r h;let⟨a,C,j,rfl,e,L,hl,q⟩:=h;let⟨u,rfl,ru⟩:=vals1 r;cases ru;obtain⟨hz,F,c,E,g⟩:=(show bq X.prog X.w H s.heap a (.lst (C.map V.ref)) from I.hok a _ e)
 have O:=rO E;let⟨Y,y,p2,p3⟩:=F2 I L;have Z:=Paired.length y;refine zK G.hd g (by simp_all) (λi v p h1 h2=>p3 i v p (by rw[<-O];simpa using h1) h2) (by simp_all) λh' tk P kp=>?_;have dd'  :=P;refine⟨.ref s.heap.objs.size,_,I.laid (o:=.dK (putAll j)) kp (zcA _) ⟨by have:=yP j;rw[yaf];lia,beq_eq_false_iff_ne.mpr (Ne.symm (zco I.big)),_,o7 y .nil,dd'⟩,rfl,q _ (I.hok.fresh (zcA _))⟩
end L2
namespace M
open PySem PySem.Spec PyProof.Rows L2 M6
noncomputable def keyOf:D->Option Key
 |.int i=>some (.inl i)
 |.str x=>some (.inr x)
 |_=>none
noncomputable def kD:Key->D
 |.inl i=>.int i
 |.inr x=>.str x
noncomputable def gn(ks:List Key)(k:Key):Bool:=ks.any λj=>decide (j=k)
def jg(h:Rep K g d v)(e:keyOf d=some k):v=kV k:=by
 cases d<;>simp only[keyOf] at e<;>cases e
 ·simpa[Rep,kV] using h
 ·simpa[Rep,kV] using h
def JV(h:Rep K g d v)(e:keyOf (aX S d)=some k):v=kV k:=by
 cases z:aX S d<;>rw[z] at e<;>simp only[keyOf] at e<;>cases e
 ·exact cM h z
 ·exact b9 h z
def GU(k):Rep K d (kD k) (kV k):=by cases k<;>simp[kD,kV,Rep]
theorem Br:∀(a:List (Key×V)),av K d ((a.map (·.1)).map kD) (a.map λx=>kV x.1)
 |[]=>.nil
 |p::r=>.cons (GU p.1) (Br r)
def zX:AE:=λ_ S Q=>Q (.new (.dct [] [])) S
def Kd:∀a H Q,bH K zX a H Q->Em a H Q:=by
 intro a H Q z p j;let⟨w,o,S,s,ok,env,q,bk⟩:=z;exact bk (.new (.dct [] [])) S _ w _ .refl (ok.alloc j) (ok.fresh j ⟨[],rfl,rfl,.nil⟩) q
def dG(a b:AE):AE:=λj S Q=>a j S λv x=>b j x λu s=>∃o q k d,aX s v.d=.dct o q/\keyOf u.d=some k/\dN o q k=some d/\Q (.dat d) s
def Ke:∀y H Q,bH K (dG g r) y H Q->MS (bH K g) (bH K r) y H Q:=by
 intro y H Q z;let⟨w,F,S,Qa,ok,env,q,bk⟩:=z;refine⟨w,F,S,_,ok,env,q,.go λr1 Z v1 O H1 x E o P=>?_⟩;refine⟨O,F,Z,_,E,env.le x,P,.go λr2 S2 v2 w2 H2 u s j C=>?_⟩;let⟨ks,ds,k,d,L,I,G,q2⟩:=C;let⟨g,U,rfl,h1,rfl,W⟩:=eK s (o.le u) L;let⟨v,Y,X⟩:=kR W G;rw[jg j I];refine⟨g,v,rfl,?_,bk.dat (x.trans u) s X q2⟩;rw[<-Y];exact nJ.k h1
def qy(a b c:AE):AS:=λD j S=>c j S λu C=>a j C λx y=>b j y λv s=>∃n q o k,x.d=.loc n/\keyOf v.d=some k/\s[n]? =some (some (.dct q o))/\o.length<1000/\D.nx j (s.set n (some (iO q o k u.d)))
def Ka:∀D y H,mF K (qy d g r) D y H->Nh (bH K d) (bH K g) (bH K r) D y H:=by
 intro D y H z;let⟨w,C,S,Da,ok,env,q,bk⟩:=z;refine⟨w,C,S,_,ok,env,q,.go λr3 S1 v3 Z H1 s I v q1=>?_⟩;refine⟨Z,C,S1,_,I,env.le s,q1,.go λr1 S2 v1 Y H2 o G u q2=>?_⟩;refine⟨Y,C,S2,_,G,(env.le s).le o,q2,.go λr2 S3 v2 X H3 j nW x E=>?_⟩;let⟨n,ks,ds,k,W,U,O,hl,q3⟩:=E;rw[W] at u;let⟨d,L,rfl,h0,h1,rfl,Q⟩:=uF nW (u.le j) O;rw[jg x U];have P:L.length=ds.length:=by have:=Q.length;simp_all
 refine⟨d,_,rfl,Jo.k h1 (by rw[yaf];lia),?_⟩;have F:=nW.put O h0 (vQ (k:=k) (v.le (o.trans j)) Q);exact bk.nx C _ y X _ ((s.trans o).trans j) F (((env.le s).le o).le j) q3
def uW(a:Bool):A2:=λx y S Q=>match aX S y with
 |.dct ks _=>∃k,keyOf (aX S x)=some k/\Q (.dat (.bl (a != gn ks k))) S
 |_=>False
def NW:∀x y H Q,Dn K (uW neg) x y H Q->PR neg x y H Q:=by
 intro x y H Q h;let⟨w,d,e,S,E,ok,u,s,q,bk⟩:=h;unfold uW at q;cases z:aX S e<;>rw[z] at q<;>first|exact q.elim|skip
 let⟨k,o,q⟩:=q;let⟨a,j,rfl,h1,rfl,C⟩:=eK ok s z;refine⟨a,j,k,rfl,JV u o,h1,bk.dat .refl ok .bl ?_⟩;have v:gn (j.map (·.1)) k=(eY j k).isSome:=by
  delta gn;rw[zcl];exact oG k j
 rw[<-v];exact q
def uV:AN:=λo S Q=>∃d a j,o=[d]/\aX S d=.dct a j/\Q (.new (.lst (a.map kD))) S
noncomputable def sG(a:List Key×List D)(p:Key×D):List Key×List D:=if gn a.1 p.1=true then(a.1,(a.1.zip a.2).map λx=>if x.1=p.1 then p.2 else x.2) else(a.1++[p.1],a.2++[p.2])
noncomputable def nF(ps:List (Key×D)):List Key×List D:=ps.foldl sG ([],[])
def RJ:AN:=λj S Q=>∃d,∃a:List (Key×D),j=[d]/\aX S d=.lst (a.map λp=>.tup [kD p.1,p.2])/\a.length<=1000/\Q (.new (.dct (nF a).1 (nF a).2)) S
def uG(a)(p):iO a.1 a.2 p.1 p.2=.dct (sG a p).1 (sG a p).2:=by
 delta iO sG gn;split<;>rfl
theorem xw{w:Wd}:∀{ps:List (Key×D)}{j:List (Key×V)},Paired (λ(p:Key×D)(q:Key×V)=>p.1=q.1/\Rep K w p.2 q.2) ps j->∀{a:List Key×List D}{b:List (Key×V)},b.map (·.1)=a.1->av K w a.2 (b.map (·.2))->
  (j.foldl (λo p=>putK o p.1 p.2) b).map (·.1)=(ps.foldl sG a).1/\av K w (ps.foldl sG a).2 ((j.foldl (λo p=>putK o p.1 p.2) b).map (·.2))
 |[],_,h,a,b,g1,g2=>by cases h;exact⟨g1,g2⟩
 |p::ps,_,h,a,b,g1,g2=>by
  cases h with
  |@cons _ q _ j r t=>
   have s:=vQ (k:=p.1) r.2 g2;rw[g1] at s;rw[show iO a.1 a.2 p.1 p.2=_ from uG a p] at s;let⟨v,u,y,x⟩:=s;injection u with u;subst u;rw[r.1] at y x;exact xw t y x
theorem rZ(ok:Ok K d g k):∀{ps:List (Key×D)}{j:List V},av K d (ps.map λp=>D.tup [kD p.1,p.2]) j->∃ts a,j=ts.map V.ref/\RQ K g ts a/\Paired (λ(p:Key×D)(q:Key×V)=>p.1=q.1/\Rep K d p.2 q.2) ps a
 |[],j,h=>⟨[],[],by simpa[av] using h,.nil,.nil⟩
 |p::ps,j,h=>by
  let⟨x,r,rfl,h1,h2⟩:=h;let⟨ts,a,rfl,C,y⟩:=rZ ok h2;let⟨t,F,rfl,v,u⟩:=h1;obtain⟨s,I,rfl,k1,o,G,rfl,k2,rfl⟩:=u;have E:s=kV p.1:=jg k1 (by cases p.1<;>rfl);subst E;refine⟨t::ts,(p.1,o)::a,rfl,.cons (fR.same ok.base v) C,.cons ⟨rfl,k2⟩ y⟩
section
variable {o i:Expr}
theorem gg:GE X (.Dict [] [] pos) zX:=⟨mE L2.gg Kd⟩
def bf(a:X.A.units+1<cLine)(q:GE X o ta)(s:GE X i tb)(j:DN i):GE X (.Subscript o i pos) (dG ta tb):=⟨mE (L2.Ky a q.p s.p j) Ke⟩
def iF(j:X.A.units+1<cLine)(s:GE X o ta)(u:GE X i tb)(a:GE X value tc)(q:yat value (some (.Subscript o i pos')) pos.line X.env=pure false):GS X (.Assign [.Subscript o i pos'] value pos) (qy ta tb tc):=
 ⟨mS (L2.Ku j s.p u.p a.p q) Ka⟩
def Gh(a:aW k X.A):nH X (yan .In) (uW false):=⟨m2 (Qi (bU a)) NW⟩
def wc(a:aW k X.A):nH X (yan .NotIn) (uW true):=⟨m2 (CO (bU a)) NW⟩
def uf(x:aW k X.A):s9 X (.type "list") uV:=⟨mC (zJ x) λy H Q h=>by
 let⟨w,G,S,I,ok,rep,⟨d,C,F,rfl,z,q⟩,bk⟩:=h;let⟨v,rfl,u⟩:=jz rep;let⟨a,j,rfl,h1,rfl,E⟩:=eK ok u z;refine⟨a,j,rfl,h1,λp s=>bk (.new (.lst _)) S _ w _ .refl (ok.alloc s) (ok.fresh s ⟨_,rfl,Br j⟩) q⟩⟩
def kI(G:aW k X.A):s9 X (.type "dict") RJ:=⟨mC (zM G) λC H Q h=>by
 let⟨w,U,S,W,ok,rep,⟨d,s,rfl,z,P,q⟩,bk⟩:=h;let⟨v,rfl,F⟩:=jz rep;let⟨a,C,rfl,h1,h2⟩:=bC ok F z;let⟨E,j,rfl,I,y⟩:=rZ ok h2;have x:=Paired.length y;let⟨O,L⟩:=xw y (a:=([],[])) (b:=[]) rfl .nil;refine⟨a,E,j,rfl,h1,I,by lia,λp u=>bk (.new (.dct (nF s).1 (nF s).2)) S _ w _ .refl (ok.alloc u) (ok.fresh u ⟨_,rfl,O,L⟩) q⟩⟩
end
def cD(d:D):Prop:=b7 d=true/\cG (py d)=true/\(py d).depth<=6/\∃a,d=.tup a
noncomputable def putN(ks:List D)(k:D):List D:=if(ks.any λj=>decide (py j=py k))=true then ks else ks++[k]
def wU(ok:Ok K k H S)(h:Rep K k d v)(g:cD d):∃b,v=.ref b/\dJ K H (py d) (.ref b):=by
 obtain⟨a,q,o,s,rfl⟩:=g;have h2:=h;let⟨b,j,rfl,_⟩:=h2;have:=Ay ok h (by simpa[aX] using a);exact⟨b,rfl,by simpa[aX] using this⟩
theorem fU:∀{o:List (D×Addr)},(∀x∈o,Rep K d x.1 (.ref x.2))->av K d (o.map (·.1)) (o.map λx=>V.ref x.2)
 |[],_=>.nil
 |x::o,h=>.cons (h x (by simp)) (fU λy a=>h y (zaC _ a))
def vd(h:H a=some d):upd H a d=H:=by
 funext b;by_cases j:b=a
 ·subst j;rw[bL,h]
 ·rw[aQ j]
inductive DP(p:Nat)(ks:List Key):List D->aq->List D->aq->Prop
 |nil {ds:List D}{S:aq}:DP p ks ds S ds S
 |step {ds ds' es:List D}{S S':aq}{m:Nat} (h:S[m]? =some (some (.lst es))) (hm:m≠p) (t:DP p ks (ds.map (sb m (.lst es))) ((S.set m none).set p (some (.dct ks (ds.map (sb m (.lst es)))))) ds' S'):DP p ks ds S ds' S'
def Ld{p:Nat}{ks:List Key}{s:List D}(h:DP p ks ds S s S'):∀{w:Wd}{H:Hp},S[p]? =some (some (.dct ks ds))->Ok K w H S->∃C,w.le C/\Ok K C H S':=by
 induction h with
 |nil=>exact λ_ ok=>⟨_,.refl,ok⟩
 |@step ds s es S S' m hS hm t ih=>
  intro w H E ok;let⟨G,j,v,f⟩:=QU ok hS;have P:p<S.length:=by
   grind
  have y:(S.set m none)[p]? =some (some (.dct ks ds)):=by rw[zaE hm];exact E
  obtain⟨a,u,k1,k2,O,q,rfl,L,k6⟩:=ok.live p _ E;have k1'  :=j.r _ _ k1;have I:mK K G (.dct ks (ds.map (sb m (.lst es)))) (.dK q):=⟨q,rfl,L,yC j f k6⟩
  have o:=v.put y k1' I;rw[vd O] at o;let⟨F,x,nW⟩:=ih (by simp_all) o;refine⟨F,j.trans x,nW⟩
def Ii(a:AE):AE:=λv S Q=>a v S λr u=>∃p o q j s,r=.dat (.loc p)/\u[p]? =some (some (.dct o q))/\DP p o q u j s/\Q (.dat (.loc p)) s
def Pb:∀s H Q,bH K (Ii d) s H Q->bH K d s H Q:=by
 intro s H Q z;let⟨w,E,S,Qa,ok,env,q,bk⟩:=z;refine⟨w,E,S,_,ok,env,q,λr Z v U H1 C y j u=>?_⟩;let⟨p,W,X,O,Y,L,I,G,F⟩:=u;subst L;let⟨P,o,x⟩:=Ld G I y;exact bk.dat (C.trans o) x (j.le o) F
def Wq(h:GE X e d):GE X e (Ii d):=⟨mE h.p Pb⟩
end M
namespace M7
open PySem PySem.Spec PyProof.Rows M5
def je:rq d↔d.toList.Pairwise (· < ·):=by
 rw[zaj];constructor
 ·intro h i j s q a;have:=h i j a (by simp_all) (by simp_all);simp_all
 ·intro h i j a q s;simp_all
def FE(s:rq d)(H:(d[SetTable.below d j]? ==some j)=false):rq (SetTable.insertAt d (SetTable.below d j) j):=by
 let⟨h1,h2,F⟩:=k7 s j;rw[je] at s⊢;have e:(SetTable.insertAt d (SetTable.below d j) j).toList=d.toList.take (SetTable.below d j)++[j]++d.toList.drop (SetTable.below d j):=by
  delta SetTable.insertAt;simp[Array.toList_extract];exact List.take_of_length_le (by simp)
 rw[e];generalize SetTable.below d j=p at*;have G:∀x∈d.toList.take p,x<j:=λx q=>by
  obtain⟨i,C,rfl⟩:=zaI q;rw[zbq] at C;simp_all
 have hd:∀x∈d.toList.drop p,j<x:=λx q=>by
  obtain⟨i,C,rfl⟩:=zaI q;have v:p+i<d.size:=by simp at C;lia
  have Q:=F (p+i) v (by lia);have I:(d.toList.drop p)[i]=d[p+i]:=by simp
  have u:p<d.size:=by lia
  have P:d[p]≠j:=λz=>by
   simp_all
  obtain rfl|z:=Nat.eq_zero_or_pos i
  ·have:d[p+0]=d[p]:=rfl;lia
  ·have O:=F p u (zcA _);have L:=je.mpr s p (p+i) (by simp_all) v u;grind
 rw[zaG,zaG];refine⟨⟨s.sublist (List.take_sublist ..),by simp,λa y b E=>?_⟩,s.sublist (List.drop_sublist ..),λa y b E=>?_⟩
 ·simp_all
 ·obtain y|y:=zbE.mp y
  ·exact zcs (G a y) (hd b E)
  simp_all
theorem uz{α:Type}(f:Nat->Option α):∀l:List Nat,(List.map (λx=>x.1) (List.filterMap (λj=>Option.map (λx=>(j,x)) (f j)) l)).Sublist l
 |[]=>.slnil
 |a::l=>by
  rw[List.filterMap_cons];cases f a with
  |none=>exact .cons a (uz f l)
  |some x=>exact .cons₂ a (uz f l)
end M7
namespace M6
open PySem PySem.Spec PyProof.Rows
theorem sE{I l:Addr}{a:Array yai}{St:Nat->Heap->Prop}(W:Walks prog w A I [I,l] [I] a.size (λi v=>a[i]? =some v) St):∀(k i){s:yah}{E:yai->yah->Prop}{Q:List yai->yah->Prop},i+k=a.size->St i s.heap->
  (∀(h')(tk),St a.size h'->(∀b o,b≠I->s.heap.get? b=some o->h'.get? b=some o)->Q (a.toList.drop i) {s with heap:=h',toks:=tk})->yar (model prog w) A (draw (.ref I) k) Q E s
 |0,i,s,E,Q,hk,hst,h=>by
  obtain rfl:i=a.size:=by lia
  have:=h s.heap s.toks hst λb o _ e=>e;rw[List.drop_of_length_le (by simp)] at this;exact yab this
 |k+1,i,s,E,Q,hk,hst,h=>by
  have F:i<a.size:=by lia
  refine yaa (W.item i s _ _ F hst λv h' tk H q C=>?_);refine yaa (yad (sE W k (i+1) (by lia) q λy u j x=>?_));refine yab ?_;have e:a.toList.drop i=v::a.toList.drop (i+1):=by
   rw[<-List.getElem_cons_drop (by simp_all)];simp_all
  have:=h y u j λb o G e=>x b o G (C b o (by simp_all) e);rw[e] at this;exact this
def ve(H:A.handled=none)(q:s.heap.IsList l d)(h:∀(h')(tk),(∀b o,s.heap.get? b=some o->h'.get? b=some o)->g d.toList {s with heap:=h',toks:=tk}):yar (model prog w) A (unpackItems (.ref l) d.size none) g E s:=by
 have C:l<s.heap.objs.size:=by let⟨o,G,_⟩:=q;exact zcy G
 refine yaa (yaa (wpAny_specialOf q.typeIs slot_list_iter.lookup (yab ?_)));refine yaa (yad (wpAny_pyIter_list q ?_));have W:=Walks.list (prog:=prog) (w:=w) H s.heap.objs.size l (zco C) d;refine yaa (yad (sE W d.size 0 (by lia) ⟨⟨_,zaO _ rfl,rfl,rfl⟩,q.at λo e=>zau _ e⟩ λh1 y j x=>?_));rw[yIn (by simp)];refine yaa (yad (W.done _ _ _ j λh2 u v=>?_));refine yab (h h2 u λb o e=>?_);have F:=zco (zcy e);exact v b o (by simp_all) (x b o F (zau _ e))
end M6
namespace L2
open PySem PySem.Spec PyProof.Rows M6
def NO(K:yaJ)(n:Nat)(t:Io):TG:=λv o H Q=>∃a j,v=.ref a/\cW K H a j/\j.length=n/\t j o H Q
def tY(O:X.calm=true)(h:Oh X d g)(G:autoParam ((assignEach d X.env).length=n) r0)(q:autoParam ((assignEach d X.env).findIdx? (·.1)=none) r0):PG X (.Tuple d k pos) (NO X.K n g):=by
 intro j s x H v u Q I r hw;let⟨a,C,U,F,L,hw⟩:=hw;subst U;cases r;let⟨o,y,E,hz⟩:=I.list F;refine yaa (yay ?_);delta unpack;rw[q];have S:(assignEach d X.env).length=o.toArray.size:=by simp[G,<-L,y.length]
 rw[S];refine yaa (yad (ve (I.ok.hd O) E.isList λP tk kp=>?_));have W:Inv X j x H {s with heap:=P,toks:=tk}:=I.kept kp;exact h j _ x H C _ Q W (by simpa using y) hw
end L2
namespace M
open PySem PySem.Spec PyProof.Rows L2
def HY(n:Nat)(a:DR):AG:=λd o S Q=>∃j,aX S d=.lst j/\j.length=n/\a j o S Q
def J8:∀v j H Q,zG K (HY n g) v j H Q->NO K n (sH K g) v j H Q:=by
 intro v j H Q k;let⟨w,d,o,S,y,ok,env,rep,⟨x,z,u,q⟩,bk⟩:=k;let⟨b,s,rfl,h1,h2⟩:=bC ok rep z;refine⟨b,s,rfl,cW.of h1,by rw[h2.length];exact u,w,x,o,S,y,ok,env,h2,q,bk⟩
section
variable {es:List Expr}
theorem tY(o:X.calm=true)(h:Vf X es d)(j:autoParam ((assignEach es X.env).length=n) r0)(a:autoParam ((assignEach es X.env).findIdx? (·.1)=none) r0):GG X (.Tuple es k pos) (HY n d):=⟨mG (L2.tY o h.p j a) J8⟩
end
def gK(D:Def X.prog X.w X.K X.mg X.base k x ps (az X.K sp))(j:aW k X.A)(u:Gl X x)(a:(x==("__debug__":Str))=false:=by decide+kernel):
  GE X (.Call (.Name x d) [] [] pos) (aCall sp gu):=⟨by
 obtain⟨f,fd,F,o,s,v⟩:=D.ex;refine mE (L2.Gb F j u o s v .nil rY a) λC H Q h=>?_;let⟨w,E,S,y,ok,env,q,bk⟩:=h;refine⟨w,[],S,y,ok,.nil,q,bk⟩⟩
end M
namespace M8
open PySem PySem.Spec PyProof.Rows
open PySem.SetTable (Probe bits runEnd leap turns)
theorem V5{α:Type}[DecidableEq α]:∀{l m:List α},l.Nodup->(∀x∈l,x∈m)->l.length<=m.length
 |[],m,_,_=>zcB _
 |a::l,m,hn,hs=>by
  rw[zbH] at hn;have h1:l.length<=(m.erase a).length:=V5 hn.2 λx j=>by
   grind
  have h2  :=hs a (by simp);have o:=zan h2;have h4  :=zar h2;rw[zby];omega
noncomputable def LY(m:Nat)(p:Probe):Probe:=
 if p.more> 0 then{p with j:=p.j+1,more:=p.more - 1} else
 {p with j:=(leap m p.i p.perturb).1,more:=runEnd m (leap m p.i p.perturb).1 - (leap m p.i p.perturb).1,i:=(leap m p.i p.perturb).1,perturb:=(leap m p.i p.perturb).2}
noncomputable def dF(m:Nat)(q:Nat×Nat):Probe:={j:=q.1,more:=runEnd m q.1 - q.1,i:=q.1,perturb:=q.2,dummy:=none}
noncomputable def ru(m:Nat)(h:Int):Nat->Nat×Nat
 |0=>(bits h % (m+1),bits h)
 |k+1=>leap m (ru m h k).1 (ru m h k).2
noncomputable def road(m:Nat)(h:Int):Nat->Probe
 |0=>dF m (ru m h 0)
 |n+1=>LY m (road m h n)
noncomputable def nk(m:Nat)(h:Int):Nat->Nat
 |0=>0
 |k+1=>nk m h k+(runEnd m (ru m h k).1 - (ru m h k).1)+1
def PC:runEnd m i - i<=9:=by delta runEnd;split<;>simp
def PF:i<=runEnd m i:=by delta runEnd;split<;>lia
def Fw(h:i<=m):runEnd m i<=m:=by delta runEnd;split<;>assumption
theorem Fy(m:Nat)(h:Int):∀k,(ru m h k).1<=m
 |0=>zbj (zcF _ (Nat.succ_pos m))
 |k+1=>zbj (zcF _ (Nat.succ_pos m))
theorem Nv(m)(h):∀k,nk m h k<=10*k
 |0=>zcA _
 |k+1=>by have:=Nv m h k;have:=PC (m:=m) (i:=(ru m h k).1);show nk m h k+_+1<=_;lia
def AJ(m)(h):∀k,road m h (nk m h k)=dF m (ru m h k)/\∀c,c<=runEnd m (ru m h k).1 - (ru m h k).1->road m h (nk m h k+c)={dF m (ru m h k) with j:=(ru m h k).1+c,more:=runEnd m (ru m h k).1 - (ru m h k).1 - c}:=by
 have step:∀k,road m h (nk m h k)=dF m (ru m h k)->∀c,c<=runEnd m (ru m h k).1 - (ru m h k).1->road m h (nk m h k+c)={dF m (ru m h k) with j:=(ru m h k).1+c,more:=runEnd m (ru m h k).1 - (ru m h k).1 - c}:=by
  intro k a c
  induction c with
  |zero=>intro _;rw[Nat.add_zero,a];rfl
  |succ c ih=>
   intro o;show LY m (road m h (nk m h k+c))=_;rw[ih (by lia)];delta LY;rw[yIp (by show runEnd m (ru m h k).1 - (ru m h k).1 - c> 0;omega)];rfl
 intro k
 induction k with
 |zero=>exact⟨rfl,step 0 rfl⟩
 |succ k ih=>
  have:road m h (nk m h (k+1))=dF m (ru m h (k+1)):=by
   show LY m (road m h (nk m h k+(runEnd m (ru m h k).1 - (ru m h k).1)))=_;rw[ih.2 _ (zcA _)];delta LY;rw[yIn (by simp)];rfl
  exact⟨this,step _ this⟩
theorem oQ(m)(h):∀n,(road m h n).j+(road m h n).more<=m/\(road m h n).dummy=none
 |0=>by
  have h1:=Fy m h 0;have h2:=Fw h1;refine⟨?_,rfl⟩;show(ru m h 0).1+(runEnd m (ru m h 0).1 - (ru m h 0).1)<=m;lia
 |n+1=>by
  have a:=oQ m h n;show(LY m (road m h n)).j+(LY m (road m h n)).more<=m/\(LY m (road m h n)).dummy=none;delta LY;split
  ·refine⟨?_,a.2⟩;show(road m h n).j+1+((road m h n).more - 1)<=m;lia
  ·refine⟨?_,a.2⟩;dsimp only;have h1:(leap m (road m h n).i (road m h n).perturb).1<=m:=zbj (zcF _ (Nat.succ_pos m));have h2:=Fw h1;lia
noncomputable def Vt(m i:Nat):Nat:=(i*5+1) % (m+1)
noncomputable def it(m:Nat):Nat->Nat->Nat
 |0,i=>i
 |k+1,i=>it m k (Vt m i)
theorem pX(m):∀a b i,it m (a+b) i=it m b (it m a i)
 |0,b,i=>by rw[Nat.zero_add];rfl
 |a+1,b,i=>by rw[Nat.add_right_comm];exact pX m a b (Vt m i)
noncomputable def Tu(m:Nat):Nat->Nat->List Nat
 |0,_=>[]
 |k+1,i=>i::Tu m k (Vt m i)
theorem Bc(m):∀k i j,j∈Tu m k i->∃a,a<k/\it m a i=j
 |0,i,j,h=>by simp[Tu] at h
 |k+1,i,j,h=>by
  simp only[Tu,zcd] at h;obtain rfl|h:=h
  ·refine⟨0,by lia,rfl⟩
  ·let⟨a,h1,h2⟩:=Bc m k _ j h;refine⟨a+1,by lia,h2⟩
noncomputable def full(m:Nat):Bool:=(zcE (m+1)).all (λj=>(Tu m (m+1) 0).contains j)&&it m (m+1) 0==0
def QL(o:full m=true)(u:i<=m)(s:j<=m):∃k,k<=m/\it m k i=j:=by
 delta full at o;rw[zbB,zbt] at o;have g:∀x,x<=m->∃a,a<m+1/\it m a 0=x:=λx C=>Bc m _ _ _ (by
  have:=o.1 x (zbV.mpr (by lia));simp_all)
 have per  :=by simpa using o.2
 let⟨a,F,q⟩:=g i u;let⟨b,E,y⟩:=g j s;by_cases v:a<=b
 ·refine⟨b - a,by grind,?_⟩;rw[<-q,<-pX];simp_all
 ·refine⟨m+1 - a+b,by lia,?_⟩;rw[<-q,<-pX,<-y];have:a+(m+1 - a+b)=m+1+b:=by lia
  rw[this,pX,per]
def LP(h):bits h<2 ^ 64:=by
 delta bits;lia
theorem Fx(m)(h):∀k,(ru m h k).2=bits h / 32 ^ k
 |0=>by simp[ru]
 |k+1=>by
  show(ru m h k).2 / 32=_;rw[Fx m h k,Nat.div_div_eq_div_mul,Nat.pow_succ]
def Kh(m)(h)(a:13<=k):(ru m h k).2=0:=by
 rw[Fx];refine Nat.div_eq_of_lt (zaU (LP h) ?_);exact zcp (show 2 ^ 64<=32 ^ 13 by decide) (Nat.pow_le_pow_right (by decide) a)
theorem Ni(m:Nat)(h:Int):∀k,(ru m h (13+k)).1=it m k (ru m h 13).1
 |0=>rfl
 |k+1=>by
  have e:(ru m h (13+(k+1))).1=Vt m (ru m h (13+k)).1:=by
   show((ru m h (13+k)).1*5+1+(ru m h (13+k)).2 / 32) % (m+1)=_;rw[Kh m h (by lia)];rfl
  rw[e,Ni m h k,pX m k 1];rfl
def Fz(o:full m=true)(h)(a:j<=m):∃k,k<=m+13/\(ru m h k).1=j:=by
 let⟨k,h1,h2⟩:=QL o (Fy m h 13) a;refine⟨13+k,by lia,by rw[Ni,h2]⟩
def FA(o:full m=true)(h)(a:j<=m):∃n,n<10*turns m/\(road m h n).j=j:=by
 let⟨k,h1,h2⟩:=Fz o h a;refine⟨nk m h k,?_,?_⟩
 ·have:=Nv m h k;delta turns;lia
 ·rw[(AJ m h k).1];exact h2
def Way(m:Nat)(occ:Nat->Prop)(h:Int)(j:Nat):Prop:=∃n,(road m h n).j=j/\∀a<n,occ (road m h a).j
def Way.mono(w:Way m occ k j)(g:∀x,occ x->d x):Way m d k j:=by
 let⟨n,h1,h2⟩:=w;refine⟨n,h1,λo q=>g _ (h2 o q)⟩
theorem least{P:Nat->Prop}:∀(n),P n->∃k,k<=n/\P k/\∀i<k,¬P i
 |0,h=>⟨0,zcA _,h,λi j=>absurd j (zbP _)⟩
 |n+1,h=>by
  by_cases g:∃i,i<=n/\P i
  ·let⟨i,h1,h2⟩:=g;let⟨k,a,b,c⟩:=least i h2;refine⟨k,by lia,b,c⟩
  ·refine⟨n+1,zcA _,h,λi j o=>g ⟨i,by lia,o⟩⟩
def zC(v:full m=true)(h){occ:List Nat}(C:occ.length<=m):∃N,N<10*turns m/\(road m h N).j ∉ occ/\∀n<N,(road m h n).j∈occ:=by
 have:∃j,j<=m/\j ∉ occ:=by
  apply Classical.byContradiction;intro s;have h1:=V5 (l:=zcE (m+1)) (m:=occ) zbA λx y=>by
   grind
  rw[zbe] at h1;lia
 let⟨j,h1,h2⟩:=this;let⟨n,F,E⟩:=FA v h h1;let⟨N,a,b,c⟩:=least (P:=λn=>(road m h n).j ∉ occ) n (by simp_all);refine⟨N,by lia,b,λq u=>Classical.byContradiction λo=>c q u o⟩
end M8
namespace M8
open PySem PySem.Spec PyProof.Rows M7
open PySem.SetTable (Probe bits runEnd leap turns)
abbrev Ent:=Nat×(Int×yai)
noncomputable def fs(l:List Ent):List Nat:=l.map (·.1)
structure Tab(t:SetTable)(es:Array (Int×yai))(l:List Ent):Prop where
 dm:t.dummies=#[]
 pl:t.place.toList=fs l
 el:es.toList=l.map (·.2)
 up:(fs l).Pairwise (· < ·)
 mm:t.mask=7∨t.mask=31∨t.mask=127
 nf:l.length*5<t.mask*3
 le:∀e∈l,e.1<=t.mask
 way:∀e∈l,Way t.mask (· ∈fs l) e.2.1 e.1
def By(h:m=7∨m=31∨m=127):full m=true:=by
 obtain rfl|rfl|rfl:=h
 ·rfl
 ·rfl
 rfl
section
variable {l:List Ent}
def Tab.rise(T:Tab t es l):rq t.place:=je.mpr (by rw[T.pl];exact T.up)
def Tab.sz(T:Tab t es l):t.place.size=l.length:=by rw[<-zaN,T.pl];exact zbF ..
def Tab.Vw(T:Tab t es l):es.size=l.length:=by rw[<-zaN,T.el,zbF]
theorem Tab.fits(T:Tab t es l):t.fits es.size=true:=by
 have h1:=T.sz;have h2:=T.Vw;have a:=T.nf;delta SetTable.fits SetTable.fill;rw[T.dm];simp;lia
def below_at(j:rq d)(o:i<d.size):SetTable.below d d[i]=i:=by
 let⟨h1,h2,q⟩:=k7 j d[i];obtain z|z|z:=Nat.lt_trichotomy i (SetTable.below d d[i])
 ·have:=h2 i o z;lia
 ·exact z.symm
 ·have:=q _ (by lia:SetTable.below d d[i]<d.size) (zcA _);have:=j _ _ z o (by lia);lia
theorem Tab.live(T:Tab t es l)(h:(j,d)∈l):∃i,t.slot j=.live i/\es[i]? =some d/\i<es.size:=by
 obtain⟨i,a,q⟩:=zaI h;have o:i<t.place.size:=by rw[T.sz];exact a
 have v:t.place[i]=j:=by
  have:t.place.toList[i]'(by simp_all)=(fs l)[i]'(by delta fs;simp_all):=by simp only[T.pl]
  rw[Array.getElem_toList] at this;rw[this];delta fs;simp_all
 have s:es[i]? =some d:=by
  rw[<-zaA,T.el,zbb,zam a,q];rfl
 have u:=below_at T.rise o;refine⟨i,?_,s,by rw[T.Vw];exact a⟩;delta SetTable.slot;simp_all
theorem Tab.empty(T:Tab t es l)(h:j ∉ fs l):t.slot j=.empty:=by
 delta SetTable.slot;rw[yIn (λz=>h (by
  have z  :=by simpa using z
  rw[<-zaA,T.pl] at z;exact zaF z)),T.dm]
 rfl
def Qt(h:j∈fs l):∃e,(j,e)∈l:=by
 obtain⟨⟨a,b⟩,h1,h2⟩:=zcm.mp h;subst h2;exact⟨b,h1⟩
theorem Tab.probe(T:Tab t es l){hashAt:Nat->Int}{h:Int}(y:∀i e,es[i]? =some e->hashAt i=e.1){N:Nat}(hN:(road t.mask h N).j ∉ fs l)(H:∀n<N,(road t.mask h n).j∈fs l):∀(f n),n<=N->N - n<f->
  (SetTable.probe.go t hashAt h f (road t.mask h n)=some (.empty (road t.mask h N).j none)/\∀q,n<=q->q<N->∀e,((road t.mask h q).j,e)∈l->e.1≠h)∨
  ∃s e i,n<=s/\s<N/\((road t.mask h s).j,e)∈l/\e.1=h/\t.slot (road t.mask h s).j=.live i/\es[i]? =some e/\SetTable.probe.go t hashAt h f (road t.mask h n)=some (.candidate (road t.mask h s).j i (road t.mask h (s+1)))/\∀q,n<=q->q<s->∀e,((road t.mask h q).j,e)∈l->e.1≠h
 |0,n,h1,h2=>by simp_all
 |f+1,n,h1,h2=>by
  rw[SetTable.probe.go.eq_2];obtain z|z:=zct n N
  ·let⟨e,G⟩:=Qt (H n z);let⟨i,F,E,Z⟩:=T.live G;rw[F];dsimp only;rw[y i e E];have v:∀u,((road t.mask h n).j,u)∈l->u=e:=λu o=>by
    let⟨i',Y,X,_⟩:=T.live o;lia
   by_cases x:e.1=h
   ·refine .inr ⟨n,e,i,zcA _,z,G,x,F,E,?_,λq a b=>by lia⟩;rw[yIp (by simp[x])];rfl
   ·rw[yIn (by simp[x])];rcases T.probe y hN H f (n+1) (by assumption) (by lia) with⟨a,b⟩|⟨s,I,C,a1,W,U,S,Q,P,O,L⟩
    ·refine .inl ⟨a,λq c d u o=>?_⟩;obtain rfl|c:=Nat.eq_or_lt_of_le c
     ·rw[v u o];exact x
     ·exact b q c d u o
    ·refine .inr ⟨s,I,C,by lia,W,U,S,Q,P,O,λq c d u o=>?_⟩;obtain rfl|c:=Nat.eq_or_lt_of_le c
     ·rw[v u o];exact x
     ·exact L q c d u o
  ·obtain rfl:n=N:=by lia
   rw[T.empty hN];rw[(oQ t.mask h n).2];exact .inl ⟨rfl,λq a b=>by lia⟩
noncomputable def more(l:List Ent)(p:Nat)(e:Ent):List Ent:=l.take p++e::l.drop p
def eX(l)(p)(e):(more l p e).Perm (e::l):=by
 refine List.perm_middle.trans ?_;simp
def pZ{α:Type}(a:Array α)(p:Nat)(x:α):(SetTable.insertAt a p x).toList=a.toList.take p++x::a.toList.drop p:=by
 delta SetTable.insertAt;simp[Array.toList_extract];exact List.take_of_length_le (by simp)
def FY(T:Tab t es l){h:Int}{x:yai}:(SetTable.insertAt es (t.put j).2 (h,x)).toList=(more l (t.put j).2 (j,(h,x))).map (·.2):=by
 rw[pZ,T.el];delta more;simp
theorem Tab.put(T:Tab t es l){x:yai}(hN:(road t.mask d k).j ∉ fs l)(v:∀n<k,(road t.mask d n).j∈fs l)(s:(l.length+1)*5<t.mask*3):
  Tab (t.put (road t.mask d k).j).1 (SetTable.insertAt es (t.put (road t.mask d k).j).2 (d,x)) (more l (t.put (road t.mask d k).j).2 ((road t.mask d k).j,(d,x))):=by
 have E:=oQ t.mask d k;generalize C:(road t.mask d k).j=j at*;have F:SetTable.has t.dummies j=false:=by rw[T.dm];rfl
 have q:(SetTable.insertAt t.place (SetTable.below t.place j) j).toList=fs (more l (SetTable.below t.place j) (j,(d,x))):=by
  rw[pZ,T.pl];delta more fs;simp
 have sub  :=λy u=>by
  have:=((eX l (SetTable.below t.place j) (j,(d,x))).map (·.1)).mem_iff (a:=y);exact this.mpr (zaC _ u)
 refine⟨?_,q,FY T,?_,T.mm,?_,?_,?_⟩
 ·show(if SetTable.has t.dummies j=true then _ else t.dummies)=#[];rw[yIn (by simp_all)];exact T.dm
 ·have:=je.mp (FE T.rise (by
   cases z:t.place[SetTable.below t.place j]? ==some j with
   |false=>rfl
   |true=>
    have z  :=by simpa using z
    rw[<-zaA,T.pl] at z;exact absurd (zaF z) hN))
  rw[q] at this;exact this
 ·rw[(eX ..).length_eq];exact s
 ·intro e o;obtain rfl|o:=zcd.mp ((eX ..).mem_iff.mp o)
  ·show j<=t.mask;lia
  ·exact T.le e o
 ·intro e o;obtain rfl|o:=zcd.mp ((eX ..).mem_iff.mp o)
  ·refine⟨k,C,λn s=>sub _ (v n s)⟩
  ·exact(T.way e o).mono sub
end
def pJ(ow:Array (Option Nat))(j:Nat):Prop:=∃i,ow[j]? =some (some i)
structure Own(m:Nat)(hs:List Int)(ow:Array (Option Nat)):Prop where
 sz:ow.size=m+1
 wy:∀(j i:Nat),ow[j]? =some (some i)->i<hs.length/\Way m (pJ ow) (hs.getD i 0) j
 al:∀(i:Nat),i<hs.length->∃j:Nat,ow[j]? =some (some i)
 un:∀(j j' i:Nat),ow[j]? =some (some i)->ow[j']? =some (some i)->j=j'
def Vv(sz:ow.size=m+1)(q:j<=m):((ow.getD j (some 0)).isNone=true->ow[j]? =some none)/\((ow.getD j (some 0)).isNone=false->pJ ow j):=by
 have a:j<ow.size:=by lia
 have o:ow.getD j (some 0)=ow[j]:=by simp[a]
 delta pJ;rw[o,zak a];cases ow[j] with
 |none=>simp
 |some i=>grind
theorem BC{m:Nat}{ow:Array (Option Nat)}{h:Int}(sz:ow.size=m+1):∀(f k:Nat),(∃o,k<=o/\o<k+f/\ow[(ru m h o).1]? =some none)->(∀n<nk m h k,pJ ow (road m h n).j)->∃j,SetTable.layClean.free m ow f (ru m h k).1 (ru m h k).2=some j/\j<=m/\ow[j]? =some none/\Way m (pJ ow) h j
 |0,k,hx,_=>by lia
 |f+1,k,hx,hb=>by
  let⟨o,h1,h2,F⟩:=hx;rw[SetTable.layClean.free.eq_2];have u:=Fy m h k;have y:=Fw u;have E:=PF (m:=m) (i:=(ru m h k).1);have a:=AJ m h k;cases q:(zcE (runEnd m (ru m h k).1+1 - (ru m h k).1)).find? (λc=>(ow.getD ((ru m h k).1+c) (some 0)).isNone) with
  |some c=>
   rw[List.find?_range_eq_some] at q;let⟨G,x,I⟩:=q;have x:=zbV.mp x;have v:(ru m h k).1+c<=m:=by grind
   refine⟨_,rfl,v,(Vv sz v).1 G,nk m h k+c,?_,λn s=>?_⟩
   ·rw[a.2 c (by lia)]
   ·obtain z|z:=zct n (nk m h k)
    ·exact hb n z
    ·obtain⟨d,rfl⟩:∃d,n=nk m h k+d:=⟨n - nk m h k,by simp_all⟩
     rw[a.2 d (by grind)];exact(Vv sz (j:=(ru m h k).1+d) (by lia)).2 (by simp_all)
  |none=>
   rw[List.find?_range_eq_none] at q;have all:∀d,d<=runEnd m (ru m h k).1 - (ru m h k).1->pJ ow ((ru m h k).1+d):=λd hd=>(Vv sz (by lia)).2 (by have:=q d (by lia);simp_all);have C:k≠o:=λe=>by
    let⟨i,H⟩:=all 0 (by lia);simp_all
   exact BC sz f (k+1) ⟨o,by lia,by lia,F⟩ λn s=>by
    have s:n<nk m h k+(runEnd m (ru m h k).1 - (ru m h k).1)+1:=s;obtain z|z:=zct n (nk m h k)
    ·exact hb n z
    ·obtain⟨d,rfl⟩:∃d,n=nk m h k+d:=⟨n - nk m h k,by simp_all⟩
     rw[a.2 d (by lia)];exact all d (by lia)
def Own.step{o:List Int}{ow:Array (Option Nat)}(O:Own m o ow)(Q:full m=true)(W:o.length<=m)(h):
  ∃j,SetTable.layClean.free m ow (turns m) (bits h % (m+1)) (bits h)=some j/\Own m (o++[h]) (ow.setIfInBounds j (some o.length)):=by
 have⟨j0,z1,z2⟩:∃j,j<=m/\ow[j]? =some none:=by
  apply Classical.byContradiction;intro F;have E:∀j,j<=m->pJ ow j:=λj L=>by
   cases e:ow[j]? with
   |none=>rw[Array.getElem?_eq_none_iff] at e;have:=O.sz;lia
   |some x=>
    cases x with
    |none=>exact absurd ⟨j,L,e⟩ F
    |some i=>exact⟨i,e⟩
  let g  :=λi=>if h:i<o.length then Classical.choose (O.al i h) else 0;have P:∀i (h:i<o.length),ow[g i]? =some (some i):=λi h=>by
   grind
  have:=V5 (l:=zcE (m+1)) zbA λx q=>by
   have q:=zbV.mp q;let⟨i,s⟩:=E x (by lia);have C:=(O.wy x i s).1;rw[O.un x (g i) i s (P i C)];exact zcm.mpr ⟨i,zbV.mpr C,rfl⟩
  rw[zbe,zbF,zbe] at this;lia
 let⟨k,k1,k2⟩:=Fz Q h z1;let⟨j,U,Y,X,S⟩:=BC (h:=h) O.sz (turns m) 0 ⟨k,zcB _,by delta turns;lia,by simp_all⟩ (λn I=>absurd I (zbP _));refine⟨j,U,?_⟩;have dY:∀x,(ow.setIfInBounds j (some o.length))[x]? =if j=x then some (some o.length) else ow[x]?:=λx=>by
  grind
 have v:∀x,pJ ow x->pJ (ow.setIfInBounds j (some o.length)) x:=λx=>x1_0 λi s=>by
  delta pJ;rw[dY];by_cases e:j=x
  ·exact⟨_,yIp e⟩
  ·exact⟨i,by simp_all⟩
 refine⟨by simp[O.sz],λx i s=>?_,λi s=>?_,λx y i q u=>?_⟩
 ·rw[dY] at s;by_cases e:j=x
  ·have s:o.length=i:=by simp_all
   subst s;subst e;refine⟨by simp,?_⟩;have:(o++[h]).getD o.length 0=h:=by simp
   rw[this];exact S.mono v
  ·rw[yIn e] at s;let⟨a,b⟩:=O.wy x i s;refine⟨by rw[zaP];lia,?_⟩;have:(o++[h]).getD i 0=o.getD i 0:=by simp[zag a]
   rw[this];exact b.mono v
 ·rw[zaP] at s;by_cases e:i=o.length
  ·exact⟨j,by simp_all⟩
  ·let⟨x,q⟩:=O.al i (by have:[h].length=1:=rfl;lia);refine⟨x,?_⟩;rw[dY,yIn (λe=>by simp_all)];exact q
 ·rw[dY] at q u;by_cases H:j=x<;>by_cases G:j=y
  ·simp_all
  ·rw[yIn G] at u;have q:o.length=i:=by simp_all
   have:=(O.wy y i u).1;simp_all
  ·rw[yIn H] at q;have u:o.length=i:=by simp_all
   have:=(O.wy x i q).1;simp_all
  ·rw[yIn H] at q;rw[yIn G] at u;exact O.un x y i q u
theorem GK{m:Nat}(s:full m=true){F:Option (Array (Option Nat)×Nat)->Int->Option (Array (Option Nat)×Nat)}(u:∀ow k h j,SetTable.layClean.free m ow (turns m) (bits h % (m+1)) (bits h)=some j->F (some (ow,k)) h=some (ow.setIfInBounds j (some k),k+1)):
  ∀(rest done)(ow),Own m done ow->done.length+rest.length<=m->∃o,rest.foldl F (some (ow,done.length))=some (o,done.length+rest.length)/\Own m (done++rest) o
 |[],done,ow,O,_=>⟨ow,rfl,by rw[zbG];exact O⟩
 |h::rest,done,ow,O,hl=>by
  rw[zby] at hl;let⟨j,x,v⟩:=O.step s (by lia) h;have q:(done++[h]).length=done.length+1:=by simp
  let⟨o,a,b⟩:=GK s u rest (done++[h]) _ v (by lia);refine⟨o,?_,?_⟩
  ·rw[zbJ,u _ _ _ _ x];rw[q] at a;rw[a,zby];congr 2;lia
  ·rw[zbd] at b;exact b
def gP(y:full m=true)(q)(H:q.size<=m):∃ow,SetTable.layClean m q=some ow/\Own m q.toList ow:=by
 have E:Own m [] (Array.replicate (m+1) none):=by
  have v:∀j i,¬(Array.replicate (m+1) (none:Option Nat))[j]? =some (some i):=λj i z=>by
   rw[Array.getElem?_replicate] at z;simp_all
  refine⟨by simp,λj i o=>absurd o (v j i),λi o=>by simp at o,λj G i o=>absurd o (v j i)⟩
 delta SetTable.layClean;rw[<-Array.foldl_toList];generalize C:(λu h=>(do
  let(owner,k) <-u;let j <-SetTable.layClean.free m owner (turns m) (bits h % (m+1)) (bits h)
  pure (owner.setIfInBounds j (some k),k+1)))=F
 have s:∀ow k h j,SetTable.layClean.free m ow (turns m) (bits h % (m+1)) (bits h)=some j->F (some (ow,k)) h=some (ow.setIfInBounds j (some k),k+1):=λow k h j x=>by
  grind
 let⟨ow,a,b⟩:=GK y (λow k h j x=>by
  exact s ow k h j x) q.toList [] _ E (by simp_all)
 refine⟨ow,?_,b⟩;have a:=congrArg (Option.map (·.1)) a;exact a
def FO(S:SetTable.sizeAbove n - 1=m)(I:m=7∨m=31∨m=127)(hl:es.size*5<m*3):
  ∃t' o C,t.relaid (es.map (·.1)) n=some (t',o)/\Tab t' (o.filterMap (es[·]?)) C/\(C.map (·.2)).Perm es.toList/\t'.led=t.led/\t'.plain=t.plain:=by
 let⟨ow,a,O⟩:=gP (By I) (es.map (·.1)) (by rw[Array.size_map];(clear S;lia));generalize E:((zcE (m+1)).filterMap λj=>(ow.getD j none).map (j,·))=live;have mem:∀j i,(j,i)∈live↔ow[j]? =some (some i):=λj i=>by
  rw[<-E,List.mem_filterMap];constructor
  ·rintro⟨x,h1,h2⟩;have h1:=zbV.mp h1;have u:x<ow.size:=by rw[O.sz];exact h1
   have e1:ow.getD x none=ow[x]:=by simp[u]
   rw[e1] at h2;cases Z:ow[x] with
   |none=>simp_all
   |some y=>
    rw[Z] at h2;injection h2 with h2;injection h2 with h3 h4;subst h3;simp_all
  ·intro h;obtain⟨u,e⟩:=zae.mp h;refine⟨j,zbV.mpr (by rw[<-O.sz];exact u),?_⟩;simp_all
 have F:∀e∈live,e.2<es.size/\Way m (pJ ow) ((es.getD e.2 (0,.none)).1) e.1:=λe s=>by
  let⟨h1,h2⟩:=O.wy e.1 e.2 ((mem e.1 e.2).mp s);simp_all
 have up:(live.map (·.1)).Pairwise (· < ·):=by
  rw[<-E];exact List.Pairwise.sublist (uz _ _) List.pairwise_lt_range
 have nd  :=by
  rw[zbg] at up;show(live.map (·.2)).Pairwise (· ≠·);rw[zbg];refine up.imp_of_mem λ{x y} u G U e=>?_;have h1:=(mem x.1 x.2).mp u;have h2:=(mem y.1 y.2).mp G;rw[<-e] at h2;have:=O.un _ _ _ h1 h2;simp_all
 have Q:(live.map (·.2)).Perm (zcE es.size):=by
  rw[zad nd zbA];intro i;rw[zbV,zcm];constructor
  ·rintro⟨e,s,rfl⟩;exact(F e s).1
  ·intro L;let⟨j,W⟩:=O.al i (by simp_all);refine⟨(j,i),(mem j i).mpr W,rfl⟩
 generalize v:(live.map λe=>((e.1,es.getD e.2 (0,.none)):Ent))=C;have Y:fs C=live.map (·.1):=by rw[<-v];delta fs;rw[zcn];rfl
 have P:C.map (·.2)=(live.map (·.2)).map λi=>es.getD i (0,.none):=by rw[<-v,zcn,zcn];rfl
 have H:(C.map (·.2)).Perm es.toList:=by
  rw[P];refine(Q.map _).trans ?_;have:(zcE es.size).map (λi=>es.getD i (0,.none))=es.toList:=by
   refine zbz (by simp) λi h1 h2=>?_;have h3  :=by simpa using h2
   simp_all
  rw[this]
 have X:∀q:List (Nat×Nat),(∀e∈q,e.2<es.size)->(q.map (·.2)).filterMap (es[·]?)=(q.map (·.2)).map λi=>es.getD i (0,.none):=by
  intro q
  induction q with
  |nil=>intro _;rfl
  |cons e q ih=>
   intro hq;simp_all
 refine⟨{mask:=m,place:=(live.map (·.1)).toArray,dummies:=#[],finger:=t.finger,led:=t.led,moves:=t.movedTo m,plain:=t.plain},(live.map (·.2)).toArray,C,?_,⟨rfl,?_,?_,?_,I,?_,?_,?_⟩,H,rfl,rfl⟩
 ·delta SetTable.relaid SetTable.laid;rw[S,a];show some _=some _;rw[E]
 ·simp_all
 ·rw[Array.toList_filterMap,P];exact X live λe s=>(F e s).1
 ·simp_all
 ·have:=H.length_eq;rw[zbF] at this;simp_all
 ·intro e s;rw[<-v] at s;let⟨x,u,rfl⟩:=zcm.mp s;obtain⟨h1,_⟩:=zae.mp ((mem x.1 x.2).mp u);have:=O.sz;show x.1<=m;grind
 ·intro e s;rw[<-v] at s;let⟨x,u,rfl⟩:=zcm.mp s;refine(F x u).2.mono λy G=>?_;rw[Y];let⟨i,L⟩:=G;exact zcm.mpr ⟨(y,i),(mem y i).mpr L,rfl⟩
end M8
namespace M8
open PySem PySem.Spec PyProof.Rows M5 M6 M7
open PySem.SetTable (Probe bits runEnd leap turns)
def qf:∀(n)(d){v:yai}{as:List Addr}{A:yal}{E:yai->yah->Prop}{s:yah}{Q:Bool->yah->Prop},d.depth<=n->cG d=true->Reads s.heap v d as->Q false s->yar (model prog w) A (ofAClassStatement n v) Q E s:=by
 intro n d v as A E s Q hd P O h;refine deep (G:=λn v=>∀{Q:Bool->yah->Prop},Q false s->yar (model prog w) A (ofAClassStatement n v) Q E s) (λn i t Q h=>by rw[ofAClassStatement.eq_def];exact yab h) (λn i t Q h=>by rw[ofAClassStatement.eq_def];exact yab h) (λn a o vs m H S q u Q h=>?_) n d hd P O h;rw[ofAClassStatement.eq_def];refine yaa (wpAny_typeOf (eV H S) ?_);refine yaa (yab ?_);refine yaa (wpAny_seqItems H q (yaa ?_));rw[<-zaX];refine wpAny_forIn_list _ (λrest r C=>r.1=none/\C=s/\∀y∈rest,y∈vs.toList) _ ?_ ?_ vs.toList (none,()) ⟨rfl,rfl,λ_ F=>F⟩
 ·rintro y rest ⟨L,I⟩ C ⟨z,rfl,j⟩;exact yaa (u y (j y (by simp)) (yab ⟨rfl,rfl,λx F=>j x (zaC _ F)⟩))
 ·rintro⟨L,I⟩ C ⟨z,rfl,_⟩;subst z;exact yab h
def yl:∀(n)(d){v:yai}{as:List Addr}{A:yal}{E:yai->yah->Prop}{s:yah}{Q:Bool->yah->Prop},d.depth<=n->cG d=true->Reads s.heap v d as->(∀b,Q b s)->yar (model prog w) A (hashByValue n v) Q E s:=by
 intro n d v as A E s Q hd S P h;refine deep (G:=λn v=>∀{Q:Bool->yah->Prop},(∀b,Q b s)->yar (model prog w) A (hashByValue n v) Q E s) (λn i t Q h=>by rw[hashByValue.eq_def];exact yab (h _)) (λn i t Q h=>by rw[hashByValue.eq_def];exact yab (h _)) (λn a o vs m L U q u Q h=>?_) n d hd S P h;refine yaa (wpAny_specialOf (eV L U) F.slot_tuple_hash.lookup ?_);refine yaa (wpAny_seqItems L q (yaa ?_));rw[<-zaX];refine wpAny_forIn_list _ (λrest r C=>C=s/\∀y∈rest,y∈vs.toList) _ ?_ ?_ vs.toList (none,()) ⟨rfl,λ_ H=>H⟩
 ·rintro y rest ⟨I,O⟩ C ⟨rfl,j⟩;refine yaa (u y (j y (by simp)) λb=>?_);cases b
  ·exact yab (yab (h _))
  ·exact yab ⟨rfl,λx H=>j x (zaC _ H)⟩
 ·rintro⟨I,O⟩ C ⟨rfl,_⟩;cases I<;>exact yab (h _)
def Dm(L:isKey s.heap d g)(I:∀v∈z,∃k a,v=.ref a/\isKey s.heap k a)(h:D false s):yar (model prog w) A (searchCouldBeSeen (.ref g) z) D E s:=by
 refine yaa ?_;refine wpAny_forIn_list _ (λrest r q=>r=(none,())/\q=s/\∀v∈rest,∃k a,v=.ref a/\isKey s.heap k a) _ ?_ ?_ z (none,()) ⟨rfl,rfl,I⟩
 ·rintro y rest r q ⟨rfl,rfl,u⟩;let⟨k,a,rfl,O⟩:=u y (by simp);have o:=λv H=>u v (zaC _ H);let⟨C,P,bs,x⟩:=L;let⟨G,S,as,F⟩:=O;dsimp only;split
  ·exact yab ⟨rfl,rfl,o⟩
  ·refine yaa (jN 8 d (by lia) C x ?_);refine yaa (jN 8 k (by lia) G F ?_);refine yaa (qf 8 d (by lia) C x ?_);refine yaa (qf 8 k (by lia) G F ?_);exact yab ⟨rfl,rfl,o⟩
 ·rintro r q ⟨rfl,rfl,_⟩;exact yab h
noncomputable def uB(w:yak)(k:yam×Addr):Int×yai:=(bO w k.1,.ref k.2)
theorem search{a b:Addr}{o:Obj}{es:Array (Int×yai)}{ep:Nat}{t:SetTable}{l:List Ent}{ks:List (yam×Addr)}{d:yam}{Q:SetFound->yah->Prop}(X:s.heap.get? a=some o)(hd:o.data=.set es ep t)(T:Tab t es l)(u:es.toList=ks.map (uB w))(L:∀k∈ks,isKey s.heap k.1 k.2)(hb:isKey s.heap d b)(hu:A.units+10<cLine){N:Nat}(hNf:N<10*turns t.mask)(hN:(road t.mask (bO w d) N).j ∉ fs l)(O:∀n<N,(road t.mask (bO w d) n).j∈fs l)(q1:(∃k∈ks,k.1=d)->Q (.there none) s)(q2:(∀k∈ks,k.1≠d)->Q (.free (road t.mask (bO w d) N).j false) s):
  ∀(f n)(st),st.getD (t.probeStart (bO w d))=road t.mask (bO w d) n->n<=N->N - n<f->(∀H<n,∀k∈ks,((road t.mask (bO w d) H).j,uB w k)∈l->k.1≠d)->
   yar (model prog w) A (setSearchFrom a (.ref b) (bO w d) true f st) Q E s
 |0,n,st,_,_,h,_=>by simp_all
 |f+1,n,st,hst,hn,hf,hne=>by
  have ent:∀e,e∈l.map (·.2)->∃k∈ks,e=uB w k:=λe q=>by
   rw[<-T.el,u] at q;let⟨k,h1,h2⟩:=zcm.mp q;refine⟨k,h1,h2.symm⟩
  refine yaa (wpAny_setState_of X hd T.fits ?_);dsimp only;rw[yIn (by delta SetTable.gaveWay;obtain e|e|e:=T.mm<;>rw[e]<;>decide)];rw[hst];delta SetTable.probe;generalize hG:SetTable.probe.go t _ (bO w d) (10*turns t.mask) (road t.mask (bO w d) n)=G;rcases T.probe (hashAt:=λi=>(es[i]?.map (·.1)).getD 0) (λi e q=>by simp_all) hN O (10*turns t.mask) n hn (by grind) with⟨p1,p2⟩|⟨n1,e,i,c1,c2,c3,c4,c5,c6,c7,c8⟩
  ·obtain rfl:some _=G:=p1.symm.trans hG;refine yab (q2 λk Z e=>?_);have hm:uB w k∈l.map (·.2):=by rw[<-T.el,u];exact zcm.mpr ⟨k,Z,rfl⟩
   obtain⟨⟨j,e'⟩,C,e2⟩:=zcm.mp hm;let⟨n0,r1,r2⟩:=T.way _ C;have hh:(uB w k).1=bO w d:=by rw[<-e];rfl
   have r1:(road t.mask (bO w d) n0).j=j:=by simp_all
   rw[<-r1] at C;have hjm:(road t.mask (bO w d) n0).j∈fs l:=zcm.mpr ⟨_,C,rfl⟩
   grind
  ·obtain rfl:some _=G:=c7.symm.trans hG;dsimp only;let⟨k,k1,rfl⟩:=ent e (zcm.mpr ⟨_,c3,rfl⟩);have Dd:∀v∈List.map (λx=>x.2) (Array.filter (λx=>x.1==bO w d) es).toList,∃k a,v=.ref a/\isKey s.heap k a:=λv hv=>by
    let⟨e,q,rfl⟩:=zcm.mp hv;rw[Array.toList_filter] at q;have q:=(zbD.mp q).1;rw[u] at q;let⟨F,h1,rfl⟩:=zcm.mp q;refine⟨F.1,F.2,rfl,L F h1⟩
   by_cases hl:(!t.led)=true
   case' pos=>(rw[yIp hl];refine yaa (Dm hb Dd ?_);rw[yIn (by decide)])
   case' neg=>rw[yIn hl]
   all_goals
    rw[c6];refine yaa (yad ((bg prog w).eqBool hu (L k k1) hb ?_));refine yaa (wpAny_setState_of X hd T.fits ?_);by_cases q:k.1=d
    ·rw[yDt q];exact yab (q1 ⟨k,k1,q⟩)
    ·rw[yDf q];have W:t.sameMemory t.moves t.mask=some true:=by delta SetTable.sameMemory;simp
     rw[W];dsimp only;rw[yIp rfl,c5];dsimp only;rw[c6];refine yaa (wpAny_isSame_ref_self ?_);refine search X hd T u L hb hu hNf hN O q1 q2 f (n1+1) _ rfl (by assumption) (by grind) λH Y F I y=>?_;obtain z|z:=zct H n
     ·exact hne H z F I y
     ·obtain U|U:=Nat.eq_or_lt_of_le (zbj Y)
      ·subst U;let⟨i',S,P,_⟩:=T.live y;rw[c5] at S;injection S with S;subst S;rw[c6] at P;have P:=zcD.inj P;injection P with _ j3;injection j3 with j3;have a1:=L k k1;have a2:=L F I;rw[<-j3] at a2;rw[<-(bg prog w).inj a1 a2];exact q
      ·intro e;refine c8 H z U _ y ?_;rw[<-e];rfl
def cX(h h':Heap):Prop:=∀c o,o.cls=.type "tuple"->h.get? c=some o->h'.get? c=some o
def cX.trans(x:cX h h1)(y:cX h1 h2):cX h h2:=λc o e z=>y c o e (x c o e z)
def cX.but(q:h.get? d=some g)(j:g.cls≠ .type "tuple")(k:∀c o,c≠d->h.get? c=some o->h'.get? c=some o):cX h h':=λc o e z=>
 k c o (λs=>by simp_all) z
mutual
theorem AR{h h':Heap}(kp:cX h h'):∀(d:yam){v:yai}{as:List Addr},cG d=true->Reads h v d as->Reads h' v d as
 |.int i,v,as,hk,hr=>by cases hr;exact .int ..
 |.str i,v,as,hk,hr=>by cases hr;exact .str ..
 |.tuple xs,v,as,hk,hr=>by
  cases hr with
  |@tuple a o vs m _ _ ho hc hdat hall=>exact .tuple (kp a o hc ho) hc hdat (vN kp xs hk hall)
 |.none,_,_,h,_=>by simp[cG] at h
 |.bool _,_,_,h,_=>by simp[cG] at h
 |.list _,_,_,h,_=>by simp[cG] at h
 |.dict _,_,_,h,_=>by simp[cG] at h
theorem vN{h h':Heap}(kp:cX h h'):∀(ds:List yam){vs:List yai}{as:List Addr},d7 ds=true->ReadsAll h vs ds as->ReadsAll h' vs ds as
 |[],vs,as,hk,hr=>by cases hr;exact .nil
 |d::ds,vs,as,hk,hr=>by
  simp only[d7,zbB] at hk;cases hr with
  |cons hx hr=>exact .cons (AR kp d hk.1 hx) (vN kp ds hk.2 hr)
end
def nh(kp:cX h h')(x:isKey h d a):isKey h' d a:=by obtain⟨k1,k2,as,j⟩:=x;refine⟨k1,k2,as,AR kp d k1 j⟩
def Co(w:yak)(B:List (yam×Addr))(h:Heap)(a:Addr)(S:List yam):Prop:=
 ∃o q s t l,∃j:List (yam×Addr),h.get? a=some o/\o.ExactSet/\o.data=.set q s t/\Tab t q l/\t.led=(!w.params.followText "set-order")/\q.toList=j.map (uB w)/\(∀k∈j,k∈B/\isKey h k.1 k.2)/\(j.map (·.1)).Perm S
def Co.keep(x:Co w B h a d)(e:∀o,h.get? a=some o->h'.get? a=some o)(kp:cX h h'):Co w B h' a d:=
 by let⟨o,H,I,t,l,F,G,E,C,y,v,u,j,s⟩:=x;refine⟨o,H,I,t,l,F,e o G,E,C,y,v,u,λk q=>⟨(j k q).1,nh kp (j k q).2⟩,s⟩
noncomputable def qt(S:List yam)(x:yam):List yam:=if x∈S then S else S++[x]
def OS(h:o.ExactSet):o.cls≠ .type "tuple":=by
 rw[h.1];simp
def SV(q:h.get? a=some o)(j:o.ExactSet)(sb:Heap.SameBut a h h'):cX h h':=
 cX.but q (OS j) λc o s e=>by rw[sb.2 c s];exact e
def rW{es:List (Int×yai)}(h:es.Perm (ks.map (uB w))):∃a:List (yam×Addr),a.Perm ks/\es=a.map (uB w):=fh h
def LZ(hS:Co w B s.heap a D)(hbB:(d,g)∈B)(hb:isKey s.heap d g)(hu:A.units+10<cLine)(hn:D.length+1<64)(h:∀r h',Heap.SameBut a s.heap h'->cX s.heap h'->Co w B h' a (qt D d)->J r {s with heap:=h'}):
  yar (model prog w) A (setAddHashed a (.ref g) (bO w d)) J E s:=by
 let⟨o,es,ep,t,l,ks,L,C,hd,T,ab,H,I,Y⟩:=hS;have hk  :=λk u=>(I k u).2;have an:l.length=D.length:=by
  rw[<-Y.length_eq,zbF,<-T.Vw,<-zaN,H,zbF]
 have G:=T.mm;have hnf:=T.nf;let⟨N,n1,n2,n3⟩:=zC (By G) (bO w d) (occ:=fs l) (by delta fs;rw[zbF];lia);refine yad (yaa (wpAny_setState_of L hd T.fits ?_));dsimp only;refine yaa ?_;refine search L hd T H hk hb hu n1 n2 n3 (λhx=>?_) (λhx=>?_) 100000 0 none rfl (zcB _) (by
  have:turns t.mask<=142:=by delta turns;obtain e|e|e:=G<;>simp_all
  lia) (λn' hn'=>absurd hn' (zbP _))
 ·let⟨k,k1,k2⟩:=hx;have hm  :=Y.mem_iff.mp (zcm.mpr ⟨k,k1,k2⟩);refine yab ?_;have q:=h false s.heap (Heap.SameBut.refl a s.heap) (λc o _ z=>z) (by
   delta qt;rw[yIp hm];refine⟨o,es,ep,t,l,ks,L,C,hd,T,ab,H,I,Y⟩)
  exact q
 ·have hm:d ∉ D:=λz=>by
   let⟨k,k1,k2⟩:=zcm.mp (Y.mem_iff.mpr z);exact hx k k1 k2
  have ae:qt D d=D++[d]:=by delta qt;simp_all
  rw[ae] at h;refine yaa (wpAny_setState_of L hd T.fits ?_);have hes:=FY T (j:=(road t.mask (bO w d) N).j) (h:=bO w d) (x:=.ref g);have Wk:=T.put (x:=.ref g) n2 n3;have Uj:(SetTable.insertAt es (t.put (road t.mask (bO w d) N).j).2 (bO w d,Value.ref g)).size=l.length+1:=by
   rw[<-zaN,hes,zbF,(eX ..).length_eq];rfl
  have hpe:(SetTable.insertAt es (t.put (road t.mask (bO w d) N).j).2 (bO w d,Value.ref g)).toList.Perm (((d,g)::ks).map (uB w)):=by
   rw[hes];refine((eX ..).map _).trans ?_;rw[zcf,<-T.el,H];rfl
  have ag:(t.put (road t.mask (bO w d) N).j).1.place.size=l.length+1:=by
   show(SetTable.insertAt t.place _ _).size=_;rw[<-zaN,pZ,zaP,zby,zbq,List.length_drop,zaN,T.sz];grind
  have hdm:(t.put (road t.mask (bO w d) N).j).1.dummies=#[]:=by
   have hh:SetTable.has t.dummies (road t.mask (bO w d) N).j=false:=by rw[T.dm];rfl
   show(if SetTable.has t.dummies _=true then _ else t.dummies)=#[];rw[yIn (by simp_all)];exact T.dm
  have Xc:(t.put (road t.mask (bO w d) N).j).1.led=t.led:=rfl;have am:(t.put (road t.mask (bO w d) N).j).1.mask=t.mask:=rfl;generalize (t.put (road t.mask (bO w d) N).j)=tp at*;obtain⟨t1,p⟩:=tp;dsimp only at*;generalize hE1:SetTable.insertAt es p (bO w d,Value.ref g)=es1 at*;have X:∀v,v.place=t1.place->v.dummies=t1.dummies->v.mask=t1.mask->v.led=t1.led->yar (model prog w) A (do
    storeSet a es1 v
    if(!false&&v.tooFull)=true then do
      setRelay a (SetTable.grown (es.size+1))
      pure true
     else pure true) J E s:=by
   intro v e1 e2 e3 e4;have F:=nM es1 v L hd;have O:=Heap.SameBut.update s.heap a (Obj.putSet es1 v);have U:=SV L C O;refine yaa (wpAny_storeSet_of L hd ?_ (by rw[yaf];lia));have htf:v.tooFull=decide ((l.length+1)*5≥t.mask*3):=by
    delta SetTable.tooFull SetTable.fill;simp_all
   rw[htf];by_cases y:(l.length+1)*5≥t.mask*3
   ·rw[yDt y];have ac:v.fits es1.size=true:=by
     delta SetTable.fits SetTable.fill;rw[e1,e2,hdm];simp;obtain e|e|e:=G<;>(clear y hn;lia)
    have hg:SetTable.grown (es.size+1)=(l.length+1)*4:=by
     delta SetTable.grown;rw[T.Vw,yIn (by lia)]
    obtain⟨m,m1,m2,m3,m4⟩:∃m,SetTable.sizeAbove ((l.length+1)*4) - 1=m/\(m=7∨m=31∨m=127)/\es1.size*5<m*3/\SetTable.sizeAbove ((l.length+1)*4)<=128:=by
     obtain e|e|e:=G
     ·have:l.length=4:=by lia
      rw[this];exact⟨31,by rfl,.inr (.inl rfl),by rw[Uj,this];decide,by decide+kernel⟩
     ·have:l.length=18:=by lia
      rw[this];exact⟨127,by rfl,.inr (.inr rfl),by rw[Uj,this];decide,by decide+kernel⟩
     ·lia
    obtain⟨t3,od,l3,r1,r2,r3,r4,r5⟩:=FO m1 m2 m3;refine yaa ?_;refine yaa (wpAny_setState_of F rfl ac ?_);dsimp only;rw[hg,yIn (by rw[yaf];lia),r1];have Wh:(od.filterMap (es1[·]?)).size=es1.size:=by
     rw[<-zaN,r2.el,r3.length_eq,zaN]
    refine yaa ?_;show yar _ _ (if((od.filterMap (es1[·]?)).size != es1.size)=true then _ else _) _ _ _;rw[yIn (by rw[Wh];simp)];refine yab ?_;dsimp only;refine wpAny_storeSet_of F rfl ?_ (by rw[yaf];lia);refine yab ?_;have sb2:=O.trans (Heap.SameBut.update _ a (Obj.putSet (od.filterMap (es1[·]?)) t3));have P:=SV L C sb2;let⟨W,p1,p2⟩:=rW (es:=(od.filterMap (es1[·]?)).toList) (by rw[r2.el];exact r3.trans hpe);refine h true _ sb2 P ⟨_,_,_,t3,l3,W,nM _ t3 F rfl,C,rfl,r2,by simp_all,p2,λk u=>?_,?_⟩
    ·obtain rfl|u:=zcd.mp (p1.mem_iff.mp u)
     ·exact⟨hbB,nh P hb⟩
     ·exact⟨(I k u).1,nh P (hk k u)⟩
    ·refine(p1.map _).trans ?_;refine(Y.cons d).trans ?_;exact List.perm_append_singleton d D |>.symm
   ·rw[yDf y];refine yab ?_;have Z:=Wk (by simp_all);let⟨W,p1,p2⟩:=rW hpe;refine h true _ O U ⟨_,_,_,v,_,W,F,C,rfl,⟨by simp_all,by rw[e1];exact Z.pl,Z.el,Z.up,by simp_all,by rw[e3];exact Z.nf,by rw[e3];exact Z.le,by rw[e3];exact Z.way⟩,by simp_all,p2,λk u=>?_,?_⟩
    ·obtain rfl|u:=zcd.mp (p1.mem_iff.mp u)
     ·exact⟨hbB,nh U hb⟩
     ·exact⟨(I k u).1,nh U (hk k u)⟩
    ·refine(p1.map _).trans ?_;refine(Y.cons d).trans ?_;exact List.perm_append_singleton d D |>.symm
  let⟨b1,b2,bs,b3⟩:=hb;cases hpt:t1.plain with
  |true=>
   refine yaa (yl 8 d (by lia) b1 b3 λr=>?_);cases r
   ·exact X _ rfl rfl rfl rfl
   ·exact X _ rfl rfl rfl rfl
  |false=>
   exact X _ rfl rfl rfl rfl
end M8
namespace M8
open PySem PySem.Spec PyProof.Rows M5 M6 M7
noncomputable def rj(val:Nat->yam):Nat->List yam
 |0=>[]
 |i+1=>qt (rj val i) (val i)
theorem qp(val):∀i,(rj val i).length<=i
 |0=>zcA _
 |i+1=>by
  have:=qp val i;show(qt _ _).length<=_;delta qt;split
  ·lia
  simp_all
theorem wB(val)(y):∀n,y∈rj val n↔∃i,i<n/\val i=y
 |0=>by simp[rj]
 |n+1=>by
  have a:=wB val y n;have j:y∈rj val (n+1)↔y∈rj val n∨y=val n:=by
   show y∈qt _ _↔_;delta qt
   grind
  grind
theorem pN(val):∀n,(rj val n).Nodup
 |0=>List.nodup_nil
 |n+1=>by
  have a:=pN val n;show(qt _ _).Nodup;delta qt
  grind
section
variable {R:Result->yah->Prop}{wr:List Addr}{G:Array yaw->Array yaw->Prop}{P:Nat->yai->Prop}{St:Nat->yah->Prop}
theorem GC{h0:Heap}(W:WalksS prog w A.in1 I fp wr G n P St)(a:Addr)(ha:a ∉ fp)(val:Nat->yam×Addr)(C:∀i v,P i v->v=.ref (val i).2)(hB:∀i,i<n->val i∈B)(Y:∀i,i<n->isKey h0 (val i).1 (val i).2)(hI:∀i s,St i s->∃o,s.heap.get? I=some o/\o.cls≠ .type "tuple")(hw:∀b∈wr,b=I)(hu:A.units+11<cLine)(hn:n<63):
  ∀(k i:Nat)(s:yah),n - i=k->i<=n->St i s->Co w B s.heap a (rj (λi=>(val i).1) i)->cX h0 s.heap->
   (∀q,Moved (a::wr) G s q->cX h0 q.heap->Co w B q.heap a (rj (λi=>(val i).1) n)->R (.ok (.ret .none)) q)->
   codeAny (model prog w) A (.builtin "set.update.loop" ⟨[.ref a,.ref I],[]⟩) R s:=by
 have haw  :=λz=>ha (W.sub _ z);have y:∀b∈wr,b∈a::wr:=λb z=>zaC _ z;have kt:∀{i:Nat}{s q:yah},St i s->Moved wr G s q->cX s.heap q.heap:=λ{i s q} j u=>by
  let⟨o,ho,hc⟩:=hI _ _ j;exact cX.but ho hc λc o Z e=>u.heap c o (λz=>Z (hw c z)) e
 intro k
 induction k with
 |zero=>
  intro i s hk hi j hS hT hR;obtain rfl:i=n:=by lia
  refine codeAny_builtin PyProof.Rows.F.entry_set_update_loop ?_;refine yaa (W.done s _ _ j λq u=>?_);have k1:=kt j u;exact yab (hR q (u.mono y) (hT.trans k1) (hS.keep (λo e=>u.heap a o haw e) k1))
 |succ k ih=>
  intro i s hk hi j hS hT hR;have x:i<n:=by lia
  refine codeAny_builtin PyProof.Rows.F.entry_set_update_loop ?_;rw[Around.under_plainId PyProof.Rows.F.plain_set_update_loop _];refine yaa (W.item i s _ _ x j λv q hP E u=>?_);have k1:=kt j u;obtain rfl:=C i v hP;have hS':=hS.keep (λo e=>u.heap a o haw e) k1;have Q:=hT.trans k1;have hkey  :=nh Q (Y i x);refine yaa (yad ?_);refine yad (yaa ((bg prog w).pyHash (by show A.units+1+10<cLine;assumption) hkey ?_));have:=qp (λi=>(val i).1) i;refine LZ hS' (hB i x) hkey (by simp_all) (by lia) λb h' H X hS2=>?_;refine yab ⟨plainId_quiet PyProof.Rows.F.plain_set_update_loop _,ih (i+1) _ (by grind) x (W.frame _ q _ _ E (Nat.le_add_right _ _) λb hb o e=>?_) hS2 (Q.trans X) λU L O S=>?_⟩
  ·rw[H.2 b λz=>ha (z▸hb)];exact e
  ·refine hR U (Moved.trans W.gtrans ((u.mono y).then_heap (Nat.le_add_right _ _) λb o hb e=>?_) L) O S;rw[H.2 b λz=>hb (z▸zaQ)];exact e
end
def DO(e:h.get? a=some (b5 (!w.params.followText "set-order"))):Co w B h a []:=
 ⟨_,#[],0,_,[],[],e,⟨rfl,rfl,rfl⟩,rfl,⟨rfl,rfl,rfl,.nil,.inl rfl,(by show 0*5<7*3;decide),λe j=>by simp at j,λe j=>by simp at j⟩,rfl,rfl,λk o=>by simp at o,.nil⟩
def vp{St:Addr->Nat->Heap->Prop}(hh:A.handled=none)(hT:s.TypeIs (.ref l) T)(h1:isSubtype (.type T) (.type "set")=pure false)(h2:isSubtype (.type T) (.type "frozenset")=pure false)(h3:(Value.type T==Value.type "dict")=false)(it:∀{A':yal}{j:yah}{Q':yai->yah->Prop}{E':yai->yah->Prop},(∀b o,s.heap.get? b=some o->j.heap.get? b=some o)->Q' (.ref j.heap.objs.size) {j with heap:=j.heap.push d}->yar (model prog w) A' (pyIter (.ref l)) Q' E' j)(O:d.isFreed=false)(W:∀{A':yal}(I),A'.handled=none->l≠I->Walks prog w A' I [I,l] [I] its.size (λi v=>its[i]? =some v) (St I))(C:∀I h',(∀b o,s.heap.get? b=some o->h'.get? b=some o)->h'.get? I=some d->St I 0 h')(cz:∀I i h',St I i h'->∃o,h'.get? I=some o/\o.cls≠ .type "tuple")(hv:its.toList=ks.map λk=>.ref k.2)(hk:∀k∈ks,isKey s.heap k.1 k.2)(hu:A.units+13<cLine)(hn:ks.length<63)(h:∀(h')(tk)(S),S.Nodup->(∀y,y∈S↔y∈ks.map (·.1))->S.length<63->Co w ks h' s.heap.objs.size S->(∀b o,b<s.heap.objs.size->s.heap.get? b=some o->h'.get? b=some o)->Q (.ref s.heap.objs.size) {s with heap:=h',toks:=tk}):
  yar (model prog w) A (call (.type "set") [.ref l]) Q E s:=by
 have el:its.size=ks.length:=by rw[<-zaN,hv,zbF]
 have a:∀i q,ks.getD i (.none,0)=ks[i]:=λi q=>by simp_all
 have ab:=qp (λi=>(ks.getD i (.none,0)).1) its.size;refine sP (Z:=λh'=>Co w ks h' s.heap.objs.size (rj (λi=>(ks.getD i (.none,0)).1) its.size)) hT h1 h2 h3 it O (λI h0 R kp gS gI P Y hR=>?_)
  λh' tk hZ kp=>h h' tk _ (pN _ _) (λy=>?_) (by lia) hZ kp
 ·refine GC (B:=ks) (W (A':=A.in1.in1.in1) I hh P).toS s.heap.objs.size Y (λi=>ks.getD i (.none,0)) (λi v H=>?_) (λi q=>?_) (λi q=>?_) (λi j L=>cz I i _ L) (λb X=>by simpa using X) (by simp_all) (by simp_all) (its.size - 0) 0 _ rfl (zcB _) (C I h0 kp gI) (DO gS) (λc o _ z=>z) λj u _ hS'=>?_
  ·rw[<-zaA] at H
   (clear el;grind)
  ·simp_all
  ·rw[a i (by simp_all)];obtain⟨k1,k2,as,k3⟩:=hk _ (zbv (by simp_all:i<ks.length));exact⟨k1,k2,as,Reads.keeps kp k3⟩
  ·obtain⟨h',g',d',x,F⟩:=j;obtain rfl:g'=s.gens:=u.gens;obtain rfl:d'=s.drawn:=u.drawn;obtain rfl:F=s.os:=u.os;exact hR h' x hS' λb o X e=>u.heap b o X e
 ·rw[wB,zcm];constructor
  ·rintro⟨i,q,e⟩;rw[a i (by simp_all)] at e;exact⟨_,zbv (by lia),e⟩
  ·rintro⟨k,U,e⟩;obtain⟨i,q,rfl⟩:=zaI U;exact⟨i,by simp_all,by rw[a i q];exact e⟩
def yz(H:A.handled=none)(j:s.heap.IsTuple l its)(u:its.toList=ks.map λk=>.ref k.2)(G:∀k∈ks,isKey s.heap k.1 k.2)(v:A.units+13<cLine)(C:ks.length<63)(h:∀(h')(tk)(S),S.Nodup->(∀y,y∈S↔y∈ks.map (·.1))->S.length<63->Co w ks h' s.heap.objs.size S->(∀b o,b<s.heap.objs.size->s.heap.get? b=some o->h'.get? b=some o)->Q (.ref s.heap.objs.size) {s with heap:=h',toks:=tk}):
  yar (model prog w) A (call (.type "set") [.ref l]) Q E s:=by
 refine vp H j.typeIs M5.F.sub_tuple_set M5.F.sub_tuple_frozenset (by decide) (λkp q=>wpAny_pyIter_tuple (j.at (kp l)) q) rfl (λI h1 h2=>Walks.tuple h1 I l h2 its) (λI h' kp e=>⟨⟨_,e,rfl,rfl⟩,j.at (kp l)⟩) (λI i h' a=>?_) u G v C h;let⟨⟨o,x,L,_⟩,_⟩:=a;refine⟨o,x,by lia⟩
def CB(H:A.handled=none)(j:s.heap.IsList l its)(u:its.toList=ks.map λk=>.ref k.2)(G:∀k∈ks,isKey s.heap k.1 k.2)(v:A.units+13<cLine)(C:ks.length<63)(h:∀(h')(tk)(S),S.Nodup->(∀y,y∈S↔y∈ks.map (·.1))->S.length<63->Co w ks h' s.heap.objs.size S->(∀b o,b<s.heap.objs.size->s.heap.get? b=some o->h'.get? b=some o)->Q (.ref s.heap.objs.size) {s with heap:=h',toks:=tk}):
  yar (model prog w) A (call (.type "set") [.ref l]) Q E s:=by
 refine vp H j.typeIs PySem.F.sub_list_set PySem.F.sub_list_frozenset (by decide) (λkp q=>wpAny_pyIter_list (j.at (kp l)) q) rfl (λI h1 h2=>Walks.list h1 I l h2 its) (λI h' kp e=>⟨⟨_,e,rfl,rfl⟩,j.at (kp l)⟩) (λI i h' a=>?_) u G v C h;let⟨⟨o,x,L,_⟩,_⟩:=a;refine⟨o,x,by lia⟩
def vn(hh:A.handled=none)(hS:Co w B s.heap a z)(h0:∀d∈z,∃p r,d=.tuple (.int p::r))(hc:∀x∈z,∀y∈z,b8 x y=true)(hn:z.length<64)(Z:A.units+20<cLine)(h:∀(s1:yah)(h2)(out:List (yam×Addr))(c),s1.gens=s.gens->s1.os=s.os->(∀b o,s.heap.get? b=some o->s1.heap.get? b=some o)->(∀b o,s1.heap.get? b=some o->h2.get? b=some o)->h2.get? s1.heap.objs.size=some (seqObj "list" (out.map λk=>Value.ref k.2).toArray c)->(∀k∈out,k∈B)->(out.map (·.1)).Perm z->out.Pairwise (λx y=>fV y.1 x.1=false)->Q (.ref s1.heap.objs.size) {s1 with heap:=h2}):
  yar (model prog w) A (call (.builtin "sorted") [.ref a]) Q E s:=by
 let⟨o,U,ep,t,l,F,ho,L,hd,T,u,v,C,H⟩:=hS;have hm  :=λk j=>H.mem_iff.mp (zcm.mpr ⟨k,j,rfl⟩);have O:F.length=z.length:=by rw[<-H.length_eq,zbF]
 have hsz:U.size=F.length:=by rw[<-zaN,v,zbF]
 refine mY (R:=λs1=>s1.gens=s.gens/\s1.os=s.os) hh (λk j=>Ab.g ⟨(C k j).2,h0 _ (hm k j)⟩) (λk j l hl=>hc _ (hm k j) _ (hm l hl)) (by simp_all) Z (λI hQ=>nA I ⟨o,ho,L,hd,T.fits,u,λ_=>T.rise⟩ (by lia) λs1 X kp e1 e2 le tx=>?_) λs1 h2 out c P k1 k2 g q G=>?_
 ·have e:U.toList.map (·.2)=F.map λk=>Value.ref k.2:=by rw[v,zcn];rfl
  rw[e] at tx;let⟨Y,W,rfl⟩:=fh tx;exact hQ s1 Y kp ⟨e1,e2⟩ W
 ·exact h s1 h2 out c P.1 P.2 k1 k2 g (λk j=>(C k (q.mem_iff.mp j)).1) ((q.map _).trans H) G
end M8
namespace L2
open PySem PySem.Spec PyProof.Rows M6 M8
section
variable {ta:TE}{p p2 pos2:Pos}
theorem cT{α:Type}(f:α->Addr):∀{l:List α}{a:List yai},Vals (l.map λx=>V.ref (f x)) a->a=l.map λx=>Value.ref (f x)
 |[],a,h=>by cases h;rfl
 |x::l,a,h=>by
  cases h with
  |cons h1 h2=>cases h1;rw[cT f h2];rfl
end
end L2
namespace M
open PySem PySem.Spec PyProof.Rows L2 M6
theorem pq{α a:Type}{f:α->a}{l:List α}:∀{out:List a},(∀y∈out,y∈l.map f)->∃o':List α,(∀x∈o',x∈l)/\out=o'.map f
 |[],_=>⟨[],λ_ h=>by simp at h,rfl⟩
 |y::out,h=>by
  let⟨x,o,j⟩:=zcm.mp (h y (by simp));let⟨o',o1,o2⟩:=pq λz hz=>h z (zaC _ hz);refine⟨x::o',λz hz=>?_,by simp_all⟩
  grind
def sV(a:AE):AE:=λu S Q=>a u S λr s=>∃o:List D,(aX s r.d=.tup o∨aX s r.d=.lst o)/\(∀k∈o,cD k/\∃q r,py k=PyData.tuple (.int q::r))/\(∀k∈o,∀l∈o,b8 (py k) (py l)=true)/\o.length<63/\
 ∀j:List D,(∀k∈j,k∈o)->(∀y,y∈j.map py↔y∈o.map py)->(j.map py).Nodup->j.Pairwise (λx y=>fV (py y) (py x)=false)->Q (.new (.lst j)) s
end M
namespace M9
open PySem PySem.Spec PyProof.Rows
def KQ(u:s.heap.IsTupleIter I d i)(y:s.heap.IsTuple d its)(v:its[i]? =some g)(h:∀h',h'.IsTupleIter I d (i+1)->Heap.SameBut I s.heap h'->Q g {s with heap:=h'}):yar (model prog w) A (Builtin.SmallTypes.nextOf (.ref I)) Q E s:=by
 let⟨o,a,C,hd⟩:=id u;obtain⟨G,j,_,H,q⟩:=y;refine yaa (wpAny_callSpecial?_slot u.typeIs F.slot_tuple_iterator_next (wpAny_call_entry F.slot_tuple_iterator_next u.typeIs F.entry_tuple_iterator_next ?_ (F.args_tuple_iterator_next_1 _)));show yar _ _ (field (.ref I) 0 >>= _) _ _ s;refine yaa (wpAny_field a hd rfl ?_);refine yaa (wpAny_field a hd rfl (yaa (wpAny_seqItems j q ?_)));simp only[zbk,v];refine yaa (wpAny_setField a hd (by simp) (yab ⟨g,rfl,yab (h _ ⟨_,zaB _ a (Obj.isFreed_of_fields (Obj.data_mapFields hd _)),(Obj.cls_mapFields ..).trans C,by rw[Obj.data_mapFields hd];rfl⟩ (Heap.SameBut.update ..))⟩))
structure ZAt(h:Heap)(z TI TO i1 i2 l1 l2:Addr)(f:yai)(k:Nat):Prop where
 hz:IsZip h z TI TO f
 hTI:IsPair h TI (.ref i1) (.ref i2)
 hTO:∃a b,IsPair h TO a b
 h1:h.IsTupleIter i1 l1 k
 h2:h.IsTupleIter i2 l2 k
noncomputable abbrev Sh(l:Addr):Obj:={cls:=.type "tuple_iterator",data:=.fields #[.ref l,.int 0 0]}
noncomputable abbrev W2(a b:yai):Obj:={cls:=.type "tuple",data:=.seq #[a,b]}
noncomputable abbrev zO(a b:Addr):Obj:={cls:=.type "zip",data:=.fields #[.none,.bool false,.bool false,.ref a,.ref b]}
noncomputable abbrev q2(h:Heap)(j a:Addr):Heap:=(h.push (Sh j)).push (Sh a)
noncomputable abbrev q3(h:Heap)(a j:Addr):Heap:=(q2 h a j).push (W2 (.ref h.objs.size) (.ref (h.push (Sh a)).objs.size))
noncomputable abbrev q4(h:Heap)(j a:Addr):Heap:=(q3 h j a).push (W2 .none .none)
noncomputable abbrev q5(h:Heap)(j a:Addr):Heap:=(q4 h j a).push (zO (q2 h j a).objs.size (q3 h j a).objs.size)
end M9
namespace L2
open PySem PySem.Spec PyProof.Rows M9
def Inv.Af(I:Inv X pins σ H s)(k:∀b o,b ∉ ch->s.heap.get? b=some o->h'.get? b=some o)(a:∀b∈ch,nI X pins H b):Inv X pins σ H {s with heap:=h',toks:=t'}:=by
 have y:∀b u,H b=some u->b ∉ ch:=λb u e z=>by rw[(a b z).1] at e;cases e
 refine I.step (λb x=>?_) (λb o _ _ j e _=>k b o j e) (λb o _ _ j e _=>⟨o.slots,k b o j e⟩) (λ_ _ _ _ n=>n)
  (λb o j e=>⟨o,k b o j e⟩) (λ_ _ e=>e) (λ_ _ _ e=>e) (λb L e=>⟨#[],by simp_all⟩) (λm E=>?_) (λb u e=>?_) I.bare
 ·refine⟨(a b x).2.2.2.1,(a b x).2.1,(a b x).2.2.2.2.1,(a b x).2.2.2.2.2⟩
 ·let⟨o,F,G,C,r⟩:=E;refine⟨o,F,G,k _ o (λz=>(a _ z).2.1 rfl) C,r⟩
 ·refine(I.hok b u e).stay (λc v j q=>k c v ?_ q) (λ_ q=>q) λ_ _ q=>q
  grind
end L2
namespace M12
open PySem PySem.Spec PyProof.Rows M9
noncomputable abbrev ad(h:Heap)(i:Nat):Addr:=(h.objs.size+i:Nat)
noncomputable abbrev Cz(a b c:yai):Obj:={cls:=.type "tuple",data:=.seq #[a,b,c]}
noncomputable abbrev Jr(a:Heap)(o j:yai):Obj:={cls:=.type "zip",data:=.fields #[o,j,.bool false,.ref (ad a 3),.ref (ad a 4)]}
structure Zs(hb h0 h:Heap)(m:Nat)(os:List Obj):Prop where
 b:∀c o,hb.get? c=some o->h.get? c=some o
 c:∀(i:Nat) o,os[i]? =some o->h.get? (ad hb i)=some o
 f:∀(c:Nat) o,hb.objs.size+os.length<=c->h0.get? c=some o->h.get? c=some o
 z:h.objs.size=m
section
variable {hb h0:Heap}{m' k:Nat}{o0:Obj}
def Zs.put(Z:Zs hb h0 h m os)(v:os[i]? =some o0)(S:Heap.SameBut (ad hb i) h h')(e:h'.get? (ad hb i)=some o):Zs hb h0 h' m (os.set i o):=by
 have u:=(zaf.mp v).1;refine⟨λc a q=>S.extBut _ _ (zco (zaU (zcy q) (Nat.le_add_right _ _))) (Z.b c a q),λj a q=>?_,λc a s q=>?_,S.1.trans Z.z⟩
 ·rw[zbc] at q;split at q
  ·simp_all
  ·next h=>exact S.extBut _ _ (λe=>h (zaM e).symm) (Z.c j a q)
 ·rw[zbL] at s;exact S.extBut _ _ (zcr (zaU (Nat.add_lt_add_left u _) s)) (Z.f c a s q)
def Zs.to(Z:Zs hb h0 h m os)(k:∀c o,h.get? c=some o->h'.get? c=some o)(e:h'.objs.size=m'):Zs hb h' h' m' os:=
 ⟨λc o q=>k c o (Z.b c o q),λi o q=>k _ o (Z.c i o q),λ_ _ _ q=>q,e⟩
def Zs.upd(Z:Zs hb h h m os)(f)(a:os.length<=i):Zs hb (h.update (ad hb i) f) (h.update (ad hb i) f) m os:=
 have S:=Heap.SameBut.update h (ad hb i) f
 ⟨λb o e=>S.extBut _ _ (zco (zaU (zcy e) (Nat.le_add_right _ _))) (Z.b b o e),λj o e=>S.extBut _ _ (λq=>Nat.not_le.mpr (zaM q▸(zaf.mp e).1) a) (Z.c j o e),λ_ _ _ e=>e,S.1.trans Z.z⟩
def Ve(b:Bool)(o:Obj)(l:Addr)(k:Nat):Prop:=o.cls=.type (if b then "list_iterator" else "tuple_iterator")/\o.data=.fields #[.ref l,.int k 0]
def Sq(b:Bool)(h:Heap)(l:Addr)(a:Array yai):Prop:=if b then h.IsList l a else h.IsTuple l a
def ZZ(hb h0 h:Heap)(m:Nat)(s q o:Addr)(k:Nat)(j:Obj):Prop:=
 ∃o0 o1 o2 a b c,Ve true o0 s k/\Ve false o1 q k/\Ve true o2 o k/\Zs hb h0 h m [o0,o1,o2,Cz (.ref (ad hb 0)) (.ref (ad hb 1)) (.ref (ad hb 2)),Cz a b c,j]
variable {l1 l2 l3:Addr}{xs ys zs:Array yai}{x y v f0 f1 a b c:yai}
def nx(Z:Zs hb h0 s.heap m os)(j:os[i]? =some o)(I:Ve d o l k)(M:Sq d hb l xs)(u:xs[k]? =some x)(h:∀h' o',Ve d o' l (k+1)->Zs hb h0 h' m (os.set i o')->Q x {s with heap:=h'}):yar (model prog w) A (Builtin.SmallTypes.nextOf (.ref (ad hb i))) Q E s:=by
 cases d
 ·refine KQ ⟨o,Z.c i o j,I⟩ (Heap.IsTuple.at M λo e=>Z.b _ o e) u λh' J S=>?_;let⟨o',e,q⟩:=J;exact h h' o' q (Z.put j S e)
 ·refine wpAny_nextOf_list_item ⟨o,Z.c i o j,I⟩ (Heap.IsList.at M λo e=>Z.b _ o e) u λh' J S=>?_;let⟨o',e,q⟩:=J;exact h h' o' q (Z.put j S e)
def tE(Z:Zs hb h0 s.heap m os)(j:os[4]? =some (Cz a b c))(h:∀h',Zs hb h0 h' m (os.set 4 {cls:=.type "tuple",data:=.seq ((#[a,b,c]:Array yai).setIfInBounds d x)})->g () {s with heap:=h'}):
  yar (model prog w) A (updateSeq (ad hb 4) (·.setIfInBounds d x)) g E s:=by
 have o:=Z.c 4 _ j;refine wpAny_updateSeq o rfl (h _ (Z.put j (Heap.SameBut.update ..) ?_));rw[zaB _ o rfl];simp[Obj.mapSeq]
def nP(Z:Zs hb h0 s.heap m os)(j:os[5]? =some (Jr hb f0 f1))(o:k<5)(h:∀h',Zs hb h0 h' m (os.set 5 {cls:=.type "zip",data:=.fields ((#[f0,f1,.bool false,.ref (ad hb 3),.ref (ad hb 4)]:Array yai).setIfInBounds k x)})->d () {s with heap:=h'}):
  yar (model prog w) A (setField (.ref (ad hb 5)) k x) d E s:=
 wpAny_setField_rec (Z.c 5 _ j) o λh' e S=>h h' (Z.put j S e)
def Fr(hb h:Heap)(f0 f1:yai):Prop:=∃(T:Nat)(j:Obj)(f:Bool),f0=rawInt T/\f1=.bool f/\h.get? T=some j/\hb.objs.size+6<T
def CN{T:Nat}(Z:Zs hb h0 s.heap m os)(j:os[5]? =some (Jr hb (rawInt T) (.bool d)))(q:s.heap.get? T=some o)(h:∀g,Zs hb h0 g m (os.set 5 (Jr hb (rawInt T) (.bool true)))->r false {s with heap:=g}):yar (model prog w) A (Builtin.SmallTypes.ownedTupleIsFree (.ref (ad hb 5))) r E s:=by
 have hz:=Z.c 5 _ j;refine yaa (wpAny_field hz rfl rfl ?_);refine yaa (PySem.W.kdx_alive q ?_);refine yaa (wpAny_field hz rfl rfl ?_);cases d with
 |true=>
  exact yab (h _ (Z.put j (Heap.SameBut.refl _ _) hz))
 |false=>
  exact yaa (nP Z j (by decide) λg Z=>yab (h g Z))
def D3(M1:Sq true hb l1 xs)(M2:Sq false hb l2 ys)(M3:Sq true hb l3 zs)(Z:ZZ hb s.heap s.heap m l1 l2 l3 k (Jr hb f0 f1))(hf:(f0=.none/\f1=.bool false)∨Fr hb s.heap f0 f1)(hs:hb.objs.size+6<m)(j:(∃x y v,xs[k]? =some x/\ys[k]? =some y/\zs[k]? =some v/\∀h' Y X,ZZ hb h' h' (m+1) l1 l2 l3 (k+1) (Jr hb Y X)->Fr hb h' Y X->h'.get? m=some (Cz x y v)->(∀(c:Nat) o,hb.objs.size+6<=c->s.heap.get? c=some o->h'.get? c=some o)->d (some (.ref m)) {s with heap:=h'})∨(xs[k]? =none/\f0≠ .none/\A.handled=none/\∀h',(∀c o,hb.get? c=some o->h'.get? c=some o)->(∀(c:Nat) o,hb.objs.size+6<=c->s.heap.get? c=some o->h'.get? c=some o)->d none {s with heap:=h'})):
  yar (model prog w) A (pyNext (.ref (ad hb 5))) d E s:=by
 let⟨o0,o1,o2,a,b,c,C,H,G,Z⟩:=Z;have hz:=Z.c 5 _ rfl;have U:s.TypeIs (.ref (ad hb 5)) "zip":=⟨_,hz,rfl⟩
 refine yaa (wpAny_attempt (wpAny_callSpecial?_slot U F.slot_zip_next (wpAny_call_entry F.slot_zip_next U F.entry_zip_next ?_ (F.args_zip_next_1 _))));show yar _ _ (field (.ref (ad hb 5)) 2 >>= _) _ _ _;refine yaa (wpAny_field hz rfl rfl ?_);refine yaa (wpAny_field hz rfl rfl (yaa (wpAny_seqItems (Z.c 3 _ rfl) rfl ?_)));rcases hf with⟨rfl,rfl⟩|⟨T,oT,f,rfl,rfl,U,P⟩
 ·refine yaa ?_;refine yaa (wpAny_field hz rfl rfl (yab ?_));rcases j with⟨x,y,v,O,hy,hv,W⟩|⟨_,h,_⟩
  ·refine yaa (wpAny_rule (yaa (wpAny_field hz rfl rfl (yaa (nP Z rfl (by decide) λg1 Z=>?_)))));refine yaa ?_;refine yaa (yaa (yaC ?_));refine yaa (nx Z rfl C M1 O λu o0 C Z=>yab (yaa (wpAny_seqItems (Z.c 4 _ rfl) rfl (yaa (tE Z rfl λI Z=>?_)))));refine yaa (wpAny_letGo (yab (yaa (yaa (yaC ?_)))));refine yaa (nx Z rfl H M2 hy λu o1 H Z=>yab (yaa (wpAny_seqItems (Z.c 4 _ rfl) rfl (yaa (tE Z rfl λI Z=>?_)))));refine yaa (wpAny_letGo (yab (yaa (yaa (yaC ?_)))));refine yaa (nx Z rfl G M3 hv λu o2 G Z=>yab (yaa (wpAny_seqItems (Z.c 4 _ rfl) rfl (yaa (tE Z rfl λI L=>?_)))))
   replace L:Zs hb s.heap I m [o0,o1,o2,Cz (.ref (ad hb 0)) (.ref (ad hb 1)) (.ref (ad hb 2)),Cz x y v,Jr hb .ellipsis (.bool false)]:=L
   refine yaa (wpAny_letGo (yab (yab (yaa (wpAny_seqItems (L.c 4 _ rfl) rfl (yaa (wpAny_newTuple ?_)))))));have hm:=L.z;subst hm;have hp:(I.push (Cz x y v)).get? I.objs.size=some (Cz x y v):=zaO _ rfl;have Z':=L.to (h':=I.push (Cz x y v)) (λ_ _ e=>zau _ e) (zcc ..);refine yaa ?_;refine yaa (nP Z' rfl (by decide) λg9 Z9=>nP Z9 rfl (by decide) λg Z=>?_);have e:=Z.f _ _ (zcq hs) hp;exact yab ⟨_,rfl,yab (W g _ _ ⟨o0,o1,o2,_,_,_,C,H,G,Z.to (λ_ _ e=>e) Z.z⟩ ⟨_,_,_,rfl,rfl,e,hs⟩ e λc o j e=>Z.f c o j (zau _ (L.f c o j e)))⟩
  ·exact absurd rfl h
 ·refine yaa (CN Z rfl U λg1 Z=>?_);refine yaa (yaa (yaa (yad ?_)));rcases j with⟨x,y,v,O,hy,hv,W⟩|⟨O,_,hh,W⟩
  ·refine yaa (nx Z rfl C M1 O λu o0 C Z=>yab (yab (yaa (yaa (yad ?_)))));refine yaa (nx Z rfl H M2 hy λu o1 H Z=>yab (yab (yaa (yaa (yad ?_)))));refine yaa (nx Z rfl G M3 hv λu o2 G Z=>yab (yab (yab ?_)));show yar _ _ (newTuple [x,y,v] >>= _) _ _ _;refine yaa (wpAny_newTuple (yab ⟨_,rfl,yab ?_⟩));have hm:=Z.z;subst hm;have kp:∀c o,u.get? c=some o->(u.push (Cz x y v)).get? c=some o:=λ_ _ e=>zau _ e;exact W _ _ _ ⟨o0,o1,o2,_,_,_,C,H,G,Z.to kp (zcc ..)⟩ ⟨_,_,_,rfl,rfl,kp _ _ (Z.f _ _ (zcq P) U),P⟩ (zaO _ rfl) λc o j e=>kp c o (Z.f c o j e)
  ·refine yaa (wpAny_nextOf_list_end hh ⟨_,Z.c 0 _ rfl,C⟩ (Heap.IsList.at M1 λo e=>Z.b _ o e) O λu e S he=>?_);let⟨oe,hoe,hce⟩:=he;exact yaa (wpAny_isInstance ⟨oe,hoe,hce⟩ isSubtype_stop (yab (W u (λc o q=>S _ _ (zco (zcy q)) (Z.b c o q)) λc o j q=>S _ _ (zcr (zaU (Nat.lt_add_of_pos_right (by decide)) j)) (Z.f c o j q))))
end
namespace F
def oJ(a b c):checkTypeCall "zip" ⟨[a,b,c],[]⟩=pure ():=by rfl
def qV(a b c):checkBuiltinCall "zip.__new__" ⟨[.type "zip",a,b,c],[]⟩=pure ():=by kernel_rfl
def jU(a b c d):argsOk "object.__init__" ⟨[a,b,c,d],[]⟩:=by
 rfl
def yj:typeLookup (.type "zip") "__len__"=pure none:=by rfl
def vc:typeLookup (.type "zip") "__length_hint__"=pure none:=by rfl
end F
noncomputable abbrev Vr(l:Addr):Obj:={cls:=.type "list_iterator",data:=.fields #[.ref l,.int 0 0]}
noncomputable def pu:Heap->List Obj->Heap
 |h,[]=>h
 |h,o::os=>pu (h.push o) os
def F0(e:h.get? d=some o):(pu h os).get? d=some o:=by
 induction os generalizing h with
 |nil=>exact e
 |cons o' os ih=>exact ih (zau _ e)
def Kr:(pu h os).objs.size=h.objs.size+os.length:=by
 induction os generalizing h with
 |nil=>rfl
 |cons o os ih=>exact(ih).trans (by rw[zcc,zby];lia)
def PZ(a:∀o∈os,o.isFreed=false)(e:os[i]? =some o'):(pu h os).get? (ad h i)=some o':=by
 induction os generalizing h i with
 |nil=>cases e
 |cons o os ih=>
  cases i with
  |zero=>cases e;exact F0 (os:=os) (zaO _ (a _ (by simp)))
  |succ i=>
   have q:=ih (h:=h.push o) (λx j=>a x (zaC _ j)) e;have s:ad (h.push o) i=ad h (i+1):=by
    show(h.push o).objs.size+i=h.objs.size+(i+1);rw[zcc];lia
   rw[s] at q;exact q
noncomputable abbrev p3(o j a:Addr):List Obj:=[Vr o,Sh j,Vr a]
noncomputable abbrev p6(h:Heap)(o j a:Addr):List Obj:=p3 o j a++[Cz (.ref (ad h 0)) (.ref (ad h 1)) (.ref (ad h 2)),Cz .none .none .none,Jr h .none (.bool false)]
def Sf(j a q)(G C y):
  Meets (Builtin.«zip.__new__» ⟨[.type "zip",.ref j,.ref a,.ref q],[]⟩) (λ_ R s=>s.heap.IsList j G/\s.heap.IsTuple a C/\s.heap.IsList q y/\R (.ok (.ret (.ref (ad s.heap 5)))) {s with heap:=pu s.heap (p6 s.heap j a q)}):=
 .of_wp λprog w A R s h=>by
  obtain⟨F,g,d,tk,os⟩:=s;let⟨x,v,u,h⟩:=h;have E:=sub_zip;have m1  :=x;have m2:Heap.IsTuple (Shared.heap ⟨F.push (Vr j),g,d,tk,os⟩) a C:=v.at λo e=>zau _ e;have H:Heap.IsList (Shared.heap ⟨(F.push (Vr j)).push (Sh a),g,d,tk,os⟩) q y:=u.at λo e=>zau _ (zau _ e)
  wp_walk using wpAny_pyIter_list m1,wpAny_pyIter_tuple m2,wpAny_pyIter_list H
  simp only[zcc];refine⟨_,rfl,h⟩
section
variable {l1 l2 l3:Addr}{xs ys zs:Array yai}{hb:Heap}
def Ox(q:s.heap.IsList l1 xs)(j:s.heap.IsTuple l2 ys)(a:s.heap.IsList l3 zs)(h:∀h',ZZ s.heap h' h' (s.heap.objs.size+6) l1 l2 l3 0 (Jr s.heap .none (.bool false))->Q (.ref (ad s.heap 5)) {s with heap:=h'}):
  yar (model prog w) A (call (.type "zip") [.ref l1,.ref l2,.ref l3]) Q E s:=by
 refine callType_new PySem.F.called_zip (by decide) (F.oJ _ _ _) (F.qV _ _ _) (λobj=>F.jU obj _ _ _) PySem.F.entry_zip_new (Sf l1 l2 l3 xs ys zs) ⟨q,j,a,?_⟩;have g:=λi o=>PZ (os:=p6 s.heap l1 l2 l3) (h:=s.heap) (i:=i) (o':=o) λo h=>by
  simp only[zbx,zbM,zcd,zbw,or_false] at h;obtain rfl|rfl|rfl|rfl|rfl|rfl:=h<;>rfl
 exact⟨⟨_,g 5 _ rfl,rfl⟩,h _ ⟨_,_,_,_,_,_,⟨rfl,rfl⟩,⟨rfl,rfl⟩,⟨rfl,rfl⟩,λ_ _ e=>F0 e,g,λ_ _ _ e=>e,Kr⟩⟩
def G3(a:s.TypeIs (.ref I) "zip")(h:d true s):yar (model prog w) A (Builtin.List.listLengthHint (.ref I)) d E s:=by
 refine yaa (wpAny_specialOf a F.yj ?_);exact yaa (wpAny_specialOf a F.vc (yab h))
def Tl(hb:Heap)(xs ys zs:Array yai)(i:Nat)(h:Heap):Prop:=∃a c,h.get? (ad hb 6)=some {cls:=.type "list",dict:=none,data:=.seq a c,slots:=#[]}/\a.toList=(zcE i).map (λj=>Value.ref (ad hb (7+j)))/\
 ∀j x y v,j<i->xs[j]? =some x->ys[j]? =some y->zs[j]? =some v->h.get? (ad hb (7+j))=some (Cz x y v)
theorem Ow{R:Result->yah->Prop}(hh:A.handled=none)(M1:Sq true hb l1 xs)(M2:Sq false hb l2 ys)(Y:Sq true hb l3 zs)(e1:xs.size=m)(e2:ys.size=m)(e3:zs.size=m)(hm:0<m)(hn:m<=yag)(res)(hR:∀h',(∀c o,hb.get? c=some o->h'.get? c=some o)->Tl hb xs ys zs m h'->R (.ok (.ret res)) {s with heap:=h'}):
  ∀(k i)(h)(E C),m - i=k->i<=m->ZZ hb h h (hb.objs.size+(7+i)) l1 l2 l3 i (Jr hb E C)->(i=0/\E=.none/\C=.bool false)∨Fr hb h E C->Tl hb xs ys zs i h->
   codeAny (model prog w) A (.builtin "list.extend.loop" ⟨[.ref (ad hb 6),.ref (ad hb 5),res],[]⟩) R {s with heap:=h}:=by
 intro k;have I:∀j,hb.objs.size+6<hb.objs.size+(7+j):=λj=>by lia
 induction k with
 |zero=>
  intro i h E C hk hi Q H G;obtain rfl:i=m:=by lia
  refine codeAny_builtin PySem.F.entry_extend_loop ?_;refine yaa (D3 M1 M2 Y Q (H.imp And.right id) (I _) (.inr ⟨zas (by simp_all),λe=>?_,hh,λh' k1 k2=>?_⟩))
  ·rcases H with⟨h,_⟩|⟨_,_,_,h,_⟩
   ·lia
   ·rw[h] at e;cases e
  ·let⟨q,c,L,q2,q3⟩:=G;exact yab (hR h' k1 ⟨q,c,k2 _ _ (zcA _) L,q2,λj x y v u a b c=>k2 _ _ (zcq (I j)) (q3 j x y v u a b c)⟩)
 |succ k ih=>
  intro i h E C hk hi Q H G;let⟨q,c,L,q2,q3⟩:=G;have hsz:q.size=i:=by rw[<-zaN,q2,zbF,zbe]
  refine codeAny_builtin PySem.F.entry_extend_loop ?_;refine yaa (D3 M1 M2 Y Q (H.imp And.right id) (I _) (.inl ⟨_,_,_,zak (by lia),zak (by lia),zak (by lia),λh' U S P O G kp=>?_⟩));have X:=kp (ad hb 6) _ (zcA _) L;have up:∀b o,b≠ad hb 6->h'.get? b=some o->(h'.update (ad hb 6) (Obj.mapSeq (·.push (Value.ref (ad hb (7+i)))))).get? b=some o:=λb o hb e=>(zav _ _ (Ne.symm hb)).trans e;have n7:∀j,ad hb (7+j)≠ad hb 6:=λj e=>by have:=zaM e;lia
  refine yaa (wpAny_updateSeq X rfl (yab ⟨plainId_quiet PySem.F.plain_extend_loop _,ih (i+1) _ U S (by grind) (by grind) ?_ (.inr ?_) ⟨q.push (.ref (ad hb (7+i))),_,zaB _ X rfl,?_,λj x y v u a b c=>?_⟩⟩) (by lia) (by rw[Array.size_push];lia))
  ·let⟨o0,o1,o2,a,b,c,i0,i1,i2,Z⟩:=P;refine⟨o0,o1,o2,a,b,c,i0,i1,i2,Z.upd _ (zcA 6)⟩
  ·let⟨T,oT,f,r1,r2,r3,W⟩:=O;refine⟨T,oT,f,r1,r2,up _ _ (zcr W) r3,W⟩
  ·rw[zbl,q2,zbN,zbK];rfl
  ·refine up _ _ (n7 j) ?_;obtain u|rfl:=Nat.lt_succ_iff_lt_or_eq.mp u
   ·exact kp _ _ (zcq (I j)) (q3 j x y v u a b c)
   ·rw[zak (by (clear G e1;grind))] at a b c;simp_all
end
end M12
namespace M12
open PySem PySem.Spec PyProof.Rows M9
def GF(hh:A.handled=none)(M1:Sq true q d k)(M2:Sq false q g r)(M3:Sq true q O z)(Z:ZZ q s.heap s.heap (q.objs.size+6) d g O 0 (Jr q .none (.bool false)))(e1:k.size=m)(e2:r.size=m)(e3:z.size=m)(hm:0<m)(hsz:m<=yag)(hQ:∀h',(∀c o,q.get? c=some o->h'.get? c=some o)->Tl q k r z m h'->Q (.ref (ad q 6)) {s with heap:=h'}):
  yar (model prog w) A (call (.type "list") [.ref (ad q 5)]) Q E s:=by
 let⟨X,o1,o2,a,b,c,i0,i1,Y,Z⟩:=Z;have y:=Z.z;refine callType_codes (Q₁:=λobj v=>obj=.ref (ad q 6)/\v={s with heap:=s.heap.push {cls:=.type "list",data:=.seq #[]}}) PySem.F.called_list (PySem.F.typeCall_list_1 _) PySem.F.entry_list_init
  (code_list_new _ ⟨by rw[y],rfl⟩) λobj v x=>?_
 let⟨rfl,rfl⟩:=x;have C:(s.heap.push {cls:=.type "list",data:=.seq #[]}).get? (ad q 6)=some {cls:=.type "list",data:=.seq #[]}:=by rw[show ad q 6=s.heap.objs.size from y.symm];exact zaO _ rfl
 replace Z:=Z.to (h':=s.heap.push {cls:=.type "list",data:=.seq #[]}) (m':=q.objs.size+7) (λ_ _ e=>zau _ e) (by simp_all)
 refine⟨⟨_,C,rfl⟩,PySem.F.args_list_init_2 _ _,?_⟩;generalize s.heap.push {cls:=.type "list",data:=.seq #[]}=g1 at C Z⊢;refine yaa ?_;refine yaa (wpAny_seqItems C rfl (yab ?_));refine yaa (wpAny_updateSeq C rfl (yaa (wpAny_letGo ?_)));have hS₂  :=zaB (Obj.mapSeq (λ_=>(#[]:Array yai))) C rfl
 replace Z:=Z.upd (Obj.mapSeq (λ_=>(#[]:Array yai))) (zcA 6)
 generalize g1.update (ad q 6) (Obj.mapSeq (λ_=>(#[]:Array yai)))=g2 at hS₂ Z⊢;have L:=Z.c 5 _ rfl;have U:Shared.TypeIs {s with heap:=g2} (.ref (ad q 5)) "zip":=⟨_,L,rfl⟩
 refine yaa (wpAny_typeOf U ?_);have h1:Builtin.List.listSameRef (.ref (ad q 6)) (.ref (ad q 5))=false:=by simp[Builtin.List.listSameRef]
 simp only[h1];refine yaa (wpAny_pyIter_zip L (yaa (yad (G3 U ?_))));refine yaa (wpAny_rule (yaa ?_));have u:=zaB (Obj.mapSeq (·.push Value.none)) hS₂ rfl;refine yaa (wpAny_updateSeq hS₂ rfl (wpAny_updateSeq u rfl ?_));exact yab ⟨plainId_quiet PySem.F.plain_extend_loop _,Ow (A:=A.in1) hh M1 M2 M3 e1 e2 e3 hm hsz .none (λh' W q2=>⟨rfl,hQ h' W q2⟩) m 0 _ _ _ rfl (zcB _) ⟨X,o1,o2,a,b,c,i0,i1,Y,(Z.upd _ (zcA 6)).upd _ (zcA 6)⟩ (.inl ⟨rfl,rfl,rfl⟩) ⟨#[],_,zaB (Obj.mapSeq (·.pop)) u rfl,rfl,λj _ _ _ h=>absurd h (zbP j)⟩⟩
end M12
namespace M
open PySem PySem.Spec PyProof.Rows L2
noncomputable def yq(es fs a:List D):List (List D):=(es.zip (fs.zip a)).map λt=>[t.1,t.2.1,t.2.2]
def D9(h:(yq q d g)[j]? =some k):∃x y z,q[j]? =some x/\d[j]? =some y/\g[j]? =some z/\k=[x,y,z]:=by
 delta yq at h;rw[zbb] at h;cases e:(q.zip (d.zip g))[j]? with
 |none=>rw[e] at h;cases h
 |some p=>
  rw[e] at h;let⟨h1,h2⟩:=zah.mp e;let⟨u,s⟩:=zah.mp h2;refine⟨_,_,_,h1,u,s,(zcD.inj h).symm⟩
def Oa(a:AA):AE:=λx S Q=>a x S λy j=>∃v u s q fs o,y=[v,u,s]/\aX j v=.lst q/\aX j u=.tup fs/\aX j s=.lst o/\q.length=fs.length/\o.length=fs.length/\0<fs.length/\fs.length<=1000/\Q (.new (.lst ((yq q fs o).map D.tup))) j
end M
namespace M10
open PySem PyProof.Rows
noncomputable def KR(R:Keyed->Int)(a:Array Keyed)(i:Nat):Int:=(a[i]?.map R).getD 0
def Up(R:Keyed->Int)(a:Array Keyed)(lo m:Nat):Prop:=∀i j,lo<=i->i<=j->j<lo+m->KR R a i<=KR R a j
section
variable {R:Keyed->Int}{κ:SortKind}{T:Keyed->Prop}{a₀ b:Array Keyed}{p:Array (Nat×Nat×Nat)}{lo:Nat}
noncomputable def t3(lo n a:Nat):StateT SortSt Sem (Option Nat):=do
 let mut n:=n
 reverseSlice' lo (lo+n)
 for _ in [n:a] do
  let some sm <-ltAt' (lo+n) (lo+n - 1)|return none
  if sm then break
  n:=n+1
 return some n
end
end M10
namespace M10
open PySem PySem.Spec PyProof.Rows
section
variable {R:Keyed->Int}{T:Keyed->Prop}
def TS(ss:List Str)(p:Keyed):Prop:=∃x t,p.1=.str x t/\x∈ss
end
end M10
namespace L2
open PySem PySem.Spec PyProof.Rows
section
variable {ta:TE}{p p2 pos2:Pos}
theorem mj{α:Type}[DecidableEq α]:∀{l m:List α},l.Nodup->(∀y∈l,y∈m)->l.length<=m.length
 |[],_,_,_=>zcB _
 |x::l,m,h,hs=>by
  rw[zbH] at h;have a:=hs x (by simp);have:=mj (m:=m.erase x) h.2 λy j=>(List.mem_erase_of_ne (λe=>h.1 (by simp_all))).mpr (hs y (by simp[j]));rw[zan a] at this;have  :=zar a;rw[zby];omega
end
end L2
namespace M5
open PySem PySem.Spec PyProof.Rows
def za(hd:(d==yas)=false):
  MeetsIn prog w (Builtin.«dict.__len__» ⟨[.ref d],[]⟩) (λ_ R s=>∃es j,M6.iu s.heap d es j/\R (.ok (.ret (.int es.size s.toks))) {s with toks:=s.toks+1}):=
 .of_wp λA R s ⟨es,j,⟨o,q,u,a⟩,h⟩=>by
  show yar _ _ (dictSize d >>= _) _ _ s;refine yaa (yaa (wpAny_dictEntries q a (yab ?_)));refine yaa (wpAny_pendingCount_other hd ?_);refine wpAny_ret_mkInt ?_;exact h
def sj(hd:(d==yas)=false)(a:M6.iu s.heap d g ep)(o:(g.size:Int)<2 ^ 63)(h:Q (.int g.size (s.toks+1)) {s with toks:=s.toks+1+1}):yar (model prog w) A (Builtin.«len» ⟨[.ref d],[]⟩) (λj q=>∃r,j=.done (.ret r)/\Q r q) E s:=by
 refine yaa (yab ?_);refine yaa (wpAny_callSpecial?_slot a.typeIs PySem.F.slot_dict_len (call_meetsIn PySem.F.slot_dict_len a.typeIs PySem.F.entry_dict_len (PySem.F.args_dict_len_1 _) (za hd) ⟨g,ep,a,?_⟩));refine yaa (yad (yab ?_));refine yaa (wpAny_letGo ?_);rw[yIn (by lia)];rw[yIn (by simp_all)];exact yaa (wpAny_mkInt (yab ⟨_,rfl,h⟩))
def vm(G:A.handled=none)(lo:(d==yas)=false)(H:M6.iu s.heap d g ep)(j:StrsAre (g.toList.map (·.key)) ss)(I:g.size<64)(h:∀(h1 h2:Heap)(tk)(out)(a)(c),(∀b o,s.heap.get? b=some o->h1.get? b=some o)->(∀b o,h1.get? b=some o->h2.get? b=some o)->h2.get? h1.objs.size=some (seqObj "list" out.toArray c)->StrsAre out a->a.Perm ss->sortedS a=true->Q (.ref h1.objs.size) {s with heap:=h2,toks:=tk}):
  yar (model prog w) A (call (.builtin "sorted") [.ref d]) Q E s:=by
 refine zal kind_sorted plain_sorted entry_sorted (args_sorted1 _) ?_;refine yaa (yab ?_);refine yaa (M6.xD lo ?_ H (by rw[yaf];lia) λh1 tk kp=>?_)
 ·exact G
 have u:(g.toList.map (·.key)).length=g.size:=by simp
 generalize (g.toList.map (·.key))=vs at j u;refine yaa (wpAny_newList ?_ (by first|(rw[yaf];lia)|(rw[zba,yaf];lia)));have x:(h1.push (seqObj "list" vs.toArray 0)).get? h1.objs.size=some (seqObj "list" vs.toArray 0):=zaO _ rfl;refine yaa (yad (wpAny_call_entry slot_list_sort ⟨_,x,rfl⟩ entry_list_sort (list_sort_treeK strKind_oneLt x j.keysOf (λC y rest e=>keyKind_strs (by rw[<-e];exact j)) (by simp_all) λq U S=>⟨_,rfl,?_⟩) (args_list_sort _)));let⟨a,P,O,L⟩:=sorted_out_str j U S;obtain⟨c,v⟩:=sortedHeap_at x;refine yab ⟨_,rfl,h h1 _ tk ((arrOf q).map (·.2)).toList a c kp (λb o e=>?_) (by exact v) P O L⟩;have F:=zcy e;rw[sortedHeap_old (zco F) (by rw[size_push'];exact zbi F)];exact zau _ e
end M5
namespace L2
open PySem PySem.Spec PyProof.Rows M6
def Kp:List V->Hp->VK->Prop:=λs H Q=>∃(a:Addr)(o:List (Key×V))(q:List Str),s=[.ref a]/\H a=some (.dK o)/\(o.map λx=>kV x.1)=q.map V.str/\q.length<64/\∀p (j),H p=none->j.Perm q->sortedS j=true->Q (.ref p) (upd H p (.lst (j.map V.str)))
def xH(P:aW k X.A):cJ X (.builtin "sorted") Kp:=by
 intro v s G H xs us Q I r h;let⟨a,O,L,rfl,e,U,Y,q⟩:=h;let⟨u,rfl,ru⟩:=vals1 r;cases ru;let⟨lo,hz,Z,ep,W,x⟩:=FT I e;have hl  :=by have:=x.length;simpa using this.symm
 rw[U] at x;have S:Z.size=L.length:=by have:=x.length;simp_all
 refine M5.vm P.hd lo W (j7 x) (by simp_all) λh1 h2 tk out j c C y g a1 E a3=>?_;have F:Inv X v G H {s with heap:=h1,toks:=tk}:=I.kept C;refine⟨.ref h1.objs.size,_,F.laid (o:=.lst (j.map V.str)) y (zcA _) ⟨by rw[zbF,E.length_eq];simp_all,out,c,M.i6 a1,g⟩,rfl,q _ j (F.hok.fresh (zcA _)) E a3⟩
end L2
namespace M
open PySem PySem.Spec PyProof.Rows L2 M6
def V8(F:DZ K x qual st f fd)(S:ak N ps (ah st))(len:∀ds S Q,sp ds S Q->ds.length=ps.length)(o:∀(f)(j)(A)(outer)(s)(H)(E),aW k (A.deeper (PyProof.Rows.envOfC qual (ah st) s.heap.objs.size f j))->∃a,yh (mz lQ P w K mg base N qual (ah st) f j A outer s H E).Gm (bG st) a/\∀ds S Q,sp ds S Q->a {nx:=λ_ v=>Q (.dat .bB) v,rt:=Q} (aO N ds) S):cY P w K mg base lQ (k+1) f fd ps (az K sp):=
 F.ok S (λvs H Q E h=>by
  let⟨w,ds,S,y,ok,rep,q,bk⟩:=h;rw[rep.length];exact len ds S y q) λj A outer s H vs Q E I h=>by
  let⟨a,L,hd⟩:=o f j A outer s H E I;let⟨w,ds,S,y,ok,rep,q,bk⟩:=h;refine⟨_,L.p,w,aO N ds,S,_,ok,jk rep,hd ds S y q,⟨λW v U C O le u env G=>?_,bk,λ_ _ _ _ _ _ _ _ z=>z.elim,λ_ _ _ _ _ _ _ _ z=>z.elim⟩⟩;exact bk (.dat .bB) v .bB C O le u (show Rep K C .bB .bB from .bB) G
def fq(F:gW K C d qual ps st)(S:ak N ps (ah st))(len:∀ds S Q,sp ds S Q->ds.length=ps.length)(j:∀(f)(o)(A)(outer)(s)(H)(E),aW k (A.deeper (PyProof.Rows.envOfC qual (ah st) s.heap.objs.size f o))->∃a,yh (mz lQ P w K mg base N qual (ah st) f o A outer s H E).Gm (bG st) a/\∀ds S Q,sp ds S Q->a {nx:=λ_ v=>Q (.dat .bB) v,rt:=Q} (aO N ds) S):bV P w K mg base (k+1) C d ps sp:=by
 let⟨f,fd,F,q,u⟩:=F.ex;refine⟨f,fd,V8 F S len j,q,u⟩
def QY(F:Src K mg x ps st)(S:ak N ps (ah st))(len:∀ds S Q,sp ds S Q->ds.length=ps.length)(o:∀(f)(j)(A)(outer)(s)(H)(E),aW k (A.deeper (PyProof.Rows.envOfC x (ah st) s.heap.objs.size f j))->∃a,yh (mz lQ P w K mg base N x (ah st) f j A outer s H E).Gm (bG st) a/\∀ds S Q,sp ds S Q->a {nx:=λ_ v=>Q (.dat .bB) v,rt:=Q} (aO N ds) S):Def P w K mg base (k+1) x ps (az K sp):=
 F.def S (λvs H Q E h=>by
  let⟨w,ds,S,y,ok,rep,q,bk⟩:=h;rw[rep.length];exact len ds S y q) λf j A outer s H vs Q E I h=>by
  let⟨a,L,hd⟩:=o f j A outer s H E I;let⟨w,ds,S,y,ok,rep,q,bk⟩:=h;refine⟨_,L.p,w,aO N ds,S,_,ok,jk rep,hd ds S y q,⟨λW v U C O le u env G=>?_,bk,λ_ _ _ _ _ _ _ _ z=>z.elim,λ_ _ _ _ _ _ _ _ z=>z.elim⟩⟩;exact bk (.dat .bB) v .bB C O le u (show Rep K C .bB .bB from .bB) G
section
variable {o:Expr}{es:List Expr}{p p2 pos2:Pos}{k:Nat}{m:Str}
theorem kF(MK:Mk X.K C f)(F:cY X.prog X.w X.K X.mg X.base lQ k f fd ps (az X.K sp))(hb:Binds X.K fd ps [])(W:aW (k+1) X.A)(Z:Gl X x)(Y:X.mg x=some (.ref C))(L:(x==("__debug__":Str))=false:=by decide+kernel):GE X (.Call (.Name x p) [] [] pos) (sW C sp gu):=by
 refine⟨mE (L2.kF MK F W Z Y hb .nil rY L) λσ H Q h=>?_⟩;let⟨w,δ,S,Qa,ok,env,q,bk⟩:=h;refine λa O U nd ne=>?_;have E:(upd H O (HO.own a)) a=none:=by rw[aQ (Ne.symm ne)];exact U
 have u:=(ok.alloc (o:=.own a) nd)
 let⟨P,I,nW,j⟩:=store (u.alloc E) (u.fresh E (m:=.ins C [] []) ⟨O,[],rfl,rfl,.nil⟩);refine⟨P,_,_,_,nW,by exact .cons j .nil,q,λr S2 v w3 H3 y G s=>x0_1 λer q4=>?_⟩;subst er;have ev:=AQ s rfl;exact⟨ev,bk.dat (I.trans y) G (j.le y) q4⟩
structure B7(ks:List D):Prop where
 good:∀k∈ks,cD k
 fst:∀k∈ks,∃p r,py k=PyData.tuple (.str p::r)
 cmp:∀k∈ks,∀l∈ks,b8 (py k) (py l)=true
def OB(ks:List D):Prop:=ks.Pairwise (λx y=>fV (py y) (py x)=false)
def L6:AN:=λq S Q=>∃d es,∃j:List Str,q=[d]/\aX S d=.dct (j.map Sum.inr) es/\j.length<64/\∀a:List Str,a.Perm j->sortedS a=true->Q (.new (.lst (a.map D.str))) S
noncomputable def zw(ks:List D)(k:D):Bool:=ks.any λj=>decide (py j=py k)
def pK(F:aW j X.A):s9 X (.builtin "sorted") L6:=⟨mC (xH F) λO H Q h=>by
 let⟨w,U,S,W,ok,rep,⟨d,es,C,rfl,z,G,q⟩,bk⟩:=h;let⟨v,rfl,E⟩:=jz rep;let⟨a,s,rfl,h1,h2,P⟩:=eK ok E z;refine⟨a,s,C,rfl,h1,?_,G,λp u y L I=>bk (.new (.lst _)) S _ w _ .refl (ok.alloc y) (ok.fresh y ⟨_,rfl,eN u⟩) (q u L I)⟩;have:(s.map λx=>kV x.1)=(s.map (·.1)).map kV:=by simp
 rw[this,h2,zcn];rfl⟩
end
end M
namespace L2
open PySem PySem.Spec PyProof.Rows M6
theorem mV:∀{a:List V}{j:List yai},a.length=j.length->(∀(k:Nat)(x)(u),a[k]? =some x->j[k]? =some u->RelV x u)->Vals a j
 |[],[],_,_=>.nil
 |[],_::_,h,_=>by simp at h
 |_::_,[],h,_=>by simp at h
 |x::a,u::j,h,g=>.cons (g 0 x u rfl rfl) (mV (by simpa using h) λk y v h1 h2=>g (k+1) y v (by simp_all) (by simp_all))
end L2
namespace M
open PySem PySem.Spec PyProof.Rows L2 M6
def Ib(a:AA):AE:=λo S Q=>a o S λq s=>∃i j:Int,q=[.int i,.int j]/\-(2 ^ 60)<=i/\i<2 ^ 60/\i<=j/\j<=i+1000/\Q (.new (.lst ((zcE (j - i).toNat).map λk:Nat=>D.int (i+k)))) s
end M
namespace M
open PySem PySem.Spec PyProof.Rows L2
def Vv(S:aq)(d:D)(ss:List Int):Prop:=(aX S d=.tup (ss.map D.int)∨aX S d=.lst (ss.map D.int))/\ss.length<4000
end M
namespace L2
open PySem PySem.Spec PyProof.Rows
noncomputable def Itv(K:yaJ)(a:Addr)(n:Nat):It:=
 ⟨λi H=>i<n/\∃j x,cW K H a j/\j[n - 1 - i]? =some x,λi H x o=>o=H/\∀j,cW K H a j->j[n - 1 - i]? =some x,λi _=>i=n⟩
def D8(a it)(n):Turn P w K tg (Itv K a n) [it] it (λi h=>h.IsRevIter it a ((n:Int) - 1 - (i:Int))) where
 mem:=by simp
 obj:=λi h st b y=>by
  have e  :=by simpa using y
  subst e;let⟨o,e,c,d⟩:=st;refine⟨o,e,λv z=>by simp_all⟩
 keep:=λi h L st k=>st.at λo e=>k it (by simp) o e
 item:=by
  intro X hP hw hK hc i j s Y H E I C st G;subst hP hw hK;let⟨hi,xs,x,hq,Z⟩:=G;let⟨its,rv,p,hz⟩:=I.list hq;let⟨u,hu,ru⟩:=rv.get Z;let⟨W,U,f2,S,Q,O⟩:=C it (by simp);have F:s.heap.IsRevIter it a ((n - 1 - i:Nat):Int):=by rw[show((n - 1 - i:Nat):Int)=n - 1 - i by omega];exact st
  refine wpAny_pyNext_rev_item F p.isList (x:=u) (by simp_all) λL q sb=>?_;have I1:Inv X j Y H {s with heap:=L}:=I.turned (λb o y e=>(sb.2 b y).trans e) W U S Q O;rw[show((n - 1 - i:Nat):Int) - 1=n - 1 - ((i+1:Nat):Int) by omega] at q;let⟨o,e,c,d⟩:=id q;refine⟨u,rfl,wV e c d (by decide) ⟨x,H,I1,ru,⟨rfl,λys hy=>by rw[I.pS hy hq];exact Z⟩,q,λb y=>(C b y).1⟩⟩
 done:=by
  intro X hP hw hK hc i j s Y H E I C st G;obtain rfl:i=n:=G;let⟨W,U,f2,S,Q,O⟩:=C it (by simp);rw[show(i:Int) - 1 - i=-1 by lia] at st;exact wpAny_pyNext_rev_end (I.ok.hd hc) st λL eb=>⟨rfl,I.turned (λb o y e=>eb b o y e) W U S Q O⟩
 self:=λ_ _ _ _ _ st h=>wpAny_pyIter_revIter st h
end L2
namespace M
open PySem PySem.Spec PyProof.Rows L2
def NI(a:AE):AI:=λo S Q=>a o S λr q=>∃j,r.d=.lst j/\Q j.reverse (λ_=>True) q
def FG{α:Type}{es:List α}{d:α}(e:es.reverse[i]? =some d):i<es.length/\es[es.length - 1 - i]? =some d:=by
 have h:i<es.length:=by
  have:=(zaf.mp e).1;simp_all
 rw[List.getElem?_reverse h] at e;exact⟨h,e⟩
end M
namespace L2
open PySem PySem.Spec PyProof.Rows M6
def Rw(a:Addr)(j:Heap->Prop)(es:Array yav)(o:Nat):Prop:=∀P w H h,bq P w H h a (.ext j)->iu h a es o
noncomputable def WR(a:Addr)(es:Array yav)(o:Nat)(q:List V):It:=
 ⟨λi H=>i<es.size/\∃j,H a=some (.ext j)/\Rw a j es o,λi H x s=>s=H/\q[i]? =some x,λi H=>i=es.size/\∃j,H a=some (.ext j)/\Rw a j es o⟩
def Cw(a it)(hV:Vals xs (g.toList.map (·.key))):Turn P w K tg (WR a g ep xs) [it] it (λi h=>h.IsKeyIter it a i g.size ep) where
 mem:=by simp
 obj:=λi h st b y=>by
  have e  :=by simpa using y
  subst e;let⟨o,e,c,d⟩:=st;exact⟨o,e,λv z=>by simp_all⟩
 keep:=λi h U st k=>st.at λo e=>k it (by simp) o e
 item:=by
  intro X hP hw hK hc i j s σ H E I G st Q;obtain⟨hi,L,S,q⟩:=Q;have hD  :=q _ _ _ _ (show bq X.prog X.w H s.heap a (.ext L) from I.hok a _ S);let⟨f0,f1,f2,Z,Y,W⟩:=G it (by simp);have hx  :=zak hi;obtain⟨x,O,rx⟩:∃x,xs[i]? =some x/\RelV x g[i].key:=by
   have hl:=hV.length;have F:i<xs.length:=by simp_all
   let⟨u,hu,ru⟩:=hV.get (zam F);have:u=g[i].key:=by
    simp_all
   subst this;exact⟨_,zam F,ru⟩
  refine nextK st hD hx λU C sb=>?_;have I1:Inv X j σ H {s with heap:=U}:=I.turned (λb o y e=>(sb.2 b y).trans e) f0 f1 Z Y W;let⟨o,e,c,d⟩:=id C;exact⟨_,rfl,wV e c d (by decide) ⟨x,H,I1,rx,⟨rfl,O⟩,C,λb y=>(G b y).1⟩⟩
 done:=by
  intro X hP hw hK hc i j s σ H E I G st Q;obtain⟨rfl,L,S,q⟩:=Q;have hD  :=q _ _ _ _ (show bq X.prog X.w H s.heap a (.ext L) from I.hok a _ S);let⟨f0,f1,f2,Z,Y,W⟩:=G it (by simp);exact Uy (I.ok.hd hc) st hD λU eb=>⟨rfl,I.turned (λb o y e=>eb b o y e) f0 f1 Z Y W⟩
 self:=λ_ _ _ _ _ st h=>wpAny_pyIter_keyiter st h
def BK(I:Inv X pins d H s)(C:H a=some (.ext k))(u:Rw a k g ep)(lo:(a==yas)=false)(y:Vals xs (g.toList.map (·.key)))(q:R (WR a g ep xs) H):
  yar (model X.prog X.w) X.A (pyIter (.ref a)) (Xi X pins d tg R) X.xe s:=by
 have hD  :=u _ _ _ _ (show bq X.prog X.w H s.heap a (.ext k) from I.hok a _ C);refine ND lo hD ?_;refine⟨_,_,_,_,H,rfl,I.kept λb o e=>zau _ e,Cw a s.heap.objs.size y,⟨_,zaO _ rfl,rfl,rfl⟩,λb x=>?_,q⟩;rw[zaS.mp x];exact I.zA (zcA _) (I.hok.fresh (zcA _))
def Inv.as(I:Inv X pins d H s)(u:Sd (H a))(v:∃q,s.heap.get? a=some q)(new:bq X.prog X.w (upd H a g) s.heap a g):Inv X pins d (upd H a g) s:=
 I.write (x:=a) (e:=a) (h':=s.heap) (t':=s.toks) u (.inl rfl) (λ_ _ _ z=>z) v new
def ju(P:yaj)(W:yak)(o:Obj)(j:List (Key×V))(a:Addr):Heap->Prop:=λh=>h.get? a=some o/\(a==yas)=false/\∃vs,KV j vs/\h.DictOf (bJ P W) a vs
def ju.ok(x:ju P w o kvs a h):bq P w H h a (.ext (ju P w o kvs a)):=by
 refine⟨x,⟨o,x.1⟩,λh1 h2 y e=>⟨e _ y.1,y.2.1,?_⟩⟩;let⟨vs,j,q⟩:=y.2.2;refine⟨vs,j,M6.BL q e⟩
def A4(x:bq P w H h a (.ext (ju d W o kvs g))):g=a:=by
 let⟨y,⟨o1,e⟩,st⟩:=x;apply Classical.byContradiction;intro j;have E:(h.update g λ_=>{cls:=.none}).get? a=some o1:=(zav _ _ j).trans e;have g2  :=zaB (λ_=>{cls:=.none}) y.1 rfl;obtain⟨_,_,vs,_,o2,q,s,k1,k2,C,_⟩:=st h (h.update g λ_=>{cls:=.none}) y λv F=>by simp_all
 simp_all
def ju.raw(x:ju P W o kvs a d):∃es q,(∀j b,Rw a (ju P W o j b) es q)/\Vals (kvs.map λp=>kV p.1) (es.toList.map (·.key)):=by
 obtain⟨h1,_,vs,u,H,es,q,s,F,E,C⟩:=x;rw[h1] at s;cases s;refine⟨es,q,λj b I G L h y=>by
  obtain rfl:=A4 y;refine⟨o,y.1.1,F,E⟩,pV u C.2.1⟩
def NJ(P:yaj)(W:yak)(te:TE):TI:=λy H R=>te y H λx v=>∃a j,x=.ref a/\v a=some (.dK j)/\∀o s u,(∀q b,Rw a (ju P W o q b) s u)->s.size=j.length->R (WR a s u (j.map λp=>kV p.1)) (upd v a (.ext (ju P W o j a)))
def Kv(W:PE X e te):PI X tg e (NJ X.prog X.w te):=by
 intro j s P H R I h;refine cE (W j s P H _ I h) λu Q ⟨x,H1,O,S,a,v,ex,G,q⟩=>?_;subst ex;obtain rfl:u=Value.ref a:=S;obtain⟨z,lo,vs,U,L⟩:=BJ O.hok G;let⟨o,Y,ep0,F,g2,g3,g4⟩:=id L;have y:ju X.prog X.w o v a Q.heap:=⟨F,lo,vs,U,L⟩
 obtain⟨Z,ep,C,E⟩:=y.raw;refine BK (O.as (by rw[G];exact True.intro) ⟨o,F⟩ y.ok) bL (C _ _) lo E (q o Z ep C ?_);have:=E.length;simp_all
def Eo(P:yaj)(W:yak)(u ty:TE):TE:=λq H Q=>u q H λx E=>ty q E λy s=>∃a C o j k v,x=.ref a/\s a=some (.ext (ju P W o j C))/\y=kV k/\eY j k=some v/\Q v s
def F8(ho:PE X d r)(hi:PE X g ty)(hs:DN g):PE X (.Subscript d g pos) (Eo X.prog X.w r ty):=by
 intro j s P H Q I h;refine tK PySem.F.slot_dict_getitem.lookup hs (cE (ho j s P H _ I h) λu Z=>x2_2 λx H1 I1 rx q1=>cE (hi j Z P H1 _ I1 q1) λiv U ⟨y,O,L,ry,a,C,W,q,k,v,ex,e,ey,l,q2⟩=>?_);subst ex ey;obtain rfl:u=Value.ref a:=rx;obtain rfl:=A4 (show bq X.prog X.w O U.heap a (.ext (ju X.prog X.w W q C)) from L.hok a _ e);obtain⟨_,lo,vs,G,Y⟩:=(show bq X.prog X.w O U.heap C (.ext (ju X.prog X.w W q C)) from L.hok C _ e).1;let⟨w',hw,E⟩:=gX.some_of (by rw[<-l];exact G.val k);exact⟨Y.typeIs,wpAny_getItem_of (kQ ry) Y.mapOf hw ⟨v,O,L.tok _,E,q2⟩⟩
end L2
namespace M
open PySem PySem.Spec PyProof.Rows L2 M6
def zZ(a b c:AE):AE:=λj S Q=>a j S λv y=>(∃o s,aX y v.d=.dct o s)/\b j y λE F=>c j F λC x=>∃q u k,aX x v.d=.dct q u/\q.length=u.length/\keyOf E.d=some k/\Q (.dat ((dN q u k).getD C.d)) x
noncomputable def sC(ks vs:List D)(k:D):Option D:=((ks.zip vs).find? λp=>decide (py p.1=py k)).map (·.2)
theorem sF{k:Key}:∀{a:List (Key×V)}{ds:List D},ds.length=a.length->dN (a.map (·.1)) ds k=none->eY a k=none
 |[],ds,_,_=>rfl
 |(j,u)::r,[],h,_=>by simp at h
 |(j,u)::r,d::ds,h,e=>by
  delta dN at e;rw[zcf,zaR,zbO] at e;delta eY;rw[zbO];by_cases o:j=k
  ·simp_all
  ·simp only[o] at e⊢;exact sF (by simpa using h) e
def Kg:∀I H Q,bH K (zZ g r z) I H Q->Ep (bH K g) (bH K r) (bH K z) I H Q:=by
 intro I H Q V;let⟨w,L,S,Qa,ok,env,q,bk⟩:=V;refine⟨w,L,S,_,ok,env,q,.go λr1 S1 v1 Y H1 o E s ⟨⟨ks0,ds0,W⟩,Z⟩=>?_⟩;let⟨g,F,rfl,h1,rfl,h3⟩:=eK E s W;refine⟨g,rfl,.inl ⟨F,.inl h1⟩,Y,L,S1,_,E,env.le o,Z,.go λr2 S2 v2 X H2 j O C q2=>?_⟩;refine⟨X,L,S2,_,O,(env.le o).le j,q2,.go λr3 S3 v3 w3 H3 u nW y=>x3_3 λks ds k U hl P q3=>?_⟩;let⟨a',x,ea,g1,rfl,g3⟩:=eK nW (s.le (j.trans u)) U;cases ea;rw[jg C P];refine⟨eY x k,.inl ⟨x,k,.inl g1,rfl,rfl⟩,?_⟩;cases G:dN (x.map (·.1)) ds k with
 |none=>
  rw[G] at q3;rw[sF (by simp_all) G];exact bk.dat ((o.trans j).trans u) nW y q3
 |some d=>
  rw[G] at q3;let⟨v,e1,e2⟩:=kR g3 G;rw[e1];exact bk.dat ((o.trans j).trans u) nW e2 q3
section
variable {o i f:Expr}
theorem pF(a:X.A.units+1<cLine)(j:GE X o ta)(s:GE X e tb)(q:GE X f tc)(m:M2 X o "get" apos e f cpos):GE X (.Call (.Attribute o "get" apos) [e,f] [] cpos) (zZ ta tb tc):=⟨mE (L2.pF a j.p s.p q.p m) Kg⟩
end
end M
namespace M14
open PySem PySem.Spec PyProof.Rows M6 M8
abbrev E3:=yam×Addr×yai
noncomputable def uQ(ps:List E3):List E3:=ps.foldl (λa p=>storedH a p.1 p.2.1 p.2.2) []
def vg(j:List E3)(k)(a)(v):(storedH j k a v).length<=j.length+1:=by
 delta storedH;split
 ·simp
 simp
def Dw(ps)(p):uQ (ps++[p])=storedH (uQ ps) p.1 p.2.1 p.2.2:=by
 delta uQ;simp
def HX(ps):(uQ ps).length<=ps.length:=by
 have:∀(l j:List E3),(l.foldl (λj p=>storedH j p.1 p.2.1 p.2.2) j).length<=j.length+l.length:=by
  intro l
  induction l with
  |nil=>simp
  |cons a r ih=>intro j;rw[zbJ,zby];have:=ih (storedH j a.1 a.2.1 a.2.2);have:=vg j a.1 a.2.1 a.2.2;lia
 have:=this ps [];simpa[uQ] using this
def sZ(h:Heap)(v:yai)(p:E3):Prop:=∃t o n,v=.ref t/\h.get? t=some o/\o.cls=.type "tuple"/\o.data=.seq #[.ref p.2.1,p.2.2] n/\isKey h p.1 p.2.1
def sZ.at(x:sZ h d g)(e:cX h h'):sZ h' d g:=by
 let⟨t,o,n,h1,h2,a,q,j⟩:=x;refine⟨t,o,n,h1,e t o a h2,a,q,nh e j⟩
def Hx(x:Heap.DictOfH (bg prog w) h d g)(e:∀o,h.get? d=some o->h'.get? d=some o)(kp:cX h h'):Heap.DictOfH (bg prog w) h' d g:=by
 let⟨o,y,C,h1,h2,v,u,s,q⟩:=x;refine⟨o,y,C,e o h1,h2,v,u,λx j=>nh kp (s x j),q⟩
def C7(x:Heap.DictOfH (bg prog w) h d g)(j:Heap.SameBut d h h'):cX h h':=by
 let⟨o,u,v,h1,h2,s,_⟩:=x;refine cX.but h1 (λz=>?_) λc o q e=>(j.2 c q).trans e;rw[h2.1] at z;lia
def zL(P:A.handled=none)(W:A.units+20<cLine)(O:s.heap.get? l=some {cls:=.type "list",data:=.seq its g})(u:its.size=d.length)(I:∀(i:Nat)(v)(p),its[i]? =some v->d[i]? =some p->sZ s.heap v p)(X:d.length<=1000)(h:∀(h')(tk),Heap.DictOfH (bg prog w) h' s.heap.objs.size (uQ d)->(∀b o,s.heap.get? b=some o->h'.get? b=some o)->Q (.ref s.heap.objs.size) {s with heap:=h',toks:=tk}):
  yar (model prog w) A (call (.type "dict") [.ref l]) Q E s:=by
 refine M6.qj (Dc:=λi h=>Heap.DictOfH (bg prog w) h s.heap.objs.size (uQ (d.take i))) (PP:=λv i h=>∃p,d[i]? =some p/\sZ h v p) P O (Heap.DictOfH.new s.heap) Hx (λ⟨p,e,x⟩ k=>⟨p,e,x.at k⟩) (λi v U F z C=>?_) (λi v F=>?_) λh' tk C=>h h' tk (by rw[u,zbu] at C;exact C)
 ·obtain⟨p,a,t,o,n,rfl,L,S,hd,G⟩:=z;refine⟨t,o,_,p.2.2,n,rfl,L,S,hd,λ{E Q} q=>wpAny_dictSet_heap (show A.units+2+10<cLine by lia) G C (λj y H=>q j _ ?_ (λb o=>C7 C H b o) H) ?_⟩
  ·show Heap.DictOfH (bg prog w) j _ (uQ (d.take (i+1)));rw[List.take_succ,a];show Heap.DictOfH (bg prog w) j _ (uQ (d.take i++[p]));rw[Dw];exact y
  ·have h2:=HX (d.take i);rw[zbq] at h2;rw[yaf];lia
 ·have  :=(zae.mp F).1;have a:d[i]? =some d[i]:=zam (by lia);exact⟨_,a,I i v _ F a⟩
def JT(Z:A.units+20<cLine)(W:(d==yas)=false)(v:isKey s.heap k a)(P:s.heap.DictOfH (bg prog w) d g)(hsz:g.length<yag)(C:atKey g k=none->∀h' t,h'.DictOfH (bg prog w) d (storedH g k a q)->Heap.SameBut d s.heap h'->Q q {s with heap:=h',toks:=t})(y:∀p,atKey g k=some p->∀t,Q p.2 {s with toks:=t}):
  yar (model prog w) A (call (.builtin "dict.setdefault") [.ref d,.ref a,q]) Q E s:=by
 refine wpAny_call_entry PySem.F.slot_dict_setdefault P.typeIs PySem.F.entry_dict_setdefault ?_ (PySem.F.args_dict_setdefault_3 _ _ _);refine yaa ?_;refine yaa (wpAny_notOrdered_dict P.typeIs ?_);refine yab ?_;show yar _ _ (if(d==yas)=true then _ else(dictSetDefault d (.ref a) q >>= _)) _ _ s;rw[yIn (by simp_all)];refine yaa ?_;let⟨o,es,Y,H,X,hd,O,L,S⟩:=id P;delta dictSetDefault
 try with_reducible refine yad ?_
 refine yaa ((bg prog w).pyHash (show A.units+1+10<cLine by lia) v (yaa (wpAny_dictFind_heap (show A.units+1+10<cLine by lia) v H hd O L S ?_ ?_)))
 ·intro u;have hnot  :=not_mem_keys_of_get u;refine yaa (wpAny_rule (yaa (wpAny_updateDictKeys (hz:=by have e:=size_of_entries O;lia) H hd (yab (yab ⟨q,rfl,C (atKey_none_of_get u) _ _ ⟨_,_,Y+1,zaB _ H (Obj.isFreed_of_dict (Obj.data_mapDictKeys hd _)),X.mapDictKeys _,Obj.data_mapDictKeys hd _,?_,?_,?_⟩ (Heap.SameBut.update ..)⟩)))))
  ·rw[storedH_new (atKey_none_of_get u)];simp[O,entryOfKey]
  ·rw[storedH_new (atKey_none_of_get u)];intro x G;obtain G|G:=zbE.mp G
   ·exact(bg prog w).keeps (L x G) H hd (Heap.SameBut.update ..)
   ·simp only[zaS] at G;subst G;exact(bg prog w).keeps v H hd (Heap.SameBut.update ..)
  ·rw[storedH_new (atKey_none_of_get u)]
   (simp;grind)
 ·intro j p U;refine yaa (wpAny_dictEntries H hd ?_);rw[entry_at O j,U];exact yaa (wpAny_rule (yab (yab ⟨p.2,rfl,y p (atKey_of_get S U) _⟩)))
end M14
namespace L2
open PySem PySem.Spec PyProof.Rows M6 M14
abbrev X3:=yam×Addr×V
end L2
namespace M
open PySem PySem.Spec PyProof.Rows L2 M6
noncomputable def inter:List (D×D)->List D
 |[]=>[]
 |e::es=>e.1::e.2::inter es
def cy(es:List (D×D)):Prop:=∀e∈es,cD e.1
noncomputable def nD(es:List (D×D))(k:D):Bool:=es.any λe=>decide (py e.1=py k)
noncomputable def kT(es:List (D×D))(k:D):Option D:=(es.find? λe=>decide (py e.1=py k)).map (·.2)
noncomputable def gc(es:List (D×D))(k d:D):List (D×D):=if nD es k=true then es.map (λe=>if py e.1=py k then(e.1,d) else e) else es++[(k,d)]
section
variable {w:Wd}
def vI(h:av K w (d::g::ds) vs):∃x v r,vs=x::v::r/\Rep K w d x/\Rep K w g v/\av K w ds r:=by
 obtain⟨x,_,rfl,h1,v,r,rfl,h2,a⟩:=h;refine⟨x,v,r,rfl,h1,h2,a⟩
end
noncomputable def Dy(ps a:List (D×D)):List (D×D):=ps.foldl (λa p=>gc a p.1 p.2) a
end M
namespace M5
open PySem PySem.Spec PyProof.Rows
def JF(hd:(d==yas)=false)(q:M6.iu s.heap d g ep)(u:(g.size:Int)<2 ^ 63)(h:k (!g.toList.isEmpty) {s with toks:=s.toks+1+1}):yar (model prog w) A (truthy (.ref d)) k E s:=by
 have o:((g.size:Int) != 0)= !g.toList.isEmpty:=by
  obtain⟨l⟩:=g;cases l<;>simp<;>lia
 have key:yar (model prog w) A (runValue (.builtin "len" ⟨[.ref d],[]⟩)) (λr a=>r=.int g.size (s.toks+1)/\k (!g.toList.isEmpty) a) E s:=by
  refine wpAny_runValue (codeAny_builtin entry_len ?_);exact yac (sj (Q:=λr a=>r=.int g.size (s.toks+1)/\k (!g.toList.isEmpty) a) hd q u ⟨rfl,h⟩)
   (λx a v=>by let⟨r,rfl,j⟩:=v;exact j) λ_ _ e=>e
 first
  |refine yaa (wpAny_callSpecial?_none (name:=Str.ofString "__bool__") q.typeIs noBool_dict ?_)
  |refine yaa (yab (yaa (wpAny_callSpecial?_none (name:=Str.ofString "__bool__") q.typeIs noBool_dict ?_)))
 first
  |refine yaa (wpAny_specialOf (name:=Str.ofString "__len__") q.typeIs PySem.F.slot_dict_len.lookup ?_)
  |refine yaa (yab (yaa (wpAny_specialOf (name:=Str.ofString "__len__") q.typeIs PySem.F.slot_dict_len.lookup ?_)))
 first
  |exact yaa (yac key (λr a v=>by let⟨rfl,j⟩:=v;exact yab (o▸j)) λ_ _ e=>e)
  |exact yaa (yab (yaa (yac key (λr a v=>by let⟨rfl,j⟩:=v;exact yab (o▸j)) λ_ _ e=>e)))
end M5
namespace L2
open PySem PySem.Spec PyProof.Rows M6
def Dh{α a:Type}{l:List α}{m:List a}(h:l.length=m.length):l.isEmpty=m.isEmpty:=by
 cases l<;>cases m<;>simp at h⊢
end L2
namespace M
open PySem PySem.Spec PyProof.Rows L2 M6
noncomputable def pG(P:yaj)(W:yak)(o:Obj)(ks:List Key)(ds:List D):MO:=.Hh (λa vs=>ju P W o (ks.zip vs) a) ds
def Tt(ok:Ok K d H S)(r:Rep K d (.loc n) v)(z:S[n]? =some (some (pG P W o g ds))):
  ∃(a j:Addr)(vs:List V),v=.ref a/\d.r n=some a/\H a=some (.ext (ju P W o (g.zip vs) j))/\av K d ds vs:=by
 let⟨a,q,rfl⟩:=r;obtain⟨y,u,k1,k2,x,j,vs,rfl,s⟩:=ok.live n _ z;rw[q] at k1;cases k1;refine⟨a,j,vs,rfl,q,x,s⟩
def NK(P:yaj)(W:yak)(a:AE):AI:=λu S Q=>a u S λr s=>∃n j q,r.d=.loc n/\s[n]? =some (some (.dct j q))/\∀o,Q (j.map kD) (λS=>S[n]? =some (some (pG P W o j q))) (s.set n (some (pG P W o j q)))
def J7:∀L H R,Rq K (NK P W g) L H R->NJ P W (bH K g) L H R:=by
 intro L H R k;let⟨w,δ,S,Qa,ok,env,q,bk⟩:=k;refine⟨w,δ,S,_,ok,env,q,.go λr1 S1 v1 Y H1 Q E x z=>?_⟩;let⟨n,ks,ds,hd,z,Z⟩:=z;rw[hd] at x;let⟨g,j,rfl,h0,h1,rfl,h3⟩:=uF E x z;have ek:(j.map (·.1)).zip (j.map (·.2))=j:=by
  clear h1 h3 z Z
  induction j with
  |nil=>rfl
  |cons p r ih=>simp_all
 refine⟨g,j,rfl,h1,λo es ep hr hsz=>?_⟩;have O:=E.put (o':=pG P W o (j.map (·.1)) ds) (u':=.ext (ju P W o j g)) z h0 ⟨g,j.map (·.2),(by simp_all),h3⟩;have at_:∀{G:Hp}{F:aq}{C:Wd},Y.le C->Ok K C G F->F[n]? =some (some (pG P W o (j.map (·.1)) ds))->∃U,G g=some (.ext U)/\Rw g U es ep:=λle s e=>by
  obtain⟨a1,u,k1,k2,k3,a',bs',rfl,k5⟩:=s.live n _ e;rw[le.r _ _ h0] at k1;cases k1;refine⟨_,k3,hr _ _⟩
 refine bk _ _ _ _ Y _ Q O ⟨λi G F C d le s I e=>⟨?_,at_ le s I⟩,λi G F C d v H2 le s I e y=>?_,λi G F C le s I e=>⟨?_,at_ le s I⟩⟩ (Z o)
 ·have:=(zaf.mp e).1;simp_all
 ·let⟨rfl,y⟩:=y;refine⟨C,.refl,s,?_⟩;rw[zbb,zbb] at e;rw[zbb] at y;cases X:j[i]? with
  |none=>rw[X] at y;cases y
  |some p=>
   rw[X] at y e;cases y;cases e;exact GU p.1
 simp_all
def zY(P:yaj)(W:yak)(a b:AE):AE:=λs S Q=>a s S λx y=>b s y λv u=>∃n o j q k d,x.d=.loc n/\u[n]? =some (some (pG P W o j q))/\j.length=q.length/\keyOf v.d=some k/\dN j q k=some d/\Q (.dat d) u
def Kf:∀C H Q,bH K (zY P W g r) C H Q->Eo P W (bH K g) (bH K r) C H Q:=by
 intro C H Q V;let⟨w,G,S,Qa,ok,env,q,bk⟩:=V;refine⟨w,G,S,_,ok,env,q,.go λr1 S1 v1 X H1 y E j Y=>?_⟩;refine⟨X,G,S1,_,E,env.le y,Y,.go λr2 S2 v2 w2 H2 x u s z=>?_⟩;let⟨n,o,F,ds,k,d,er,U,hl,O,L,q2⟩:=z;rw[er] at j;let⟨g,a',vs,rfl,h0,h1,I⟩:=Tt u (j.le x) U;have Z:=I.length;have e1:(F.zip vs).map (·.1)=F:=List.map_fst_zip (by simp_all);have e2:(F.zip vs).map (·.2)=vs:=List.map_snd_zip (by simp_all);let⟨v,g1,g2⟩:=kR (by rw[e2];exact I) (by rw[e1];exact L);rw[jg s O];refine⟨g,a',o,_,k,v,rfl,h1,rfl,g1,bk.dat (y.trans x) u g2 q2⟩
section
variable {o i:Expr}
def Kw(a:GE X e ta)(q:autoParam (X.prog=P) r0)(j:autoParam (X.w=W) r0):GI X tg e (NK P W ta):=by subst q j;exact⟨mI (L2.Kv a.p) J7⟩
def F9(j:GE X o ta)(q:GE X i tb)(a:DN i)(u:autoParam (X.prog=P) r0)(s:autoParam (X.w=W) r0):GE X (.Subscript o i pos) (zY P W ta tb):=by subst u s;exact⟨mE (L2.F8 j.p q.p a) Kf⟩
def TM:nH X (binaryOp .LShift) (aI MI λi j=>.int (i*2 ^ j.toNat)):=⟨m2 L2.P9 (LN λ_ _ _=>.int)⟩
def TL:nH X (binaryOp .RShift) (aI (λ_ j=>0<=j) λi j=>.int (i / 2 ^ j.toNat)):=⟨m2 L2.P8 (LN λ_ _ _=>.int)⟩
def Gk:nH X (binaryOp .BitAnd) (aI (λ_ _=>True) λi j=>.int (Builtin.bitAnd i j)):=⟨m2 L2.Qm λx y H Q h=>tW x y H Q (LN (g':=λi j=>.int (Builtin.bitAnd i j)) (λ_ _ _=>.int) x y H Q h)⟩
def Gj:nH X (binaryOp .BitOr) (aI (λ_ _=>True) λi j=>.int (Builtin.bitOr i j)):=⟨m2 L2.Tv λx y H Q h=>tW x y H Q (LN (g':=λi j=>.int (Builtin.bitOr i j)) (λ_ _ _=>.int) x y H Q h)⟩
def TQ:Xl X (unaryOp .Invert) (λx S Q=>∃i,x=.int i/\Q (.dat (.int (Builtin.bitNot i))) S):=⟨m1 OC λx H Q h=>by
 let⟨w,d,S,j,ok,a,⟨i,rfl,q⟩,bk⟩:=h;refine⟨i,bP a rfl,bk.dat .refl ok .int q⟩⟩
end
end M
namespace M6
open PySem PySem.Spec PyProof.Rows
theorem Ho{α o:Type}(f:α->o):∀(l:List α)(j),(l.map f).eraseIdx j=(l.eraseIdx j).map f
 |[],j=>by simp
 |a::l,0=>rfl
 |a::l,j+1=>by rw[zcf,zap,zap,zcf,Ho f l j]
section
variable {K:Type}[DecidableEq K]{knd:HeapKind prog w K}
def Ei(I:knd.room A)(q:knd.is s.heap k a)(U:s.heap.DictOfH knd d g)(hsz:g.length<=yag)(y:k ∉ g.map (·.1)->r none {s with toks:=s.toks+knd.draws k})(v:∀(j:Nat)(x:K×Addr×yai),g[j]? =some x->x.1=k->∀h',h'.DictOfH knd d (g.eraseIdx j)->Heap.SameBut d s.heap h'->r (some (entryOfKey knd x)) {s with heap:=h',toks:=s.toks+knd.draws k}):
  yar (model prog w) A (Builtin.Dict.takeOut d (.ref a)) r E s:=by
 let⟨o,X,Y,F,W,hd,C,G,O⟩:=U;delta Builtin.Dict.takeOut
 try with_reducible refine yad ?_
 refine yaa (knd.pyHash I q (yaa (wpAny_dictFind_heap I q F hd C G O ?_ ?_)))
 ·intro H;exact yab (y (not_mem_keys_of_get H))
 ·intro j p P;refine yaa (wpAny_dictEntries F hd ?_);rw[entry_at C j,P];have L:=size_of_entries C;refine yaa (wpAny_updateDictKeys F hd (yab (v j (k,p) P rfl _ ⟨_,_,Y+1,zaB _ F (Obj.isFreed_of_dict (Obj.data_mapDictKeys hd _)),W.mapDictKeys _,Obj.data_mapDictKeys hd _,?_,?_,?_⟩ (Heap.SameBut.update ..))))
  ·obtain⟨l⟩:=X;have C:l=g.map (entryOfKey knd):=C;simp[C,Ho]
  ·intro x S;exact knd.keeps (G x (List.mem_of_mem_eraseIdx S)) F hd (Heap.SameBut.update ..)
  ·exact O.sublist ((List.eraseIdx_sublist g j).map _)
end
theorem V4{K:Type}[DecidableEq K]{v:HeapKind prog w K}{d:Addr}{C:List (K×Addr×yai)}{k:K}{q:yai}(P:∀A':yal,A'.units<=A.units+2->v.room A')(H:(d==yas)=false)(G:v.is s.heap k a)(I:s.heap.DictOfH v d C)(hsz:C.length<=yag)(u:k ∉ C.map (·.1)->∀t,Q q {s with toks:=t})(y:∀(j)(x),C[j]? =some x->x.1=k->∀h' t,h'.DictOfH v d (C.eraseIdx j)->Heap.SameBut d s.heap h'->Q x.2.2 {s with heap:=h',toks:=t}):
  yar (model prog w) A (call (.builtin "dict.pop") [.ref d,.ref a,q]) Q E s:=by
 refine wpAny_call_entry PySem.F.slot_dict_pop I.typeIs PySem.F.entry_dict_pop ?_ (PySem.F.args_dict_pop_3 _ _ _);refine yaa ?_;refine yaa (wpAny_notOrdered_dict I.typeIs ?_);refine yab ?_;let⟨o,X,ep,S,hc,hd,he,W,Z⟩:=id I;refine yaa (wpAny_dictEntries S hd (yaa (yab ?_)));cases hz:X.isEmpty with
 |true=>
  refine yaa (wpAny_rule (yaa (yab ?_)));refine yaa (wpAny_missedRemoval_other H ?_);exact yaa (wpAny_rule (yab ⟨q,rfl,u (by simp_all) _⟩))
 |false=>
  refine yaa (Ei (P _ (by simp)) G I hsz (λL=>?_) λj x U O h' Y sb=>?_)
  ·refine yaa (wpAny_missedRemoval_other H ?_);exact yaa (wpAny_rule (yab ⟨q,rfl,u L _⟩))
  ·exact yaa (wpAny_letGo (yab ⟨x.2.2,rfl,y j x U O h' _ Y sb⟩))
end M6
namespace M6
open PySem PySem.Spec PyProof.Rows PySem.SeqAt PySem.MeetsSeq
open AutoSeq1 (wpAny_loadPart')
theorem CG(l:Addr)(a:Array yai)(n:Nat)(x:yai)(e:yai->Bool)(j:Nat)(P:j<a.size)(Q:e a[j]=true)(k:Nat)(F:a.size<=yag):
  ∀i:Nat,j - i=k->i<=j->(∀m (I:m<a.size),i<=m->m<j->e a[m]=false)->Meets (Builtin.«list.remove.loop» ⟨[.ref l,x,rawInt i],[]⟩)
   (λA R s=>s.heap.get? l=some {cls:=.type "list",dict:=none,data:=.seq a n,slots:=#[]}/\(∀y,y∈a->EqAt A.in1 s y x (e y))/\R (.ok (.ret .none)) {s with heap:=s.heap.update l (Obj.mapSeq λL=>L.eraseIdxIfInBounds j)}):=by
 induction k with
 |zero=>
  intro i O G o prog w A R s h;let⟨q,C,h⟩:=h;have v:i=j:=by lia
  subst v
  wp_walk using wpAny_loadPart' q
  have H:a[(i:Int).toNat]? =some a[i]:=by simp
  rw[H];refine yaa (C _ (Array.getElem_mem P) prog w _ _ ?_);have E:(a.eraseIdxIfInBounds i).size<=yag+1:=zcp (size_erased a _) (Nat.le_succ_of_le F)
  wp_walk using(wpAny_updateSeq q rfl (_hz':=E)),wpAny_loadPart' q
  simpa using h
 |succ k ih=>
  intro i O G o prog w A R s h;let⟨q,C,h⟩:=h;have u:i<a.size:=by lia
  wp_walk using wpAny_loadPart' q
  have H:a[(i:Int).toNat]? =some a[i]:=by simp
  rw[H];refine yaa (C _ (Array.getElem_mem u) prog w _ _ ?_);rw[o i u (zcA _) (by lia)]
  wp_walk
  exact⟨plainId_quiet plain_remove_loop _,codeAny_builtin entry_remove_loop (by
   exact ih (i+1) (by omega) (by lia) (λm I h1 h2=>o m I (by lia) h2) prog w A R _ ⟨q,C,h⟩)⟩
def qW(l)(a)(n)(x)(e:yai->Bool)(j)(F)(u:e a[j]=true)(q:∀m (v),m<j->e a[m]=false)(o:a.size<=yag):
  Meets (Builtin.«list.remove» ⟨[.ref l,x],[]⟩)
   (λA R s=>s.heap.get? l=some {cls:=.type "list",dict:=none,data:=.seq a n,slots:=#[]}/\(∀y,y∈a->EqAt A.in1 s y x (e y))/\R (.ok (.ret .none)) {s with heap:=s.heap.update l (Obj.mapSeq λE=>E.eraseIdxIfInBounds j)}):=by
 intro prog w A R s h;let⟨C,G,h⟩:=h
 wp_walk using wpAny_loadPart' C
 exact⟨plainId_quiet plain_remove_loop _,codeAny_builtin entry_remove_loop (by
  exact CG l a n x e j F u _ o 0 rfl (zcB _) (λm v _ h2=>q m v h2) prog w A R _ ⟨C,G,h⟩)⟩
end M6
namespace L2
open PySem PySem.Spec PyProof.Rows M6
theorem qb{q α:Type}[DecidableEq q](f:α->q):∀(o:List α)(j)(x),o[j]? =some x->(o.map f).Nodup->o.eraseIdx j=o.filter λy=>decide (f y≠f x)
 |[],j,x,h,_=>by rfl
 |a::o,0,x,h,hn=>by
  have h  :=by simpa using h
  subst h;rw[zcf,zbH] at hn;rw[List.filter_cons_of_neg (by simp)];refine(zaK.mpr λy s=>yDt (show f y≠f a from λz=>hn.1 ?_)).symm;simp_all
 |a::o,j+1,x,h,hn=>by
  rw[zcf,zbH] at hn;rw[zap,List.filter_cons_of_pos,qb f o j x h hn.2];exact yDt (show f a≠f x from λz=>hn.1 (by rw[z];exact zcm.mpr ⟨x,zaF h,rfl⟩))
section
variable {o f:Expr}{td ty tx:TE}
def AU(K:yaJ):V->List V->Hp->VK->Prop:=λx vs H Q=>∃(a:Addr)(v:V)(s:List V)(d:yam)(q:List yam)(j:Nat)(c:yam),x=.ref a/\vs=[v]/\H a=some (.lst s)/\jI K H q s/\dJ K H d v/\PySem.SeqAt.shaped d=true/\PyData.canLayAll0 q=true/\
 q[j]? =some c/\PyData.eqv c d=true/\(∀m u,m<j->q[m]? =some u->PyData.eqv u d=false)/\Q .bB (upd H a (.lst (s.eraseIdx j)))
theorem oB:∀{a:List V}{q:List yai}(j),Vals a q->Vals (a.eraseIdx j) (q.eraseIdx j)
 |_,_,j,.nil=>by simpa using Paired.nil
 |_,_,0,.cons r t=>t
 |_,_,j+1,.cons r t=>.cons r (oB j t)
def CV(hr:aW k X.A):DW X "list.remove" (AU X.K):=by
 intro Y s σ H x vs v us Q I rx rv h;let⟨a,v',xs,d,O,j,c,rfl,rfl,Z,h1,h2,h3,h4,hj,hc,P,q⟩:=h;cases rx;let⟨u,rfl,ru⟩:=vals1 rv;let⟨C,n,r,e,hz⟩:=I.lst Z;let⟨as,ra⟩:=I.reads d v' u h2 ru;let⟨bs,W⟩:=I.readsAll O xs C h1 r;have hu:=hr.un;have hm:=PySem.SeqAt.readsAll_map O C bs h4 W;have G:C.length=O.length:=by grind
 have L:j<C.length:=by rw[G];exact(zaf.mp hj).1
 have at_:∀m (E:m<C.length),O[m]? =some (PySem.SeqAt.readOf s.heap C[m]):=λm E=>by
  rw[<-hm,zbb,zam E];rfl
 refine call_meets F.slot_list_remove ⟨_,e,rfl⟩ F.entry_list_remove (F.args_list_remove_2 _ _) (qW a C.toArray n u (λy=>PyData.eqv (PySem.SeqAt.readOf s.heap y) d) j (by simpa using L) ?_ ?_ (by rw[zba,<-r.length];exact hz)) ⟨e,?_,?_⟩
 ·have:=at_ j L;simp_all
 ·intro m U S;exact P m _ S (at_ m (by simpa using U))
 ·exact PySem.SeqAt.items_eqAt W ra h4 (PySem.SeqAt.canLay_of_shaped h3) (PyProof.Rows.room_in_shaped h3 (by lia))
 ·refine⟨.bB,_,I.KY Z e ?_ (oB j r) ?_,rfl,q⟩
  ·simp
  ·exact zcp (List.length_eraseIdx_le ..) hz
end
end L2
namespace M
open PySem PySem.Spec PyProof.Rows L2 M6
noncomputable def BI(ks:List D)(k:D):List D:=ks.filter λj=>decide (py j≠py k)
noncomputable def xu(ks:List Key)(ds:List D)(k:Key):MO:=.dct (ks.filter λj=>decide (j≠k)) (((ks.zip ds).filter λp=>decide (p.1≠k)).map (·.2))
def Ik(a b:AE):AE:=λu S Q=>a u S λC x=>∃n j q,C.d=.loc n/\x[n]? =some (some (.dct j q))/\b u x λy v=>∃o s k d,v[n]? =some (some (.dct o s))/\keyOf y.d=some k/\dN o s k=some d/\Q (.dat d) (v.set n (some (xu o s k)))
theorem xj:∀{a:List (Key×V)}{ds:List D},av K d ds (a.map (·.2))->av K d ((((a.map (·.1)).zip ds).filter λp=>decide (p.1≠k)).map (·.2)) ((nq a k).map (·.2))/\(nq a k).map (·.1)=(a.map (·.1)).filter λj=>decide (j≠k)
 |[],ds,h=>⟨.nil,rfl⟩
 |(j,u)::r,ds,h=>by
  cases ds with
  |nil=>cases h
  |cons x ds=>
   let⟨y,C,v,h1,h2⟩:=h;injection v with e1 e2;subst e1;subst e2;obtain⟨s,q⟩:=xj h2;delta nq at s q⊢;simp only[zcf,zaR];rw[zbr,zbr,zbr];by_cases o:j=k
   ·rw[yIn (by simp[o]),yIn (by simp[o]),yIn (by lia)];exact⟨s,q⟩
   ·rw[yIp (by simp[o]),yIp (by simp[o]),yIp (by simp[o])];refine⟨.cons h1 s,?_⟩;rw[zcf,q]
def Pd:∀F H Q,bH K (Ik g r) F H Q->El (bH K g) (bH K r) F H Q:=by
 intro F H Q zx;let⟨w,G,S,Qa,ok,env,q,bk⟩:=zx;refine⟨w,G,S,_,ok,env,q,.go λr1 S1 v1 Y H1 C x j o=>?_⟩;let⟨n,ks0,ds0,X,W,Z⟩:=o;rw[X] at j;let⟨g,L,rfl,h0,h1,_,_⟩:=uF x j W;refine⟨g,rfl,.inl ⟨_,.inl h1⟩,?_⟩;refine⟨Y,G,S1,_,x,env.le C,Z,.go λr2 S2 v2 w2 H2 y u s o=>?_⟩;let⟨ks,ds,k,d,I,U,P,q2⟩:=o;let⟨a',E,e,g0,g1,rfl,O⟩:=uF u (j.le y) I;cases e;let⟨v,m1,m2⟩:=kR O P;obtain⟨p1,p2⟩:=xj O;refine⟨E,k,v,g1,jg s U,m1,?_⟩;exact bk.dat (C.trans y) (u.put I g0 (o':=xu (E.map (·.1)) ds k) ⟨_,rfl,p2,p1⟩) m2 q2
def B5:AM:=λx q S Q=>∃(n:Nat)(a:List D)(e:D)(j:Nat)(c:D),x=.loc n/\q=[e]/\S[n]? =some (some (.lst a))/\fit e=true/\fit (.lst a)=true/\a[j]? =some c/\PyData.eqv (py c) (py e)=true/\(∀m o,m<j->a[m]? =some o->PyData.eqv (py o) (py e)=false)/\
 Q (.dat .bB) (S.set n (some (.lst (a.eraseIdx j))))
theorem oV:∀{ds:List D}{a:List V}(j:Nat),av K g ds a->av K g (ds.eraseIdx j) (a.eraseIdx j)
 |[],a,j,h=>by subst h;simp[av]
 |d::ds,a,0,h=>by
  let⟨x,r,rfl,h1,h2⟩:=h;exact h2
 |d::ds,a,j+1,h=>by
  let⟨x,r,rfl,h1,h2⟩:=h;exact .cons h1 (oV j h2)
section
variable {o f:Expr}{k:Nat}
def Kx(a:GE X o ta)(j:GE X e tb)(m:M1 X o "pop" apos e cpos):GE X (.Call (.Attribute o "pop" apos) [e] [] cpos) (Ik ta tb):=
 ⟨mE (L2.F7 a.p j.p m) Pd⟩
def wD(W:aW k X.A):VC X "list.remove" B5:=⟨mM (X:=X) (t:=AU X.K) (CV W) λx xs H Q h=>by
 let⟨w,d,ds,S,Qa,ok,U,P,⟨n,E,e,j,c,rfl,rfl,I,f1,y,Z,h1,h2,q⟩,bk⟩:=h;let⟨a,F,rfl,ha,hH,u⟩:=zg ok U I;let⟨v,rfl,O⟩:=jz P;have C:aX S e=e:=tO (by delta fit at f1;simp_all);let⟨L,G⟩:=eT ok O (by simp_all);rw[C] at L G;have hp  :=by
  delta fit at y;rw[zbB] at y;simpa[b7] using y.1
 have e3:=kX ok.base E F hp u;refine⟨a,v,F,py e,gb E,j,py c,rfl,rfl,hH,e3,L,G,wY y,?_,h1,λm c' Y s=>?_,bk.dat .refl (ok.put I ha (ko (oV j u))) .bB q⟩
 ·rw[tX,zbb,Z];rfl
 ·rw[tX,zbb] at s;cases z:E[m]? with
  |none=>simp_all
  |some c2=>rw[z] at s;cases s;exact h2 m c2 Y z⟩
end
end M
namespace L2
open PySem PySem.Spec PyProof.Rows
noncomputable def XN(C:Addr)(j:Option Addr)(x:Addr):HO:=.ext λh=>∃a:Addr,h.get? x=some (PySem.W.Uv C j #[.ref a,.none,.none,.none,.bool false,.none])
noncomputable abbrev Cx.at(X:Cx)(e:yai):Cx:={X with A:=X.A.mark (some e),calm:=false,xe:=λ_ _=>False}
end L2
namespace M
open PySem PySem.Spec PyProof.Rows L2
def J4(le:g.le k)(f:∀v,Rep K g (.loc m) v->Rep K k (.lst ds) v)(h1:Rep K g d q):Rep K k (sb m (.lst ds) d) q:=by
 cases d with
 |loc n=>
  show Rep K k (if n=m then _ else _) q;by_cases j:n=m
  ·rw[yIp j];subst j;exact f q h1
  ·rw[yIn j];exact h1.le le
 |_=>exact h1.le le
end M
namespace M
open PySem L2
structure At(X:Cx)(pins:List (Addr×Obj))(σ:St)(H:Hp)(s:yah)(w:Wd)(δ:aV)(S:aq):Prop where
 i:Inv X pins σ H s
 k:Ok X.K w H S
 e:fJ X.K w δ σ
section
variable {σ:St}{w:Wd}{es:List Expr}
def Bh(X:Cx)(a:List (Addr×Obj))(σ:St)(w:Wd)(j:AK)(Q:yai->yah->Prop):Prop:=∀{u s' w' v H' r S'},w.le w'->Inv X a σ H' s'->Ok X.K w' H' S'->lq X.K w' H' S' r v->RelV v u->j r S'->Q u s'
def BhS(X:Cx)(a:List (Addr×Obj))(w:Wd)(j:aV->aq->Prop)(Q:Flow->yah->Prop):Prop:=∀{s' w' σ' H' δ' S'},w.le w'->At X a σ' H' s' w' δ' S'->j δ' S'->Q .next s'
theorem Bh.dat(b:Bh X pins σ w g Q)(l:w.le F)(i:Inv X pins σ H' z)(k:Ok X.K F H' S')(r:Rep X.K F d v)(s:RelV v u)(q:g (.dat d) S'):Q u z:=b (r:=.dat d) l i k r s q
def GE.of(h:∀{j σ H s w δ S o Q},At X j σ H s w δ S->d δ S o->Bh X j σ w o Q->yar (model X.prog X.w) X.A (eval e X.env) Q X.xe s):GE X e d:=
 ⟨λj s σ H Q I z=>by
  let⟨w,δ,S,o,ok,env,q,bk⟩:=z;exact h ⟨I,ok,env⟩ q λl i k r u q=>⟨_,_,i,u,bk _ _ _ _ _ l k r q⟩⟩
def GE.new(h:GE X e d)(A:At X pins σ H s w δ S)(q:d δ S g)(f:∀{u y j v H' r o},w.le j->At X pins σ H' y j δ o->lq X.K j H' o r v->RelV v u->g r o->Q u y):yar (model X.prog X.w) X.A (eval e X.env) Q X.xe s:=
 cE (h.p pins s σ H (λv H'=>∃j r o,w.le j/\Ok X.K j H' o/\lq X.K j H' o r v/\g r o) A.i ⟨w,δ,S,g,A.k,A.e,q,λr o v j H' l k F q=>⟨j,r,o,l,k,F,q⟩⟩) λu y z=>by
  obtain⟨v,H',i,C,j,r,o,l,k,E,q⟩:=z;exact f l ⟨i,k,A.e.le l⟩ E C q
def GE.go(h:GE X e d)(A:At X pins σ H s w δ S)(q:d δ S g)(f:∀{u s' w' v H' r S'},w.le w'->At X pins σ H' s' w' δ S'->Rep X.K w' r.d v->RelV v u->g r S'->Q u s'):yar (model X.prog X.w) X.A (eval e X.env) Q X.xe s:=
 h.new A q λl j r y q=>by
  let⟨E,o,k2,C⟩:=freeze j.k r;exact f (l.trans o) ⟨j.i,k2,j.e.le o⟩ C y q
def GT.of(h:∀{j σ H s w δ S o Q},At X j σ H s w δ S->d δ S o->(∀{b s' w' H' S'},w.le w'->Inv X j σ H' s'->Ok X.K w' H' S'->o b S'->Q b s')->yar (model X.prog X.w) X.A (isTrue e X.env (eval e X.env)) Q X.xe s):GT X e d:=
 ⟨λj s σ H Q I z=>by
  let⟨w,δ,S,o,ok,env,q,bk⟩:=z;exact h ⟨I,ok,env⟩ q λl i k q=>⟨_,i,bk _ _ _ _ l k q⟩⟩
def GS.of(h:∀{j σ H s w δ S D Q},At X j σ H s w δ S->d D δ S->BhS X j w D.nx Q->yar (model X.prog X.w) X.A (exec st X.env) Q X.xe s):GS X st d:=
 ⟨λj s σ H D I z=>by
  let⟨w,δ,S,o,ok,env,q,bk⟩:=z;exact h ⟨I,ok,env⟩ q λl A q=>⟨_,_,A.i,bk.nx _ _ _ _ _ l A.k A.e q⟩⟩
def GA.go(h:GA X es d)(A:At X pins σ H s w δ S)(q:d δ S g)(f:∀{us y j vs H' ds o},w.le j->At X pins σ H' y j δ o->av X.K j ds vs->Vals vs us->g ds o->J us y):yar (model X.prog X.w) X.A (spliced (yau pos (yao es X.env))) J X.xe s:=
 cE (h.p pos pins s σ H (λvs H'=>∃j ds o,w.le j/\Ok X.K j H' o/\av X.K j ds vs/\g ds o) A.i ⟨w,δ,S,g,A.k,A.e,q,λds o vs j H' l k F q=>⟨j,ds,o,l,k,F,q⟩⟩) λu y z=>by
  obtain⟨v,H',i,C,j,r,o,l,k,E,q⟩:=z;exact f l ⟨i,k,A.e.le l⟩ E C q
def s9.of(h:∀{j σ H s w S ds vs o u Q},Inv X j σ H s->Ok X.K w H S->av X.K w ds vs->Vals vs o->g ds S u->Bh X j σ w u Q->yar (model X.prog X.w) X.A (call d o) Q X.xe s):s9 X d g:=
 ⟨λj s σ H x o Q I r z=>by
  let⟨w,ds,S,u,ok,rep,q,bk⟩:=z;exact h I ok rep r q λl i k r v q=>⟨_,_,i,v,bk _ _ _ _ _ l k r q⟩⟩
def nH.of(h:∀{j σ H s w S d e x y v u o Q},Inv X j σ H s->Ok X.K w H S->Rep X.K w d x->Rep X.K w e y->RelV x v->RelV y u->J d e S o->Bh X j σ w o Q->yar (model X.prog X.w) X.A (g v u) Q X.xe s):nH X g J:=
 ⟨λj s σ H x y v u Q I F E z=>by
  let⟨w,d,e,S,o,ok,L,G,q,bk⟩:=z;exact h I ok L G F E q λl i k r C q=>⟨_,_,i,C,bk _ _ _ _ _ l k r q⟩⟩
def arg1(h:av K w [d] vs)(r:Vals vs us):∃v u,us=[u]/\Rep K w d v/\RelV v u:=by
 let⟨v,_,rfl,h,rfl⟩:=h;cases r with
 |cons r t=>cases t;refine⟨v,_,rfl,h,r⟩
end
end M
namespace L2
open PySem PySem.Spec PyProof.Rows M6 M14
def KP:List yam->List V->List E3->Prop
 |[],vs,ys=>vs=[]/\ys=[]
 |k::ks,vs,ys=>∃b v j u a,vs=.ref b::v::j/\ys=(k,b,u)::a/\RelV v u/\KP ks j a
def gA(W:yak)(po:Option Obj)(ks:List yam)(a:Addr)(vs:List V):Heap->Prop:=λh=>(a==yas)=false/\(∀o,po=some o->h.get? a=some o)/\∃o q s,∃j:List E3,h.get? a=some o/\o.ExactDict/\o.data=Data.dict q s/\
 q.toList=j.map (λy=>({hash:=bO W y.1,key:=.ref y.2.1,val:=y.2.2}:yav))/\(j.map (·.1)).Nodup/\KP ks vs j
def gA.ok(x:gA W po d a vs h):bq P w H h a (.ext (gA W po d a vs)):=
 ⟨x,by obtain⟨_,_,o,_,_,_,e,_⟩:=x;exact⟨o,e⟩,λh1 h2 y e=>by
  obtain⟨z,p,o,s,u,j,h1,r⟩:=y;refine⟨z,λo q=>e o (p o q),o,s,u,j,e o h1,r⟩⟩
def gA.own(x:bq P w H h a (.ext (gA W po g d vs))):d=a:=by
 let⟨y,⟨o,e⟩,st⟩:=x;apply Classical.byContradiction;intro j;obtain⟨z,p,C,I,L,v,h1,r⟩:=id y;have G:(h.update d λ_=>{cls:=.none}).get? a=some o:=(zav _ _ j).trans e;have g2  :=zaB (λ_=>{cls:=.none}) h1 rfl;obtain⟨_,_,o2,s,u,q,k1,k2,F,_⟩:=st h (h.update d λ_=>{cls:=.none}) y λE O=>by simp_all
 simp_all
end L2
namespace M
open PySem PySem.Spec PyProof.Rows L2 M6 M14
noncomputable def GP(es:List (D×D)):List yam:=es.map λe=>py e.1
noncomputable def hO(W:yak)(po:Option Obj)(es:List (D×D)):MO:=.Hh (gA W po (GP es)) (inter es)
inductive RG(K:yaJ)(w:Wd):List (D×D)->List V->List E3->Prop
 |nil:RG K w [] [] []
 |cons {e:D×D}{es:List (D×D)}{b:Addr}{v:V}{u:yai}{vs:List V}{ys:List E3} (h1:Rep K w e.1 (.ref b)) (h2:Rep K w e.2 v) (h3:RelV v u) (t:RG K w es vs ys):RG K w (e::es) (.ref b::v::vs) ((py e.1,b,u)::ys)
section
variable {w w':Wd}{es:List (D×D)}{vs:List V}{ys:List E3}
theorem RG.of:∀{es:List (D×D)}{vs:List V}{ys:List E3},av K w (inter es) vs->KP (GP es) vs ys->RG K w es vs ys
 |[],_,_,_,⟨rfl,rfl⟩=>.nil
 |e::es,_,_,h,g=>by
  let⟨b,v,j,u,a,rfl,rfl,r,t⟩:=g;obtain⟨x,_,q,h1,y,_,rfl,h2,o⟩:=h;cases q;exact .cons h1 h2 r (.of o t)
def RG.to(g:RG K w es vs ys):av K w (inter es) vs/\KP (GP es) vs ys:=by
 induction g with
 |nil=>refine⟨.nil,rfl,rfl⟩
 |cons h1 h2 h3 t ih=>exact⟨.cons h1 (.cons h2 ih.1),⟨_,_,_,_,_,rfl,rfl,h3,ih.2⟩⟩
theorem RG.le(l:w.le w')(g:RG K w es vs ys):RG K w' es vs ys:=by
 induction g with
 |nil=>exact .nil
 |cons h1 h2 h3 t ih=>exact .cons (h1.le l) (h2.le l) h3 ih
def RG.len(g:RG K w es vs ys):ys.length=es.length:=by
 induction g with
 |nil=>rfl
 |cons h1 h2 h3 t ih=>simp[ih]
def RG.refs(g:RG K w es vs ys):av K w (es.map (·.1)) (ys.map λy=>V.ref y.2.1):=by
 induction g with
 |nil=>exact .nil
 |cons h1 h2 h3 t ih=>exact .cons h1 ih
def RG.find(k)(g:RG K w es vs ys):(kT es k=none/\atKey ys (py k)=none/\nD es k=false)∨∃d v p,kT es k=some d/\atKey ys (py k)=some p/\nD es k=true/\Rep K w d v/\RelV v p.2:=by
 delta kT atKey nD
 induction g with
 |nil=>exact .inl ⟨rfl,rfl,rfl⟩
 |@cons e es b v u vs ys h1 h2 h3 t ih=>
  rw[zbO,zbO,zce];by_cases h:py e.1=py k
  ·simp only[h];exact .inr ⟨_,_,_,rfl,rfl,rfl,h2,h3⟩
  ·simpa only[h,decide_false,Bool.false_or] using ih
def RG.has(k)(g:RG K w es vs ys):(atKey ys (py k)).isSome=nD es k:=by
 rcases g.find k with⟨_,j,a⟩|⟨_,_,_,_,j,a,_⟩<;>rw[j,a]<;>rfl
def RG.app(g:RG K w es vs ys)(g':RG K w es' d k):RG K w (es++es') (vs++d) (ys++k):=by
 induction g with
 |nil=>exact g'
 |cons h1 h2 h3 t ih=>exact .cons h1 h2 h3 ih
def RG.put(q:Rep K w k (.ref r))(hd:Rep K w d v)(o:RelV v u)(g:RG K w es vs ys):∃a,RG K w (gc es k d) a (storedH ys (py k) r u):=by
 delta storedH gc;rw[g.has k];split
 ·rename_i s;clear q s
  induction g with
  |nil=>exact⟨_,.nil⟩
  |@cons e es r v u vs ys h1 h2 h3 t j=>
   let⟨a,j⟩:=j;rw[zcf,zcf];by_cases h:py e.1=py k
   ·rw[yIp h];delta putAt;rw[yIp h];exact⟨_,.cons h1 hd o j⟩
   ·rw[yIn h];delta putAt;rw[yIn h];exact⟨_,.cons h1 h2 h3 j⟩
 ·exact⟨_,g.app (.cons q hd o .nil)⟩
noncomputable def qe(es:List (D×D))(k:D):List (D×D):=es.filter λe=>decide (py e.1≠py k)
def RG.drop(k)(g:RG K w es vs ys):∃a,RG K w (qe es k) a (ys.filter λy=>decide (y.1≠py k)):=by
 delta qe
 induction g with
 |nil=>exact⟨_,.nil⟩
 |@cons e es b v u vs ys h1 h2 h3 t j=>
  let⟨a,j⟩:=j;rw[zbr,zbr];by_cases h:py e.1=py k
  ·simp only[h,ne_eq];exact⟨_,j⟩
  ·simp only[h,ne_eq];exact⟨_,.cons h1 h2 h3 j⟩
end
section
variable {σ:L2.St}{w:Wd}{es:List (D×D)}{vs:List V}{ys:List E3}{d:D}
theorem Rep.loc(h:w.r n=some g):Rep K w (.loc n) (.ref g):=by refine⟨g,h,rfl⟩
theorem RelV.ref(a):RelV (.ref a) (.ref a):=rfl
def qX(I:Inv X pins σ H s)(k:Ok X.K w H S)(r:Rep X.K w d v)(a:RelV v u)(g:cD d):∃b,v=.ref b/\u=.ref b/\isKey s.heap (py d) b:=by
 let⟨b,rfl,j⟩:=wU k r g;refine⟨b,rfl,a,I.key g.2.1 g.2.2.1 j⟩
def RG.keys(I:Inv X pins σ H s)(k:Ok X.K w H S)(g:RG X.K w es vs ys):cy es->∀y∈ys,isKey s.heap y.1 y.2.1:=by
 induction g with
 |nil=>exact λ_ y h=>by cases h
 |cons h1 h2 h3 t ih=>
  intro j y a;obtain rfl|a:=zcd.mp a
  ·let⟨b,e,_,x⟩:=qX I k h1 rfl (j _ (by simp));cases e;exact x
  ·exact ih (λe o=>j e (by simp[o])) y a
structure GD(X:Cx)(H:Hp)(s:yah)(w:Wd)(n:Nat)(po:Option Obj)(es:List (D×D))(a:Addr)(vs:List V)(ys:List E3):Prop where
 r:w.r n=some a
 h:H a=some (.ext (gA X.w po (GP es) a vs))
 g:RG X.K w es vs ys
 lo:(a==yas)=false
 p:∀o,po=some o->s.heap.get? a=some o
 d:Heap.DictOfH (bg X.prog X.w) s.heap a ys
def gd(I:Inv X pins σ H s)(k:Ok X.K w H S)(r:Rep X.K w (.loc n) v)(y:RelV v u)(z:S[n]? =some (some (hO X.w po es)))(E:cy es):∃a vs ys,u=.ref a/\GD X H s w n po es a vs ys:=by
 let⟨a,q,rfl⟩:=r;obtain⟨W,x,k1,_,j,Y,vs,rfl,C⟩:=k.live n _ z;rw[q] at k1;cases k1;have ob  :=I.hok a _ j;obtain rfl:=gA.own ob;obtain⟨⟨lo,p,o,fs,U,ys,Q,P,O,L,G,F⟩,_⟩:=ob;have g:=RG.of C F;refine⟨_,vs,ys,y,q,j,g,lo,p,o,fs,U,Q,P,O,L,g.keys I k E,G⟩
def NQ(lo:(a==yas)=false)(g:KP (GP es) vs ys)(d:Heap.DictOfH (bg X.prog X.w) h a ys):gA X.w none (GP es) a vs h:=by
 let⟨q,fs,x,v,u,s,o,_,j⟩:=d;refine⟨lo,λ_ q=>(by cases q),q,fs,x,ys,v,u,s,o,j,g⟩
theorem GD.put{t:Nat}{o:List V}{j:List E3}(x:GD X H s w n po es a vs ys)(I:Inv X pins σ H s)(k:Ok X.K w H S)(z:S[n]? =some (some (hO X.w po es)))(g':RG X.K w es' o j)(u:Heap.DictOfH (bg X.prog X.w) h' a j)(v:Heap.SameBut a s.heap h'):
  ∃H',Inv X pins σ H' {s with heap:=h',toks:=t}/\Ok X.K w H' (S.set n (some (hO X.w none es'))):=by
 have nn:=NQ x.lo g'.to.2 u;let⟨q,_,_,y,_⟩:=u;refine⟨_,oj I (by rw[x.h];exact True.intro) v ⟨q,y⟩ nn.ok,k.put z x.r ⟨a,o,rfl,g'.to.1⟩⟩
def Hi(I:Inv X pins σ H s)(k:Ok X.K w H S)(kp:∀b o,s.heap.get? b=some o->h'.get? b=some o)(g:RG X.K w es vs ys)(d:Heap.DictOfH (bg X.prog X.w) h' s.heap.objs.size ys):
  ∃H',Inv X pins σ H' {s with heap:=h',toks:=q}/\Ok X.K w H' S/\lq X.K w H' S (.new (hO X.w none es)) (.ref s.heap.objs.size):=by
 have hp  :=I.hok.fresh (zcA _);refine⟨_,I.laid kp (zcA _) (NQ (beq_eq_false_iff_ne.mpr (Ne.symm (zco I.big))) g.to.2 d).ok,k.alloc hp,k.fresh hp ⟨_,vs,rfl,g.to.1⟩⟩
def GD.raw(x:GD X H s w n po es a vs ys):∃fs j,iu s.heap a fs j/\(fs.toList.map (·.key))=ys.map (λy=>Value.ref y.2.1)/\fs.size=es.length:=by
 obtain⟨q,fs,j,C,v,u,o,_,E⟩:=x.d;have e:=congrArg zcz o;rw[zbF,x.g.len] at e;refine⟨fs,j,⟨q,C,v,u⟩,by rw[o,zcn];rfl,by simpa using e⟩
end
def sY(W:yak):AE:=λ_ S Q=>Q (.new (hO W none [])) S
def qw(W:yak)(a b c:AE):AS:=λD j S=>c j S λu y=>a j y λv x=>b j x λq s=>∃n o,v.d=.loc n/\s[n]? =some (some (hO W none o))/\cD q.d/\cy o/\o.length<100000/\D.nx j (s.set n (some (hO W none (gc o q.d u.d))))
def Ih(W:yak)(a b:AE):AE:=λo S Q=>a o S λu v=>b o v λq s=>∃n po j d,u.d=.loc n/\s[n]? =some (some (hO W po j))/\cD q.d/\cy j/\kT j q.d=some d/\Q (.dat d) s
def L8(W:yak)(t:Nat->D->R->aq->AK->Prop)(a b c:AE):AE:=λj S Q=>a j S λv q=>∃n po o,v.d=.loc n/\q[n]? =some (some (hO W po o))/\cy o/\b j q λu y=>c j y λs x=>t n u.d s x Q
def qx(W:yak):AE->AE->AE->AE:=L8 W λn k r S Q=>∃po a,S[n]? =some (some (hO W po a))/\cD k/\cy a/\Q (.dat ((kT a k).getD r.d)) S
def uX(W:yak):AE->AE->AE->AE:=L8 W λn k r S Q=>∃a m,r=.new m/\S[n]? =some (some (hO W none a))/\cD k/\cy a/\a.length<100000/\
 (∀d,kT a k=some d->Q (.dat d) S)/\(kT a k=none->Q (.dat (.loc S.length)) (zcG (S++[some m]) n (some (hO W none (gc a k (.loc S.length))))))
def Oc(W:yak):AE->AE->AE->AE:=L8 W λn k r S Q=>∃a,S[n]? =some (some (hO W none a))/\cD k/\cy a/\a.length<100000/\Q (.dat ((kT a k).getD r.d)) (S.set n (some (hO W none (qe a k))))
def RE(W:yak)(a:Bool):A2:=λx y S Q=>∃n po j,y=.loc n/\S[n]? =some (some (hO W po j))/\cD x/\cy j/\Q (.dat (.bl (a != nD j x))) S
def iHc(W:yak)(a:AE):AI:=λs S Q=>a s S λr q=>∃n po j,r.d=.loc n/\q[n]? =some (some (hO W po j))/\cy j/\∀o,Q (j.map (·.1)) (λS=>S[n]? =some (some (hO W (some o) j))) (q.set n (some (hO W (some o) j)))
def Ob(W:yak)(a:AE):AT:=λq S Q=>a q S λr o=>∃n po j,r.d=.loc n/\o[n]? =some (some (hO W po j))/\cy j/\j.length<=100000/\Q (!j.isEmpty) o
def RD(W:yak):AN:=λj S Q=>∃n po a,j=[.loc n]/\S[n]? =some (some (hO W po a))/\cy a/\a.length<=100000/\Q (.new (.lst (a.map (·.1)))) S
def U6(W:yak):AN:=λj S Q=>∃n po a,j=[.loc n]/\S[n]? =some (some (hO W po a))/\cy a/\a.length<=100000/\Q (.dat (.int a.length)) S
def RH(W:yak):AN:=λj S Q=>∃d,∃a:List (D×D),j=[d]/\aX S d=.lst (a.map λp=>.tup [p.1,p.2])/\cy a/\a.length<=1000/\Q (.new (hO W none (Dy a []))) S
structure Vd(b:Bool)(ks:List D):Prop where
 good:∀k∈ks,cD k
 fst:∀k∈ks,∃p r,Fs b p/\py k=PyData.tuple (p::r)
 cmp:∀k∈ks,∀l∈ks,b8 (py k) (py l)=true
def B7.to(g:B7 d):Vd true d:=⟨g.good,λk a=>by
 let⟨p,r,e⟩:=g.fst k a;refine⟨_,r,.inr ⟨rfl,p,rfl⟩,e⟩,g.cmp⟩
def Rz(W:yak):AN:=λq S Q=>∃d j b,q=[d]/\(aX S d=.lst j∨∃n po o,d=.loc n/\S[n]? =some (some (hO W po o))/\j=o.map (·.1))/\Vd b j/\j.length<64/\∀a:List D,a.Perm j->OB a->Q (.new (.lst a)) S
section
variable {o i f:Expr}{W:yak}{tc:AE}
def fO(j:autoParam (X.w=W) r0):GE X (.Dict [] [] pos) (sY W):=by
 subst j;exact .of λ{pins σ H s w δ S Qa Q} A q b=>wpAny_Dict_empty (by
  obtain⟨v,u,a,r⟩:=Hi A.i A.k (λ_ _ q=>zau _ q) .nil (Heap.DictOfH.new s.heap);exact b .refl u a r rfl q)
def fM(S:aW j X.A)(U:GE X o ta)(Y:GE X i tb)(P:GE X value tc)(Q:yat value (some (.Subscript o i pos')) pos.line X.env=pure false)(Z:autoParam (X.w=W) r0):GS X (.Assign [.Subscript o i pos'] value pos) (qw W ta tb tc):=by
 subst Z;refine .of λA h b=>wpAny_Assign_Subscript (P.go A h λL A1 H v1 I=>U.go A1 I λC A2 y v2 q2=>Y.go A2 q2 λu s x G z=>?_) Q;let⟨n,es,E,v,g1,g2,hz,q⟩:=z;rw[E] at y;let⟨a,vs,ys,rfl,g⟩:=gd s.i s.k (y.le u) v2 v g2;let⟨c,rfl,rfl,kk⟩:=qX s.i s.k x G g1;refine wpAny_setItem_heap (hsz:=by rw[g.g.len,yaf];lia) (show X.A.units+1+10<cLine by have:=S.units;lia) kk g.d λh' d' sb=>?_;let⟨F,g'⟩:=g.g.put x (H.le (C.trans u)) v1;obtain⟨H',I',O⟩:=g.put s.i s.k v g' d' sb;exact b ((L.trans C).trans u) ⟨I',O,s.e⟩ q
def Ba(I:aW j X.A)(L:GE X o ta)(O:GE X i tb)(H:DN i)(P:autoParam (X.w=W) r0):GE X (.Subscript o i pos) (Ih W ta tb):=by
 subst P;refine .of λA h b=>tK PySem.F.slot_dict_getitem.lookup H (L.go A h λG A1 s v1 E=>O.go A1 E λu A2 C v2 z=>?_);let⟨n,po,es,d,y,x,S,Q,l,q⟩:=z;rw[y] at s;let⟨a,vs,ys,rfl,g⟩:=gd A2.i A2.k (s.le u) v1 x Q;let⟨c,rfl,rfl,kk⟩:=qX A2.i A2.k C v2 S;rcases g.g.find _ with⟨e,_⟩|⟨d',v,p,e1,Z,_,Y,U⟩
 ·rw[e] at l;cases l
 ·rw[e1] at l;cases l;exact⟨g.d.typeIs,wpAny_getItem_heap (show X.A.units+1+10<cLine by have:=I.units;lia) kk g.d Z (b.dat (G.trans u) (A2.i.tok _) A2.k Y U q)⟩
def Qu(u:M2 X o k apos e f cpos)(h1:Slot "dict" k z)(h2:typeOf (.builtin z)=pure (.type "method_descriptor"))(ho:GE X o ta)(he:GE X e tb)(hf:GE X f tc)(h:∀{pins σ H s w n d r S Qa Q a v2 u2 j u3},Inv X pins σ H s->Ok X.K w H S->w.r n=some a->Rep X.K w d v2->RelV v2 u2->lq X.K w H S r j->RelV j u3->F n d r S Qa->Bh X pins σ w Qa Q->yar (model X.prog X.w) X.A (call (.builtin z) [.ref a,u2,u3]) Q X.xe s):GE X (.Call (.Attribute o k apos) [e,f] [] cpos) (L8 X.w F ta tb tc):=
 .of λA q b=>by
  refine wpAny_Call_method u.base u.few u.line PySem.F.plainAttrs_dict h1 h2 (ho.go A q λZ A1 y v1 v=>?_);let⟨n,po,es,P,O,ge,v⟩:=v;rw[P] at y;let⟨a,vs,ys,rfl,g⟩:=gd A1.i A1.k y v1 O ge;obtain⟨C,_,_,I,G,_⟩:=g.d;refine⟨⟨C,I,G.1⟩,λb q=>by cases q;refine⟨C,I,G.2.1⟩,?_⟩;rw[u.trees];refine zaw rfl (zaH (zaZ (he.go A1 v λE A2 Y v2 q2=>zaZ (hf.new A2 q2 λx L U j q3=>zbp ?_))));exact h L.i L.k ((E.trans x).r _ _ g.r) (Y.le x) v2 U j q3 λl=>b (Z.trans (E.trans (x.trans l)))
def kG(G:aW j X.A)(H:GE X o ta)(O:GE X e tb)(L:GE X f tc)(m:M2 X o "get" apos e f cpos)(P:autoParam (X.w=W) r0):GE X (.Call (.Attribute o "get" apos) [e,f] [] cpos) (qx W ta tb tc):=by
 subst P;refine Qu m PySem.F.slot_dict_get PySem.F.type_dict_get H O L λI k Q E v2 u C q b=>?_;let⟨po,es,z,U,S,q⟩:=q;let⟨w2,s,k,u⟩:=freeze k u;let⟨a,vs,ys,Y,g⟩:=gd I k (Rep.loc (s.r _ _ Q)) (RelV.ref _) z S;cases Y;let⟨c,rfl,rfl,kk⟩:=qX I k (E.le s) v2 U;refine call_meetsIn PySem.F.slot_dict_get g.d.typeIs PySem.F.entry_dict_get (PySem.F.args_dict_get_3 _ _ _) (meetsH_dict_get_default (bg X.prog X.w) _ c g.lo _) ⟨show X.A.units+1+10<cLine by have:=G.units;lia,_,_,kk,g.d,?_⟩;rcases g.g.find _ with⟨y,x,_⟩|⟨d,v,p,y,x,_,e3,Z⟩<;>rw[y] at q<;>rw[x]
 ·exact b.dat s (I.tok _) k u C q
 ·exact b.dat s (I.tok _) k e3 Z q
def F6(hr:aW j X.A)(ho:GE X o ta)(he:GE X e tb)(hf:GE X f tc)(m:M2 X o "setdefault" apos e f cpos)(hW:autoParam (X.w=W) r0):GE X (.Call (.Attribute o "setdefault" apos) [e,f] [] cpos) (uX W ta tb tc):=by
 subst hW;refine Qu m PySem.F.slot_dict_setdefault PySem.F.type_dict_setdefault ho he hf λ{pins σ H s w n d r S Qa Q a v2 u2 y u3} I k h0 G v2 Y y q b=>?_;let⟨es,m,rfl,z,g1,g2,hz,Z,q2⟩:=q;let⟨a,vs,ys,ea,g⟩:=gd I k (Rep.loc (h0)) (RelV.ref _) z g2;cases ea;let⟨c,rfl,rfl,kk⟩:=qX I k G v2 g1;refine JT (by have:=hr.units;lia) g.lo kk g.d (by rw[g.g.len,yaf];lia) (λO h' t d' hs=>?_) λp L t=>?_
 ·let⟨w4,u,k4,E⟩:=store k Y;let⟨U,g'⟩:=(g.g.le u).put (G.le u) E y;have P:(S++[some m])[n]? =some (some (hO X.w none es)):=by rw[zag (zaf.mp z).1];exact z
  obtain⟨H',I',k'⟩:=GD.put ⟨u.r _ _ g.r,g.h,g.g.le u,g.lo,g.p,g.d⟩ I k4 P g' d' hs;rcases g.g.find d with⟨C,_⟩|⟨_,_,_,_,x,_⟩
  ·exact b.dat u I' k' E y (q2 C)
  ·rw[x] at O;cases O
 ·rcases g.g.find d with⟨_,x,_⟩|⟨d,v,p',C,x,_,e3,e4⟩<;>rw[x] at L<;>cases L
  exact b.dat .refl (I.tok _) k e3 e4 (Z _ C)
def t6(hr:aW j X.A)(ho:GE X o ta)(he:GE X e tb)(hf:GE X f tc)(m:M2 X o "pop" apos e f cpos)(hW:autoParam (X.w=W) r0):GE X (.Call (.Attribute o "pop" apos) [e,f] [] cpos) (Oc W ta tb tc):=by
 subst hW;refine Qu m PySem.F.slot_dict_pop PySem.F.type_dict_pop ho he hf λ{pins σ H s w n d r S Qa Q a v2 u2 v3 u3} I k h0 r2 v2 Z v3 q b=>?_;let⟨es,z,g1,g2,hz,q⟩:=q;let⟨w2,L,k,Z⟩:=freeze k Z;let⟨a,vs,G,ea,g⟩:=gd I k (Rep.loc (L.r _ _ h0)) (RelV.ref _) z g2;cases ea;let⟨c,rfl,rfl,kk⟩:=qX I k (r2.le L) v2 g1;let⟨vs',g'⟩:=g.g.drop d;have O:=g.d;let⟨_,_,_,_,_,_,_,_,O⟩:=O;have E:∀{P t},Heap.DictOfH (bg X.prog X.w) P a (G.filter λy=>decide (y.1≠py d))->Heap.SameBut a s.heap P->∃Y,Inv X pins σ Y {s with heap:=P,toks:=t}/\Ok X.K w2 Y (S.set n (some (hO X.w none (qe es d)))):=λd' hs=>g.put I k z g' d' hs;refine M6.V4 (λA' hA=>show A'.units+10<cLine by have:=hr.units;lia) g.lo kk g.d (by rw[g.g.len,yaf];lia) (λC t=>?_) λjj x hj hx P t d' hs=>?_
 ·have ey:(G.filter λy=>decide (y.1≠py d))=G:=zaK.mpr λy hy=>yDt λe=>C (e▸zcm.mpr ⟨y,hy,rfl⟩);obtain⟨Y,I',k'⟩:=E (ey.symm▸g.d) ⟨rfl,λ_ _=>rfl⟩;have U  :=atKey_none_of_get λj p e=>C (zcm.mpr ⟨_,zaF e,rfl⟩);rcases g.g.find d with⟨e1,_⟩|⟨_,_,p,_,u,_⟩
  ·rw[e1] at q;exact b.dat L I' k' Z v3 q
  ·rw[U] at u;cases u
 ·have ey:=qb (λy=>y.1) G jj x hj O;obtain⟨_,x⟩:=x;cases hx;obtain⟨Y,I',k'⟩:=E (ey▸d') hs;have U:=atKey_of_get O hj;rcases g.g.find d with⟨_,u,_⟩|⟨d1,v,p,e1,u,_,e3,e4⟩
  ·rw[U] at u;cases u
  ·rw[e1] at q;rw[U] at u;cases u;exact b.dat L I' k' e3 e4 q
def TR(v:aW j X.A)(x:autoParam (X.w=W) r0):nH X (yan .In) (RE W false):=by
 subst x;refine .of λI k u s v1 v2 h b=>?_;let⟨n,po,F,rfl,z,C,y,q⟩:=h;let⟨a,vs,E,rfl,g⟩:=gd I k s v2 z y;let⟨c,rfl,rfl,kk⟩:=qX I k u v1 C;refine wpAny_in_heap (show X.A.units+1+10<cLine by have:=v.units;lia) kk g.lo g.d ?_;rw[g.g.has];exact b.dat .refl (I.tok _) k .bl rfl (by simpa using q)
def Gi(v:aW j X.A)(x:autoParam (X.w=W) r0):nH X (yan .NotIn) (RE W true):=by
 subst x;refine .of λI k u s v1 v2 h b=>?_;let⟨n,po,F,rfl,z,C,y,q⟩:=h;let⟨a,vs,E,rfl,g⟩:=gd I k s v2 z y;let⟨c,rfl,rfl,kk⟩:=qX I k u v1 C;refine wpAny_notIn_heap (show X.A.units+1+10<cLine by have:=v.units;lia) kk g.lo g.d ?_;rw[g.g.has];exact b.dat .refl (I.tok _) k .bl rfl (by simpa using q)
def Ks(E:GE X e ta)(F:autoParam (X.w=W) r0)(hw:∀j,isTrue e X.env j=(do let v <-j;standAt e.pos;holding [v] (truthy v)):=by intro _;rfl):GT X e (Ob W ta):=by
 subst F;refine .of λA h b=>isTrue_plain (E.go A h λC A1 s v1 y=>?_) (hw _);let⟨n,po,I,x,u,H,P,q⟩:=y;rw[x] at s;let⟨a,vs,L,rfl,g⟩:=gd A1.i A1.k s v1 u H;obtain⟨fs,Q,G,_,O⟩:=g.raw;refine M5.JF g.lo G (by lia) ?_;rw[show fs.toList.isEmpty=I.isEmpty from Dh (by simp_all)];exact b C (A1.i.tok _) A1.k q
def Qp(x:autoParam (X.w=W) r0):s9 X (.builtin "len") (U6 W):=by
 subst x;refine .of λI k r v h b=>?_;let⟨n,po,G,rfl,z,C,F,q⟩:=h;let⟨v,u,rfl,r,j⟩:=arg1 r v;let⟨a,vs,E,rfl,g⟩:=gd I k r j z C;let⟨fs,H,y,_,s⟩:=g.raw;refine zal kind_len plain_len entry_len (args_len1 _) (M5.sj g.lo y (by lia) ?_);rw[s];exact b.dat .refl (I.tok _) k .int ⟨_,rfl⟩ q
def Be(G:aW j X.A)(L:autoParam (X.w=W) r0):s9 X (.type "list") (RD W):=by
 subst L;refine .of λ{pins σ H s w S ds vs us Qa Q} I k r v h b=>?_;let⟨n,po,U,rfl,z,P,hl,q⟩:=h;let⟨v,u,rfl,r,F⟩:=arg1 r v;let⟨a,vs,E,rfl,g⟩:=gd I k r F z P;let⟨fs,ep,O,e,Z⟩:=g.raw;have Y:=g.g.len;refine W.kdl_call (OP g.lo) G.hd O (by rw[yaf];lia) λh' tk C c kp gl x=>?_;have ea  :=wK x;have hp  :=I.hok.fresh (zcA _);exact b .refl (I.laid (o:=.lst (E.map λy=>V.ref y.2.1)) kp (zcA _) ⟨by rw[zbF,yaf];lia,C.toList,c,by rw[ea,e];exact dP (λy=>y.2.1) E,by exact gl⟩) (k.alloc hp) (k.fresh hp (m:=.lst (U.map (·.1))) ⟨_,rfl,g.g.refs⟩) rfl q
def Nq(he:GE X e ta)(hW:autoParam (X.w=W) r0):GI X tg e (iHc W ta):=by
 subst hW;refine⟨λab s σ H R I z=>?_⟩;let⟨w,δ,S,Qa,ok,env,q,bk⟩:=z;refine he.go ⟨I,ok,env⟩ q λl1 A1 r1 v1 q1=>?_;let⟨n,po,P,z1,z2,ge,q⟩:=q1;rw[z1] at r1;let⟨a,vs,Q,rfl,g⟩:=gd A1.i A1.k r1 v1 z2 ge;let⟨x,fs,Z,O,L,g3,Y,_,g5⟩:=id g.d;have hr:∀b us,Rw a (gA X.w (some x) (GP P) b us) fs Z:=λb us P' C E h' y=>by
  obtain rfl:=gA.own y;refine⟨x,y.1.2.1 x rfl,L,g3⟩
 have x0:gA X.w (some x) (GP P) a vs _:=⟨g.lo,λo' z=>by simp_all,x,fs,Z,Q,O,L,g3,Y,g5,g.g.to.2⟩
 have hV:Vals (Q.map λy=>V.ref y.2.1) (fs.toList.map (·.key)):=by
  rw[Y,zcn];exact dP (λy=>y.2.1) Q
 have U:=A1.k.put (o':=hO X.w (some x) P) z2 g.r ⟨a,vs,rfl,g.g.to.1⟩;have at_:∀{E:Hp}{F:aq}{C:Wd},Wd.le _ C->Ok X.K C E F->F[n]? =some (some (hO X.w (some x) P))->∃φ,E a=some (.ext φ)/\Rw a φ fs Z:=λle j e=>by
  obtain⟨a1,u,k1,k2,k3,a',bs',rfl,k5⟩:=j.live n _ e;rw[le.r _ _ g.r] at k1;cases k1;refine⟨_,k3,hr _ _⟩
 have hy:=g.g.len;have hs  :=by have:=congrArg zcz Y;simpa using this
 refine BK (A1.i.as (by rw[g.h];exact True.intro) ⟨x,O⟩ x0.ok) bL (hr _ _) g.lo hV (bk _ _ _ _ _ _ l1 U ⟨λi E F C d le j G e=>⟨?_,at_ le j G⟩,λi E F C d v H2 le j G e y=>?_,λi E F C le j G e=>⟨?_,at_ le j G⟩⟩ (q x))
 ·have:=(zaf.mp e).1;simp_all
 ·let⟨rfl,y⟩:=y;let⟨v',O,L⟩:=g.g.refs.get e;rw[O] at y;cases y;refine⟨C,.refl,j,L.le le⟩
 simp_all
theorem nT{K:yaJ}{w:Wd}:∀{ks:List D}{q:List V},av K w ks q->(∀k∈ks,cD k)->∃kk:List (D×Addr),ks=kk.map (·.1)/\q=kk.map (λx=>V.ref x.2)/\∀x∈kk,Rep K w x.1 (.ref x.2)
 |[],q,h,_=>by exact⟨[],rfl,h,λx a=>by cases a⟩
 |k::ks,q,h,g=>by
  let⟨x,r,rfl,h1,h2⟩:=h;let⟨kk,rfl,rfl,v⟩:=nT h2 λj s=>g j (zaC _ s);obtain⟨_,_,_,y,rfl⟩:=g k (by grind);have u:=h1;let⟨b,_,rfl,_⟩:=u;refine⟨(_,b)::kk,rfl,rfl,λx a=>?_⟩;obtain rfl|a:=zcd.mp a
  ·exact h1
  ·exact v x a
def nX(hr:aW j X.A)(hW:autoParam (X.w=W) r0):s9 X (.builtin "sorted") (Rz W):=by
 subst hW;refine .of λ{pins σ H s w S ds vs us Qa Q} I k r v h b=>?_;let⟨d,ks,f,rfl,z,L,hl,q⟩:=h;let⟨v,u,rfl,r,F⟩:=arg1 r v;have E:∀{a:Addr}{kk:List (D×Addr)},ks=kk.map (·.1)->(∀x∈kk,Rep X.K w x.1 (.ref x.2))->(∀{A':yal}{Q':List yai->yah->Prop}{E':yai->yah->Prop},A'.handled=none->(∀h1 tk,(∀b o,s.heap.get? b=some o->h1.get? b=some o)->Q' (kk.map λx=>Value.ref x.2) {s with heap:=h1,toks:=tk})->yar (model X.prog X.w) A' (collect (.ref a)) Q' E' s)->
   yar (model X.prog X.w) X.A (call (.builtin "sorted") [.ref a]) Q X.xe s:=λ{a kk} U hk col=>by
  subst U;rw[zbF] at hl;refine mY (b:=f) (ks:=kk.map λx=>(py x.1,x.2)) (R:=λs1=>∃h1 tk,s1={s with heap:=h1,toks:=tk}) hr.hd (λy hy=>?_) (λy hy y' hy'=>?_) (by simp_all) (by have:=hr.units;lia) (λC P=>col C λh1 tk kp=>?_) λs1 h2 out c hR k1 k2 g hp hs=>?_
  ·let⟨x,G,rfl⟩:=zcm.mp hy;have O:x.1∈kk.map (·.1):=zcm.mpr ⟨x,G,rfl⟩;let⟨_,e,_,kx⟩:=qX I k (hk x G) rfl (L.good _ O);cases e;exact⟨kx,L.fst _ O⟩
  ·let⟨x,G,rfl⟩:=zcm.mp hy;let⟨x',hx',rfl⟩:=zcm.mp hy';exact L.cmp _ (zcm.mpr ⟨x,G,rfl⟩) _ (zcm.mpr ⟨x',hx',rfl⟩)
  ·have:=P {s with heap:=h1,toks:=tk} _ kp ⟨h1,tk,rfl⟩ (.refl _);rw[zcn] at this;exact this
  ·let⟨h1,tk,rfl⟩:=hR;let⟨Z,Y,rfl⟩:=fh hp;have I1:Inv X pins σ H {s with heap:=h1,toks:=tk}:=I.kept k1;have hn  :=I1.hok.fresh (zcA _);have hl':=Y.length_eq;rw[zcn] at g;refine b .refl (I1.laid (o:=.lst (Z.map λx=>V.ref x.2)) k2 (zcA _) ⟨by rw[zbF,yaf];lia,_,c,dP (λx=>x.2) Z,g⟩) (k.alloc hn) (k.fresh hn (m:=.lst (Z.map (·.1))) ⟨_,rfl,fU λx G=>hk x (Y.mem_iff.mp G)⟩) rfl (q _ (Y.map _) ?_);delta OB
   grind
 obtain z|⟨n,po,es,rfl,z,rfl⟩:=z
 ·let⟨a,xs,rfl,h1,h2⟩:=bC k r z;cases F;let⟨kk,U,rfl,h3⟩:=nT h2 L.good;let⟨its,F,⟨o,n,e,hcl,hd,hda⟩,_⟩:=I.list (cW.of h1);have ei  :=cT (λx:D×Addr=>x.2) F;subst ei;refine E U h3 λC P=>collect_list ⟨o,e,hcl,n,hda⟩ (P _ _ λb o e=>?_) (by simp_all);have lb:=zcy e;exact(zav _ _ (zcr lb)).trans (zau _ e)
 ·let⟨a,vs,ys,rfl,g⟩:=gd I k r F z λe he=>L.good _ (zcm.mpr ⟨e,he,rfl⟩);let⟨fs,ep,hD,e,hs⟩:=g.raw;let⟨kk,U,e2,h3⟩:=nT g.g.refs L.good;rw[zbF] at hl;refine E U h3 λC P=>xD g.lo C hD (by rw[yaf];lia) λh1 tk kp=>?_;have:=P h1 tk kp;have F:=dP (λy=>y.2.1) ys;rw[e2] at F;rw[e,cT (λx:D×Addr=>x.2) F];exact this
theorem Bb{j:List (Addr×Obj)}{O:L2.St}{H:Hp}{s:yah}{w:Wd}{S:aq}(I:Inv X j O H s)(k:Ok X.K w H S):∀{ps:List (D×D)}{E:List V}{its:List yai},av X.K w (ps.map λp=>D.tup [p.1,p.2]) E->Vals E its->cy ps->∃vs C,RG X.K w ps vs C/\its.length=C.length/\∀(i:Nat)(v)(p),its[i]? =some v->C[i]? =some p->sZ s.heap v p
 |[],E,its,h,r,_=>by
  subst h;cases r;refine⟨[],[],.nil,rfl,λi v p e=>by simp at e⟩
 |p::ps,E,its,h,r,ge=>by
  let⟨x,r',rfl,h1,h2⟩:=h;cases r with
  |@cons _ u _ its' ru r=>
   let⟨vs,C,g1,g2,g3⟩:=Bb I k h2 r λe U=>ge e (by simp[U]);let⟨t,zs,rfl,Z,hz⟩:=h1;let⟨y1,y2,r2,rfl,k1,k2,P⟩:=vI hz;subst P;let⟨c,rfl,Y⟩:=wU k k1 (ge p (by simp));have kk:=I.key (ge p (by simp)).2.1 (ge p (by simp)).2.2.1 Y;obtain⟨y,a,⟨o,Q,F,n,hd⟩,_⟩:=I.tuple (fR.same k.base Z);cases a with
   |@cons _ ku _ y rk a=>
    cases a with
    |@cons _ kv _ y rk2 a=>
     cases a;cases rk;cases ru;refine⟨_,_,.cons k1 k2 rk2 g1,by simp[g2],λi v q L G=>?_⟩;cases i with
     |zero=>
      simp only[zao,zcD.injEq] at L G;subst L G;refine⟨t,o,n,rfl,Q,F,hd,kk⟩
     |succ i=>exact g3 i v q L G
def RG.all(g:RG K d k r z):∀{a:List (D×D)}{vs:List V}{q:List E3},RG K d a vs q->∃j,RG K d (Dy k a) j (z.foldl (λa p=>storedH a p.1 p.2.1 p.2.2) q):=by
 induction g with
 |nil=>exact λh=>⟨_,h⟩
 |cons h1 h2 h3 t ih=>
  intro a vs q h;let⟨j,h⟩:=h.put h1 h2 h3;exact ih h
def KL(y:aW j X.A)(O:autoParam (X.w=W) r0):s9 X (.type "dict") (RH W):=by
 subst O;refine .of λ{pins σ H s w S ds vs us Qa Q} I k r v h b=>?_;let⟨d,ps,rfl,z,P,hl,q⟩:=h;let⟨v,u,rfl,r,x⟩:=arg1 r v;let⟨a,C,rfl,h1,h2⟩:=bC k r z;cases x;obtain⟨_,L,c,x,gl⟩:bq X.prog X.w H s.heap a (.lst C):=I.hok a _ h1;let⟨vs,ys,g,g2,Y⟩:=Bb I k h2 x P;have hy:=g.len;refine zL y.hd (by have:=y.units;lia) gl (by simp_all) (λi v p e1 Z=>Y i v p (by simpa using e1) Z) (by simp_all) λh' tk dd kp=>?_;let⟨E,U⟩:=g.all .nil;obtain⟨H',I',G,F⟩:=Hi I k kp U dd;exact b .refl I' G F rfl q
end
inductive Ac(W:yak)(p:Nat):List (D×D)->aq->List (D×D)->aq->Prop
 |nil {es:List (D×D)}{S:aq}:Ac W p es S es S
 |step {es es':List (D×D)}{l:List D}{S S':aq}{m:Nat} (h:S[m]? =some (some (.lst l))) (hm:m≠p) (t:Ac W p (es.map λe=>(e.1,sb m (.lst l) e.2)) ((S.set m none).set p (some (hO W none (es.map λe=>(e.1,sb m (.lst l) e.2))))) es' S'):Ac W p es S es' S'
theorem wM(le:g.le k)(f:∀v,Rep d g (.loc q) v->Rep d k (.lst z) v):∀{es:List (D×D)}{vs:List V},av d g (inter es) vs->av d k (inter (es.map λe=>(e.1,sb q (.lst z) e.2))) vs
 |[],vs,h=>h
 |e::es,vs,h=>by
  let⟨x,v,r,rfl,h1,h2,j⟩:=vI h;exact .cons (h1.le le) (.cons (J4 le f h2) (wM le f j))
def Lc{W:yak}{p:Nat}{es:List (D×D)}(h:Ac W p es S es' S'):∀{w:Wd}{H:Hp},S[p]? =some (some (hO W none es))->Ok K w H S->∃x,w.le x/\Ok K x H S':=by
 induction h with
 |nil=>exact λ_ ok=>⟨_,.refl,ok⟩
 |@step es es' l S S' m hS hm t ih=>
  intro w H y ok;let⟨L,j,q,f⟩:=QU ok hS;obtain⟨O,_⟩:=zaf.mp y;obtain⟨a,u,k1,_,F,I,vs,rfl,E⟩:=ok.live p _ y;have v:(S.set m none)[p]? =some (some (hO W none es)):=by simp_all
  have G:GP (es.map λe=>(e.1,sb m (.lst l) e.2))=GP es:=by delta GP;rw[zcn];rfl
  have o:=q.put (o':=hO W none (es.map λe=>(e.1,sb m (.lst l) e.2))) v (j.r _ _ k1) ⟨I,vs,by rw[G],wM j f E⟩;rw[vd F] at o;let⟨C,s,nW⟩:=ih (by simp_all) o;refine⟨C,j.trans s,nW⟩
def Od(W:yak)(a:AE):AE:=λu S Q=>a u S λr s=>∃p o j q,r=.dat (.loc p)/\s[p]? =some (some (hO W none o))/\Ac W p o s j q/\Q (.dat (.loc p)) q
def Wo(h:GE X e d):GE X e (Od W d):=
 .of λA q b=>h.new A q λs A1 j v1 o=>by
  let⟨p,C,x,E,rfl,v,u,q⟩:=o;let⟨y,a,k2⟩:=Lc u v A1.k;exact b.dat (s.trans a) A1.i k2 (j.le a) v1 q
noncomputable def tr(ks:List D):List (D×D):=ks.map λk=>(k,.bl true)
noncomputable abbrev hN(W:yak)(ks:List D):MO:=hO W none (tr ks)
def cK(h:∀k∈d,cD k):cy (tr d):=λe j=>by
 let⟨k,a,rfl⟩:=zcm.mp j;exact h k a
def tF(ks:List D):(tr ks).map (·.1)=ks:=by delta tr;rw[zcn];exact List.map_id' ks
def eZ(ks):(tr ks).length=ks.length:=zbF ..
def Ea(ks)(k):nD (tr ks) k=zw ks k:=by delta nD tr zw;rw[zcl];rfl
def oK(ks)(k):gc (tr ks) k (.bl true)=tr (putN ks k):=by
 delta gc putN;rw[Ea];delta zw tr;split
 ·simp
 simp
def tG(ks)(k):qe (tr ks) k=tr (BI ks k):=by delta qe BI tr;rw[List.filter_map];rfl
end M
namespace L2
open PySem PySem.Spec PyProof.Rows
structure VE(h:Heap)(e it l:Addr)(i:Nat):Prop where
 en:∃old,IsEnum h e it i old
 li:h.IsListIter it l i
noncomputable def Ite(K:yaJ)(l:Addr):It:=
 ⟨λi H=>∃a x,cW K H l a/\a[i]? =some x,λi H v j=>∃T x,H T=none/\v=.ref T/\j=upd H T (.tup [.int i,x])/\∀a,cW K H l a->a[i]? =some x,λi H=>∃a,cW K H l a/\a.length<=i⟩
theorem VE.at(Z:VE h d it l i)(kp:∀b∈[d,it],∀o,h.get? b=some o->h'.get? b=some o):VE h' d it l i:=
 ⟨by let⟨o,q⟩:=Z.en;exact⟨o,kp d (by simp) _ q⟩,Z.li.at λo q=>kp it (by simp) o q⟩
def Cv{e it:Addr}(G:e≠it)(hle:l≠e)(hli:l≠it):
  Turn P w K (.Tuple O kk d) (Ite K l) [e,it] e (λi h=>VE h e it l i) where
 mem:=by simp
 obj:=λi h st b a=>by
  obtain⟨⟨old,F⟩,⟨o1,e1,c1,d1⟩⟩:=st;simp only[zcd,zbw,or_false] at a;obtain rfl|rfl:=a
  ·refine⟨_,F,(λv q=>by cases q)⟩
  ·refine⟨o1,e1,λv q=>by simp_all⟩
 keep:=λi h h' st k=>st.at λb a o e=>k b a o e
 item:=by
  intro X hP hw hK hc i C s σ H E I S st Z;subst hP hw hK;let⟨xs,x,Q,Y⟩:=Z;let⟨j,v1,⟨U,W,gl,cl,dl,tl⟩,_⟩:=I.list Q;let⟨u1,hu1,r1⟩:=v1.get Y;let⟨⟨old,F⟩,y⟩:=id st;have hL:s.heap.IsList l j.toArray:=⟨U,gl,cl,W,tl⟩
  have helt  :=zcy F;have ab:it<s.heap.objs.size:=by let⟨_,x,_⟩:=y;exact zcy x
  refine wpAny_pyNext_enum_item F y hL (x:=u1) (by simp_all) G λh' ho L hT hsz kp=>?_;refine⟨_,rfl,wpAny_letOwnedTupleGo_enum ho λh2 he2 sb=>?_⟩;have u:=I.zA (zcA s.heap.objs.size) (I.hok.fresh (zcA _));have I1:Inv X C σ H {s with heap:=h2,toks:=s.toks+1}:=I.Af (λb o a q=>(sb.2 b (λz=>a (by simp[z]))).trans (kp b o (λz=>a (by simp[z])) (λz=>a (by simp[z])) q)) S;have hTe  :=zcr helt;have I2:=I1.rE (o:=.tup [.int i,x]) u.1 I.sz u.2.1 u.2.2.2.2.1 u.2.2.2.2.2 ⟨by rw[yaf];simp,[.int i s.toks,u1],.cons ⟨_,rfl⟩ (.cons r1 .nil),⟨_,(sb.2 _ hTe).trans hT,rfl,_,rfl⟩⟩;refine⟨.ref s.heap.objs.size,_,I2,rfl,⟨_,x,u.1,rfl,rfl,λxs' h=>by rw[I.pS h Q];exact Y⟩,?_,λb a=>?_⟩
  ·exact⟨⟨_,by simpa using he2⟩,L.at λo q=>(sb.2 it G.symm).trans q⟩
  ·have:b<s.heap.objs.size:=by
    (simp_all;lia)
   rw[aQ (zco this)];exact(S b a).1
 done:=by
  intro X hP hw hK hc i C s σ H E I S st Z;subst hP hw hK;let⟨xs,Q,Y⟩:=Z;let⟨j,v1,⟨U,W,gl,cl,dl,tl⟩,_⟩:=I.list Q;have n1:=v1.length;let⟨⟨old,F⟩,y⟩:=id st;refine wpAny_pyNext_enum_end (I.ok.hd hc) F y (show s.heap.IsList l j.toArray from⟨U,gl,cl,W,tl⟩) (by simp;simp_all) λh' kp=>⟨rfl,?_⟩
  exact I.Af (λb o a q=>kp b o (λz=>a (by simp[z])) q) S
 self:=λ_ _ _ _ _ st h=>by obtain⟨_,F⟩:=st.en;exact wpAny_pyIter_enum F h
end L2
namespace M
open PySem PySem.Spec PyProof.Rows L2
noncomputable def nj(es:List D):List D:=es.zipIdx.map λp=>.tup [.int (p.2:Nat),p.1]
def G2(a:AA):AI:=λo S Q=>a o S λq s=>∃j,q=[.lst j]/\Q (nj j) (λ_=>True) s
def BF(e:(nj g)[i]? =some d):∃x,g[i]? =some x/\d=.tup [.int (i:Nat),x]:=by
 delta nj at e;rw[zbb,List.getElem?_zipIdx] at e;cases h:g[i]? with
 |none=>rw[h] at e;cases e
 |some p=>
  simp_all
end M
namespace M
open PySem L2
section
variable {σ:St}{w:Wd}{es:List Expr}{sts:List Stmt}{D:ef}
structure Xo(X:Cx)(pins:List (Addr×Obj))(w:Wd)(D:ef)(Q:Flow->yah->Prop):Prop where
 nx:∀{s' w' σ' H' δ' S'},w.le w'->At X pins σ' H' s' w' δ' S'->D.nx δ' S'->Q .next s'
 rt:∀{u s' w' σ' v H' r S'},w.le w'->Inv X pins σ' H' s'->Ok X.K w' H' S'->lq X.K w' H' S' r v->RelV v u->D.rt r S'->Q (.ret u) s'
 bk:∀{s' w' σ' H' δ' S'},w.le w'->At X pins σ' H' s' w' δ' S'->D.bk δ' S'->Q .brk s'
 ct:∀{s' w' σ' H' δ' S'},w.le w'->At X pins σ' H' s' w' δ' S'->D.ct δ' S'->Q .cont s'
def GS.W7(h:∀{j σ H s w δ S D Q},At X j σ H s w δ S->d D δ S->Xo X j w D Q->yar (model X.prog X.w) X.A (exec st X.env) Q X.xe s):GS X st d:=
 ⟨λj s σ H D I z=>by
  let⟨w,δ,S,u,ok,env,q,bk⟩:=z;exact h ⟨I,ok,env⟩ q ⟨λl A q=>⟨_,_,A.i,bk.nx _ _ _ _ _ l A.k A.e q⟩,λl i k r o q=>⟨_,_,_,i,o,bk.rt _ _ _ _ _ l k r q⟩,λl A q=>⟨_,_,A.i,bk.bk _ _ _ _ _ l A.k A.e q⟩,λl A q=>⟨_,_,A.i,bk.ct _ _ _ _ _ l A.k A.e q⟩⟩⟩
def LQ(K:yaJ)(w:Wd)(o:aV->aq->Prop)(σ:St)(H:Hp):Prop:=∃a j S,w.le a/\Ok K a H S/\fJ K a j σ/\o j S
def LQ.of:lR K w d (LQ K w d):=λj S σ o H l k e q=>⟨o,j,S,l,k,e,q⟩
def yh.go(h:yh X sts d)(A:At X pins σ H s w δ S)(q:d D δ S)(f:Xo X pins w D g):yar (model X.prog X.w) X.A (execs sts X.env) g X.xe s:=by
 refine cE (h.p pins s σ H ⟨LQ X.K w D.nx,λv y=>∃j r o,w.le j/\Ok X.K j y o/\lq X.K j y o r v/\D.rt r o,LQ X.K w D.bk,LQ X.K w D.ct⟩ A.i ⟨w,δ,S,D,A.k,A.e,q,LQ.of,λr o v j y l k E q=>⟨j,r,o,l,k,E,q⟩,LQ.of,LQ.of⟩) λfl G z=>?_;cases fl with
 |next=>let⟨x,y,i,j,C,o,l,k,e,q⟩:=z;exact f.nx l ⟨i,k,e⟩ q
 |brk=>let⟨x,y,i,j,C,o,l,k,e,q⟩:=z;exact f.bk l ⟨i,k,e⟩ q
 |cont=>let⟨x,y,i,j,C,o,l,k,e,q⟩:=z;exact f.ct l ⟨i,k,e⟩ q
 |ret u=>obtain⟨v,x,y,i,F,j,r,o,l,k,E,q⟩:=z;exact f.rt l i k E F q
def GG.go(h:GG X tg g)(A:At X pins σ H s w δ S)(r:Rep X.K w d v)(F:RelV v u)(q:g d δ S J)(f:∀{y x o H' j C},w.le x->At X pins o H' y x j C->J j C->L () y):yar (model X.prog X.w) X.A (assign tg X.env u) L X.xe s:=
 cE (h.p pins s σ H v u _ A.i F ⟨w,d,δ,S,J,A.k,A.e,r,q,LQ.of⟩) λ_ y z=>by
  obtain⟨o,H',i,x,j,C,l,k,e,q⟩:=z;exact f l ⟨i,k,e⟩ q
def GT.go(h:GT X e d)(A:At X pins σ H s w δ S)(q:d δ S g)(f:∀{b v j H' o},w.le j->At X pins σ H' v j δ o->g b o->r b v):yar (model X.prog X.w) X.A (isTrue e X.env (eval e X.env)) r X.xe s:=
 cE (h.p pins s σ H (λb H'=>∃j o,w.le j/\Ok X.K j H' o/\g b o) A.i ⟨w,δ,S,g,A.k,A.e,q,λb o j H' l k q=>⟨j,o,l,k,q⟩⟩) λb v z=>by
  obtain⟨H',i,j,o,l,k,q⟩:=z;exact f l ⟨i,k,A.e.le l⟩ q
def bD{tb:AS}(hp:PassesOwn (model X.prog X.w) X.A X.env X.xe)(hc:X.calm=true)(hi:GI X tg iter wi)(hg:GG X tg g)(C:yh X body tb)(hs:∀x,foldedSetIterable iter X.env x=pure x:=by intro _;rfl):GS X (.For tg iter body [] pos) (gV wi g tb):=by
 refine .W7 λ{pins σ H s w δ S D Q} A q f=>wpAny_For (cE (hi.p pins s σ H (λJ F=>∃a P G y,w.le y/\Ok X.K y F G/\Om X.K y J a P/\jB P g tb a D δ G) A.i ⟨w,δ,S,_,A.k,A.e,q,λa P G J y F l k it q=>⟨a,P,G,y,l,k,it,q⟩⟩) λv s1 h1=>cE h1 λitv s2 h2=>?_) hs;let⟨it,fp,tn,J,H2,rfl,I2,T,st2,f2,a,P,S2,w2,l2,k2,W,I⟩:=h2;have ON:∀{F:Hp},(∀b∈fp,F b=none)->∀b∈fp,nI X pins F b:=λhn b C=>⟨hn b C,(f2 b C).2⟩
 refine codeAny_forLoop_any (λn s'=>∃i O F y j G,At X pins O F s' y j G/\w2.le y/\tn i s'.heap/\(∀b∈fp,F b=none)/\n=a.length - i/\i<=a.length/\jB P g tb (a.drop i) D j G) ?_ a.length ⟨0,σ,H2,w2,δ,S2,⟨I2,k2,A.e.le l2⟩,.refl,st2,λb C=>(f2 b C).1,rfl,zcB _,I⟩;intro n s3 V;let⟨i,σ3,H3,w3,δ3,S3,L,l3,st3,fr3,rfl,hi3,I⟩:=V;by_cases Y:i<a.length
 ·rw[zai Y] at I;let⟨hP,I⟩:=I;have hd:a[i]? =some a[i]:=zam Y;refine wpAny_passesOwn hp (cE (T.item X rfl rfl rfl hc i pins s3 σ3 H3 X.xe L.i (ON fr3) st3 (W.go i H3 S3 w3 _ l3 L.k hP hd)) λr s4 z=>?_);let⟨u,rfl,h4⟩:=z;refine wpAny_passesOwn hp (cE h4 λ_ s5 z=>?_);let⟨x,H5,I5,r5,y5,U,fr5⟩:=z;let⟨w5,l5,k5,rx⟩:=W.JB i H3 S3 w3 _ x H5 l3 L.k hP hd y5;refine wpAny_passesOwn hp (hg.go ⟨I5.pinned (ON fr5) (T.obj _ _ U),k5,L.e.le l5⟩ rx r5 I λ{s6 w6 σ6 H6 δ6 S6} l6 A6 q6=>wpAny_passesOwn hp (C.go A6 q6 ?_));have l:=l2.trans (l3.trans (l5.trans l6));have E:∀{s7 w7 σ7 H7 δ7 S7},w6.le w7->At X (pins++pB fp s5.heap) σ7 H7 s7 w7 δ7 S7->jB P g tb (a.drop (i+1)) D δ7 S7->∃m,m<a.length - i/\∃i O F y j G,At X pins O F s7 y j G/\w2.le y/\tn i s7.heap/\(∀b∈fp,F b=none)/\m=a.length - i/\i<=a.length/\jB P g tb (a.drop i) D j G:=λ{s7 w7 σ7 H7 δ7 S7} l7 Z q7=>by
   have I7:=Z.i;refine⟨_,by omega,i+1,σ7,H7,w7,δ7,S7,⟨I7.iz,Z.k,Z.e⟩,l3.trans (l5.trans (l6.trans l7)),T.keep _ _ _ U λb C o e=>(I7.pin (b,o) (zax _ (zax _ (gM C e)))).1,λb C=>?_,rfl,Y,q7⟩;let⟨o,e,d⟩:=T.obj _ _ U b C;exact(I7.pin (b,o) (zax _ (zax _ (gM C e)))).2.1
  refine⟨E,λl7 i7=>f.rt (l.trans l7) i7.iz,λl7 Z=>f.nx (l.trans l7) ⟨Z.i.iz,Z.k,Z.e⟩,E⟩
 ·obtain rfl:i=a.length:=by lia
  rw[List.drop_length] at I;refine wpAny_passesOwn hp (cE (T.done X rfl rfl rfl hc _ pins s3 σ3 H3 X.xe L.i (ON fr3) st3 (W.stop _ H3 S3 w3 l3 L.k I.1 rfl)) λr s4 z=>?_);let⟨rfl,I4⟩:=z;exact yaG (f.nx (l2.trans l3) ⟨I4,L.k,L.e⟩ I.2)
def jh(E:PassesOwn (model X.prog X.w) X.A X.env X.xe)(Z:GT X c tc)(hb:yh X body d):GS X (.While c body [] pos) (Rx tc d):=by
 refine .W7 λ{pins σ H s w δ S D Q} A q f=>?_;let⟨W,⟨O,G⟩,turn⟩:=q;refine wpAny_While (codeAny_whileLoop (λn I=>∃o C u a x,w.le u/\At X pins o C I u a x/\W n a x) ?_ O ⟨σ,H,w,δ,S,.refl,A,G⟩);intro n s1 z;let⟨F,H1,w1,y,S1,U,A1,h1⟩:=z;refine wpAny_passesOwn E (Z.go A1 (turn n y S1 h1) λ{b s2 w2 H2 S2} P A2 q2=>?_);have l:=U.trans P;cases b with
 |true=>
  let⟨N,hN,q2⟩:=q2;have j:∀{s3 w3 σ3 H3 δ3 S3},w2.le w3->At X pins σ3 H3 s3 w3 δ3 S3->N δ3 S3->∃m,m<n/\∃o C u a x,w.le u/\At X pins o C s3 u a x/\W m a x:=λv A3 L=>by
   let⟨m,Y,h3⟩:=hN _ _ L;refine⟨m,Y,_,_,_,_,_,l.trans v,A3,h3⟩
  rw[yIp rfl];exact wpAny_passesOwn E (hb.go A2 q2 ⟨j,λv=>f.rt (l.trans v),λv=>f.nx (l.trans v),j⟩)
 |false=>
  rw[yIn zaW];exact yaG (f.nx l A2 q2)
end
end M
namespace M
open PySem PySem.Spec PyProof.Rows L2 M6 M8
section
variable {σ:L2.St}{w:Wd}{p p2 pos2:Pos}{id:String}
def Xe(I:Inv X pins σ H s)(v:Gl X x)(q:X.mg x=none)(j:bootBuiltins x=some (.builtin id))(a:notStar e=true)(h:yar (model X.prog X.w) X.A (eval e X.env) (λu s1=>yar (model X.prog X.w) X.A (call (.builtin id) [u]) Q X.xe s1) X.xe s)(o:x≠"__name__":=by decide+kernel)(hd:(x==("__debug__":Str))=false:=by decide+kernel):
  yar (model X.prog X.w) X.A (eval (.Call (.Name x p) [e] [] pos) X.env) Q X.xe s:=by
 refine wpAny_Call_Name_kw (gO I v q j ?_ o hd);refine PyProof.Rows.callWith_builtin1 (E:=X.xe) ?_ (bW [] X.env a) rfl;rw[bW [] X.env a];exact zaZ (cE h λu s1 h=>zbp h)
def UW(I:Inv X pins σ H s)(v:Gl X x)(q:X.mg x=none)(j:bootBuiltins x=some (.type id))(a:notStar e=true)(h:yar (model X.prog X.w) X.A (eval e X.env) (λu s1=>yar (model X.prog X.w) X.A (call (.type id) [u]) Q X.xe s1) X.xe s)(o:x≠"__name__":=by decide+kernel)(hd:(x==("__debug__":Str))=false:=by decide+kernel):
  yar (model X.prog X.w) X.A (eval (.Call (.Name x p) [e] [] pos) X.env) Q X.xe s:=by
 refine wpAny_Call_Name_kw (gO I v q j ?_ o hd);refine PyProof.Rows.callWith_type1 (E:=X.xe) ?_ (bW [] X.env a) rfl;rw[bW [] X.env a];exact zaZ (cE h λu s1 h=>zbp h)
def Ax(k:Ok K w H S)(r:Rep K w d v)(z:aX S d=.tup ds∨aX S d=.lst ds):∃a j,v=.ref a/\(fR K H a j∨cW K H a j)/\av K w ds j:=by
 obtain z|z:=z
 ·let⟨a,j,e,h1,h2⟩:=di k r z;refine⟨a,j,e,.inl h1,h2⟩
 ·let⟨a,j,e,h1,h2⟩:=bC k r z;refine⟨a,j,e,.inr (cW.of h1),h2⟩
theorem At.list{ds:List D}{vs:List V}{j:List yai}{h':Heap}{t c:Nat}{a:Addr}(A:At X pins σ H s w δ S)(kp:∀b o,s.heap.get? b=some o->h'.get? b=some o)(le:s.heap.objs.size<=a)(r:av X.K w ds vs)(q:Vals vs j)(hz:j.length<=yag)(g:h'.get? a=some (seqObj "list" j.toArray c)):
  ∃H',Inv X pins σ H' {s with heap:=h',toks:=t}/\Ok X.K w H' S/\lq X.K w H' S (.new (.lst ds)) (.ref a):=by
 have u:H a=none:=A.i.hok.fresh le;refine⟨_,A.i.laid (a:=a) (t':=t) (o:=.lst vs) kp le ⟨by rw[q.length];exact hz,j,c,q,g⟩,A.k.alloc u,A.k.fresh u (m:=.lst ds) ⟨vs,rfl,r⟩⟩
def vV(hc:X.calm=true)(hg:Gl X "sorted")(hm:X.mg "sorted"=none)(Y:Gl X "set")(P:X.mg "set"=none)(he:GE X e ta)(L:autoParam (notStar e=true) r0):GE X (.Call (.Name "sorted" p) [.Call (.Name "set" p2) [e] [] pos2] [] pos) (xR ta):=by
 refine .of λ{pins σ H s w δ S Qa Q} A h b=>Xe (id:="sorted") A.i hg hm (by decide+kernel) rfl (UW (id:="set") A.i Y P (by decide+kernel) L (he.go A h λ{u s1 w1 v H1 r S1} l1 A1 rp G z=>?_));have W:=A.i.ok.hd hc;let⟨ss,z,hl,q⟩:=z;let⟨a,xs,rfl,C,rs⟩:=Ax A1.k rp z;cases G;obtain rfl:=jL rs;have F:∀(E:Heap)(tk:Nat),M5.yf X.prog X.w E s1.heap.objs.size (M5.all1 (λi=>ss.getD i ⟨#[]⟩) ss.length)->(∀b o,b<s1.heap.objs.size->s1.heap.get? b=some o->E.get? b=some o)->
   yar (model X.prog X.w) X.A (call (.builtin "sorted") [.ref s1.heap.objs.size]) Q X.xe {s1 with heap:=E,toks:=tk}:=by
  intro E tk Z kp;have ab:=M5.qq (λi=>ss.getD i ⟨#[]⟩) ss.length;refine M5.yx (s:={s1 with heap:=E,toks:=tk}) W Z (by lia) λl s2 out j c I e1 e2 le g hS O L=>?_;obtain⟨h2,g2,d2,t2,o2⟩:=s2;obtain rfl:g2=s1.gens:=e1;obtain rfl:o2=s1.os:=e2;have lt:s1.heap.objs.size<=l:=by
   let⟨o,ho,_⟩:=Z;exact zcp (zcq (zcy ho)) le
  have G:=M.i6 hS;have U:=G.length;rw[zbF,O.length_eq] at U;let⟨H',I',k',x⟩:=A1.list (t:=t2) (λb o z=>I b o (kp b o (zcy z) z)) lt (eN j) G (by rw[yaf];lia) g;exact b l1 (I'.Xd d2) k' x rfl (q j (O.nodup_iff.mpr (M5.pO _ _)) (λy=>(O.mem_iff).trans (M5.C2 ss y)) L)
 obtain C|C:=C
 ·let⟨its,x,pl,hz⟩:=A1.i.tuple C;exact M5.set_tuple (its:=its.toArray) (ss:=ss) W pl (by simpa using j7 x) (by lia) F
 ·let⟨its,x,pl,hz⟩:=A1.i.list C;exact M5.set_list (its:=its.toArray) (ss:=ss) W pl.isList (by simpa using j7 x) (by lia) F
def tZ(hr:aW j X.A)(hc:X.calm=true)(hg:Gl X "sorted")(hm:X.mg "sorted"=none)(hg2:Gl X "set")(hm2:X.mg "set"=none)(he:GE X e ta)(hs:autoParam (notStar e=true) r0):GE X (.Call (.Name "sorted" p) [.Call (.Name "set" p2) [e] [] pos2] [] pos) (sV ta):=by
 refine .of λ{pins σ H s w δ S Qa Q} A h b=>Xe (id:="sorted") A.i hg hm (by decide+kernel) rfl (UW (id:="set") A.i hg2 hm2 (by decide+kernel) hs (he.go A h λ{u s1 w1 v H1 r S1} l1 A1 rp rv z=>?_));have E:=A.i.ok.hd hc;have hun:=hr.units;let⟨ks,z,g1,g2,hl,q⟩:=z;let⟨a,xs,rfl,P,rs⟩:=Ax A1.k rp z;cases rv;let⟨kk,rfl,rfl,h3⟩:=nT rs λk E=>(g1 k E).1;rw[zbF] at hl;have O:∀x∈kk,x.1∈kk.map (·.1):=λx C=>zcm.mpr ⟨x,C,rfl⟩;have ky:∀k∈kk.map (λx:D×Addr=>(py x.1,x.2)),isKey s1.heap k.1 k.2:=λk E=>by
  let⟨x,C,rfl⟩:=zcm.mp E;let⟨_,e,_,kx⟩:=qX A1.i A1.k (h3 x C) rfl (g1 _ (O x C)).1;cases e;exact kx
 have Y:∀(W:Heap)(tk:Nat)(Z:List yam),Z.Nodup->(∀y,y∈Z↔y∈(kk.map λx:D×Addr=>(py x.1,x.2)).map (·.1))->Z.length<63->Co X.w (kk.map λx=>(py x.1,x.2)) W s1.heap.objs.size Z->(∀b o,b<s1.heap.objs.size->s1.heap.get? b=some o->W.get? b=some o)->
   yar (model X.prog X.w) X.A (call (.builtin "sorted") [.ref s1.heap.objs.size]) Q X.xe {s1 with heap:=W,toks:=tk}:=by
  intro W tk Z n1 n2 n3 tS kp;have mS:∀d∈Z,∃x∈kk,py x.1=d:=λd hd=>by
   have:=(n2 d).mp hd;rw[zcn] at this;exact zcm.mp this
  refine vn (s:={s1 with heap:=W,toks:=tk}) E tS (λd hd=>?_) (λx C y hy=>?_) (by lia) (by lia) λs2 h2 out c e1 e2 L kp2 g hB hp F=>?_
  ·let⟨x,C,rfl⟩:=mS d hd;exact(g1 _ (O x C)).2
  ·let⟨x',hx',rfl⟩:=mS x C;let⟨y',hy',rfl⟩:=mS y hy;exact g2 _ (O x' hx') _ (O y' hy')
  ·obtain⟨hh2,g2,d2,t2,o2⟩:=s2;obtain rfl:g2=s1.gens:=e1;obtain rfl:o2=s1.os:=e2;let⟨I,o1,rfl⟩:=pq hB;have lt:s1.heap.objs.size<=hh2.objs.size:=by
    let⟨o,_,_,_,_,_,ho,_⟩:=tS;exact zcq (zcy (L _ _ ho))
   have U:=hp.length_eq;rw[zcn] at g hp U;rw[zbF] at U;let⟨H',I',k',G⟩:=A1.list (ds:=I.map (·.1)) (vs:=I.map λx=>V.ref x.2) (t:=t2) (λb o z=>kp2 b o (L b o (kp b o (zcy z) z))) lt (fU λx C=>h3 x (o1 x C)) (dP (λx:D×Addr=>x.2) I) (by rw[zbF,yaf];lia) g;have e5:(I.map (·.1)).map py=I.map λx=>py x.1:=by rw[zcn];rfl
   have e6:(kk.map (·.1)).map py=kk.map λx=>py x.1:=by rw[zcn];rfl
   refine b l1 (I'.Xd d2) k' G rfl (q _ (λk E=>?_) (λy=>?_) (by rw[e5];exact hp.nodup_iff.mpr n1) ?_)
   ·let⟨x,x1,rfl⟩:=zcm.mp E;exact O x (o1 x x1)
   ·rw[e5,e6];have:=n2 y;rw[zcn] at this;exact hp.mem_iff.trans this
   ·rw[zbg] at F⊢;exact F
 obtain P|P:=P
 ·let⟨its,G,pl,hz⟩:=A1.i.tuple P;exact yz (its:=its.toArray) E pl (by have:=cT (λx:D×Addr=>x.2) G;simp[this]) ky (by lia) (by rw[zbF];exact hl) Y
 ·let⟨its,G,pl,hz⟩:=A1.i.list P;exact CB (its:=its.toArray) E pl.isList (by have:=cT (λx:D×Addr=>x.2) G;simp[this]) ky (by lia) (by rw[zbF];exact hl) Y
end
end M
namespace M
open PySem PySem.Spec PyProof.Rows L2 M6 M8 M12
section
variable {σ:L2.St}{w:Wd}{a b:Expr}{p p2 pos2:Pos}
def GJ(hN:X.s₀.heap.objs.size<=d)(U:∀D:Nat,d<=D->D≠X.env.locals/\(∀x c,X.env.cells.lookup x=some c->c≠D)/\∀p∈X.pn++pins,p.1≠D){as:List Addr}{ts:List (List D)}(I:Inv X pins σ H s)(k:Ok X.K w H S)(e:as.length=ts.length)(nd:as.Nodup)(C:∀a∈as,d<=a/\H a=none)(h:∀(j:Nat) a t,as[j]? =some a->ts[j]? =some t->∃vs,av X.K w t vs/\∀H',bq X.prog X.w H' s.heap a (.tup vs)):∃v H',w.le v/\Inv X pins σ H' s/\Ok X.K v H' S/\av X.K v (ts.map D.tup) (as.map V.ref)/\∀b,b ∉ as->H' b=H b:=by
 induction as generalizing ts w H with
 |nil=>
  obtain rfl:=zaa e.symm;refine⟨w,H,.refl,I,k,.nil,λ_ _=>rfl⟩
 |cons a as ih=>
  cases ts with
  |nil=>cases e
  |cons t ts=>
   rw[zbH] at nd;let⟨h1,h2⟩:=C a (by simp);let⟨vs,r,o⟩:=h 0 a t rfl rfl;let⟨w1,F,k1,O⟩:=k.pQ h2 r;let⟨Z,Y,W⟩:=U a h1;have I1:=I.rE (o:=.tup vs) h2 (zcp hN h1) Z Y W (o _);let⟨G,H2,E,I2,k2,L,g⟩:=ih I1 k1 (by simpa using e) nd.2 (λb q=>⟨(C b (by simp[q])).1,by rw[aQ λz:b=a=>nd.1 (z▸q)];exact(C b (by simp[q])).2⟩) λj b u e1 e2=>by
    let⟨y,P,Q⟩:=h (j+1) b u (by simpa using e1) (by simpa using e2);refine⟨y,P.le F,Q⟩
   refine⟨G,H2,F.trans E,I2,k2,.cons (O.le E) L,λb q=>by rw[g b λz=>q (by simp[z]),aQ λz:b=a=>q (by simp[z])]⟩
theorem F4(hc:X.calm=true)(hg:Gl X "list")(hm:X.mg "list"=none)(Y:Gl X "zip")(W:X.mg "zip"=none)(C:GA X [a,b,c] d)(hs:autoParam (yao [a,b,c] X.env=[(false,eval a X.env),(false,eval b X.env),(false,eval c X.env)]) r0)(E:autoParam (yao [b,c] X.env=[(false,eval b X.env),(false,eval c X.env)]) r0):
  GE X (.Call (.Name "list" p) [.Call (.Name "zip" p2) [a,b,c] [] pos2] [] pos) (Oa d):=by
 refine .of λ{pins σ H s w δ S Qa Q} A h f=>UW (id:="list") A.i hg hm boot_list rfl (Call_ (gO A.i Y W (u:=.type "zip") (by decide+kernel) (PyProof.Rows.callWith_type1 (C.go A h λ{us s1 w1 vs H1 ds S1} l A1 rp rv q=>?_) (by rw[hs,E]) (by rw[E];rfl)) (by decide+kernel) (by decide+kernel)));let⟨d1,d2,d3,es,fs,gs,rfl,z1,z2,z3,n1,n2,n3,n4,q⟩:=q;simp only[av] at rp;obtain⟨x,_,rfl,g1,x',_,rfl,g2,x'',_,rfl,g3,rfl⟩:=rp;let⟨l1,xs,rfl,k1,j1⟩:=bC A1.k g1 z1;let⟨l2,ys,rfl,k2,j2⟩:=di A1.k g2 z2;let⟨l3,zs,rfl,G,j3⟩:=bC A1.k g3 z3;have m1:=j1.length;have m2:=j2.length;have m3:=j3.length;cases rv with
 |cons r rr=>cases rr with
  |cons r' rr'=>cases rr' with
   |cons r'' rr''=>
    cases rr'';cases r;cases r';cases r'';let⟨i1,v1,t1,_⟩:=A1.i.list (cW.of k1);let⟨i2,v2,t2,_⟩:=A1.i.tuple k2;let⟨i3,v3,t3,_⟩:=A1.i.list (cW.of G);have c1:=v1.length;have c2:=v2.length;have c3:=v3.length;have M2:s1.heap.IsTuple l2 i2.toArray:=t2;refine Ox t1.isList M2 t3.isList λh' Z=>?_;refine GF (s:={s1 with heap:=h'}) (m:=fs.length) (A1.i.ok.hd hc) t1.isList M2 t3.isList Z (by simp;lia) (by simp;lia) (by simp;lia) n3 (by rw[yaf];lia) λh2 U T=>?_;let⟨F,cc,e2,e5,e4⟩:=T;have I2:Inv X pins σ H1 {s1 with heap:=h2}:=A1.i.kept (t':=s1.toks) U;have none:∀a,s1.heap.objs.size<=a->H1 a=none:=λa C=>A1.i.hok.fresh C;have L:∀D,s1.heap.objs.size<=D->D≠X.env.locals/\(∀x c,X.env.cells.lookup x=some c->c≠D)/\∀p∈X.pn++pins,p.1≠D:=λD hD=>let f:=A1.i.zA (H':=H1) hD (none D hD);⟨f.2.1,f.2.2.2.2.1,f.2.2.2.2.2⟩;have inj:∀{i j:Nat},ad s1.heap (7+i)=ad s1.heap (7+j)->i=j:=λe=>by
     have:=zaM e;simp_all
    have up:∀a∈(zcE fs.length).map (λj=>ad s1.heap (7+j)),s1.heap.objs.size+6<a:=λa C=>by
     let⟨j,_,rfl⟩:=zcm.mp C;show(_:Nat)<s1.heap.objs.size+(7+j);lia
    let⟨w3,H3,l3,I3,G,O,P⟩:=GJ (as:=(zcE fs.length).map (λj=>ad s1.heap (7+j))) (ts:=yq es fs gs) A1.i.sz L I2 A1.k (by simp[yq];simp_all) (zbg.mpr (zbA.imp λh e=>h (inj e))) (λa C=>⟨zcq (zcs (by lia) (up a C)),none _ (zcq (zcs (by lia) (up a C)))⟩) λj a t ea et=>by
     let⟨x,y,z,w1,w2,w3,rfl⟩:=D9 et;let⟨u1,e1,r1⟩:=j1.get w1;let⟨u2,e2,r2⟩:=j2.get w2;let⟨u3,e3,O⟩:=j3.get w3;let⟨a1,a2,a3⟩:=v1.get e1;let⟨a4,a5,a6⟩:=v2.get e2;let⟨a7,a8,a9⟩:=v3.get e3;rw[zbb,zat] at ea;let⟨i,I,rfl⟩:=ea;obtain⟨hj,I⟩:=zaf.mp I;rw[List.getElem_range] at I;rw[zbe] at hj;subst I;exact⟨_,.cons r1 (.cons r2 (.cons O .nil)),λH'=>⟨by rw[yaf];show 3<=_;lia,[a1,a4,a7],.cons a3 (.cons a6 (.cons a9 .nil)),⟨_,e4 j _ _ _ hj (by simpa using a2) (by simpa using a5) (by simpa using a8),rfl,_,rfl⟩⟩⟩
    have v:s1.heap.objs.size<=(s1.heap.objs.size+6:Nat):=by lia
    have n6:H3 (s1.heap.objs.size+6:Nat)=Option.none:=by
     rw[P _ λh=>zch _ (up _ h)];exact none _ v
    have I4:=I3.rE (D:=(s1.heap.objs.size+6:Nat)) (o:=.lst (((zcE fs.length).map (λj=>ad s1.heap (7+j))).map V.ref)) n6 (zcp A1.i.sz v) (L _ v).1 (L _ v).2.1 (L _ v).2.2
     ⟨by rw[zbF,zbF,zbe,yaf];lia,_,cc,dP (λa=>a) _,by rw[e2,zcn,show F=(F.toList).toArray from rfl,e5];rfl⟩
    exact f (l.trans l3) I4 (G.alloc n6) (G.fresh n6 (m:=.lst ((yq es fs gs).map D.tup)) ⟨_,rfl,O⟩) rfl q
theorem CK(hc:X.calm=true)(hg:Gl X "list")(hm:X.mg "list"=none)(F:Gl X "range")(E:X.mg "range"=none)(ha:GA X [a,b] d)(Z:autoParam (yao [a,b] X.env=[(false,eval a X.env),(false,eval b X.env)]) r0)(y:autoParam (yao [b] X.env=[(false,eval b X.env)]) r0):
  GE X (.Call (.Name "list" p) [.Call (.Name "range" p2) [a,b] [] pos2] [] pos) (Ib d):=by
 refine .of λ{pins σ H s w δ S Qa Q} A h f=>UW (id:="list") A.i hg hm boot_list rfl (Call_ (gO A.i F E boot_range (PyProof.Rows.callWith_type1 (ha.go A h λ{us s1 w1 vs H1 ds S1} l A1 L U q=>?_) (by rw[Z,y]) (by rw[y];rfl))));let⟨i,j,rfl,n1,n2,n3,n4,q⟩:=q;simp only[av,Rep] at L;obtain⟨x,_,rfl,rfl,x',_,rfl,rfl,rfl⟩:=L;cases U with
 |cons r rr=>
  cases rr with
  |cons C rr=>
   cases rr;let⟨t,rfl⟩:=r;let⟨t',rfl⟩:=C;refine call_range_2 ?_;refine call_list_range (s:={s1 with heap:=s1.heap.push _,toks:=_}) (n:=(j - i).toNat) (A1.i.ok.hd hc) (IsRange.new ..) (small_one (by lia) (by lia) (by lia) (by lia)) (by rw[rangeSize_one];split<;>lia) (by lia) λh' tk G c kp g v=>?_;have P:Vals ((zcE (j - i).toNat).map λk:Nat=>V.int (i+k)) G.toList:=by
    refine mV (by rw[zbF,zbe,zaN,v.1]) λk x u O Y=>?_;rw[zbb,zat] at O;let⟨m,e,rfl⟩:=O;obtain⟨_,rfl⟩:=zaf.mp e;let⟨tk,rfl⟩:=v.2 k u (by simpa using Y);exact⟨tk,by simp⟩
   have er:∀l:List Nat,av X.K w1 (l.map λk:Nat=>D.int (i+k)) (l.map λk:Nat=>V.int (i+k)):=λl=>by
    induction l with
    |nil=>exact .nil
    |cons k l ih=>exact .cons .int ih
   have lt:∀o:Obj,s1.heap.objs.size<=(s1.heap.push o).objs.size:=λo=>by rw[zcc];exact zcC _
   let⟨H',I',W,C⟩:=A1.list (t:=tk) (λb o e=>kp b o (zau _ e)) (lt _) (er _) P (by rw[<-P.length,zbF,zbe,yaf];lia) (by rw[Array.toArray_toList];exact g);exact f l I' W C rfl q
end
end M
namespace M
open PySem PySem.Spec PyProof.Rows L2 M6
section
variable {σ:L2.St}{w w':Wd}{a:Expr}{p:Pos}
def WV(X:Cx)(j:List (Addr×Obj))(σ:L2.St)(o:Expr)(w:Wd)(q:List D->(aq->Prop)->aq->Prop)(Q:yai->yah->Prop):Prop:=∀{it fp tn J H' s' w' ds P S'},w.le w'->Inv X j σ H' s'->Ok X.K w' H' S'->Turn X.prog X.w X.K o J fp it tn->tn 0 s'.heap->(∀b∈fp,nI X j H' b)->Om X.K w' J ds P->q ds P S'->Q (.ref it) s'
def GI.of(h:∀{j σ H s w δ S o}{Q:yai->yah->Prop},At X j σ H s w δ S->d δ S o->WV X j σ tg w o Q->yar (model X.prog X.w) X.A (eval e X.env) (λv s1=>yar (model X.prog X.w) X.A (pyIter v) Q X.xe s1) X.xe s):GI X tg e d:=
 ⟨λj s σ H R I z=>by
  let⟨w,δ,S,o,ok,env,q,bk⟩:=z;exact h ⟨I,ok,env⟩ q λl d k T u x it q=>⟨_,_,_,_,_,rfl,d,T,u,x,bk _ _ _ _ _ _ l k it q⟩⟩
theorem At.kept(A:At X pins σ H s w δ S)(kp:∀b o,s.heap.get? b=some o->h'.get? b=some o):At X pins σ H {s with heap:=h',toks:=d} w δ S:=⟨A.i.kept kp,A.k,A.e⟩
theorem WV.push(f:WV X pins σ tg w d Q)(A:At X pins σ H s w' δ S)(l:w.le w')(T:Turn X.prog X.w X.K tg J [s.heap.objs.size] s.heap.objs.size tn)(v:tn 0 (s.heap.push o))(it:Om X.K w' J ds k)(q:d ds k S):Q (.ref s.heap.objs.size) {s with heap:=s.heap.push o,toks:=g}:=
 f l (A.i.kept λb o e=>zau _ e) A.k T v (λb u=>by rw[zaS.mp u];exact A.i.zA (zcA _) (A.i.hok.fresh (zcA _))) it q
def fQ(o:aq)(Q:List D->(aq->Prop)->aq->Prop):D->Prop
 |.lst j=>Q j (λ_=>True) o
 |.tup j=>Q j (λ_=>True) o
 |.loc n=>∃j,o[n]? =some (some (.lst j))/\Q j (λS=>S[n]? =some (some (.lst j))) o
 |_=>False
def gQ(t:AE):AI:=λj S Q=>t j S λr o=>fQ o Q r.d
def bI(O:GE X e tl):GI X tg e (gQ tl):=by
 refine .of λ{pins σ H s w δ S Qa Q} A h f=>O.go A h λ{u s1 w1 v H1 r S1} F A1 j C q=>?_;have E:∀{a y x P},v=.ref a->cW X.K H1 a y->Om X.K w1 (VD X.K a) x P->Qa x P S1->yar (model X.prog X.w) X.A (pyIter u) Q X.xe s1:=λe L it q=>by
  subst e;cases C;let⟨o,_,pl,_⟩:=A1.i.list L;exact wpAny_pyIter_list pl.isList (f.push A1 F (Cu _ _) ⟨_,zaO _ rfl,rfl,rfl⟩ it q)
 generalize r.d=d at j q;cases d with
 |lst x=>
  simp only[Rep] at j;let⟨p,y,e,h1,h2⟩:=j;exact E e (cW.of (A1.k.base _ _ h1)) (K5 h1 h2) q
 |tup x=>
  simp only[Rep] at j;let⟨p,y,rfl,h1,h2⟩:=j;cases C;let⟨o,_,pl,_⟩:=A1.i.tuple (fR.same A1.k.base h1);exact wpAny_pyIter_tuple (show s1.heap.IsTuple p o.toArray from pl) (f.push A1 F (yo _ _) ⟨_,zaO _ rfl,rfl,rfl⟩ (K4 h1 h2) q)
 |loc n=>
  simp only[Rep] at j;let⟨p,G,rfl⟩:=j;let⟨x,e,q⟩:=q;obtain⟨W,u,I,Z,U,y,rfl,Y⟩:=A1.k.live n _ e;rw[G] at I;cases I;exact E rfl (cW.of U) (K6 G) q
 |_=>exact q.elim
def cj(G:Gl X "range")(F:X.mg "range"=none)(I:GA X [a] g)(E:autoParam (yao [a] X.env=[(false,eval a X.env)]) r0):GI X tg (.Call (.Name "range" p) [a] [] pos) (qY g):=by
 refine .of λA h f=>Call_ (gO A.i G F boot_range (PyProof.Rows.callWith_type1 (I.go A h λ{us s1 w1 vs H1 ds S1} C A1 s v q=>?_) E rfl));let⟨j,rfl,⟨h1,h2⟩,q⟩:=q;simp only[av,Rep] at s;let⟨x,_,rfl,rfl,rfl⟩:=s;cases v with
 |cons r rr=>
  cases rr;let⟨g,rfl⟩:=r;refine call_range_1 (wpAny_pyIter_range (IsRange.new ..) (small_one (by lia) (by lia) h1 h2) ?_);refine f.push (A1.kept λb o e=>zau _ e) C (yp _ 0 j.toNat) ?_ ⟨λi H S w' d le ok u e=>(FD e).1,λi H S w' d x P le ok u e y=>?_,λi H S w' le ok u e=>?_⟩ q
  ·have L:((j.toNat:Nat):Int) - ((0:Nat):Int)=Builtin.Range.rangeSize 0 j 1:=by rw[rangeSize_one];split<;>lia
   show IsRangeIter _ _ ((0:Int)+((0:Nat):Int)*1) (((j.toNat:Nat):Int) - ((0:Nat):Int)) 1;rw[L];exact zaO _ rfl
  ·let⟨rfl,rfl⟩:=y;let⟨O,rfl⟩:=FD e;refine⟨w',.refl,ok,.int⟩
  ·show _<=_;rw[e];simp[cQ]
def F3(U:Gl X "reversed")(Q:X.mg "reversed"=none)(W:GE X e ta)(P:autoParam (notStar e=true) r0):GI X tg (.Call (.Name "reversed" p) [e] [] pos) (NI ta):=by
 refine .of λA h f=>UW (id:="reversed") A.i U Q boot_reversed P (W.go A h λ{u s1 w1 v H1 r S1} O A1 C x q=>?_);let⟨Z,hd,q⟩:=q;rw[hd] at C;simp only[Rep] at C;let⟨p,j,rfl,h1,h2⟩:=C;cases x;have G:=h2.length;let⟨E,x,pl,hz⟩:=A1.i.list (cW.of (A1.k.base _ _ h1));have F:=x.length;have Y:(E.toArray.size:Int) - 1=(j.length:Int) - 1 - ((0:Nat):Int):=by simp;simp_all
 refine call_reversed_list pl.isList (wpAny_pyIter_revIter (s:={s1 with heap:=s1.heap.push _}) ⟨_,zaO _ rfl,rfl,rfl⟩ (f.push A1 O (D8 p _ j.length) ⟨_,zaO _ rfl,rfl,by rw[<-Y];rfl⟩ ⟨λi H S w' d le ok I e=>?_,λi H S w' d v H' le ok I e y=>?_,λi H S w' le ok I e=>?_⟩ q))
 ·let⟨k1,k2⟩:=FG e;let⟨u,o,_⟩:=h2.get k2;refine⟨by lia,j,u,cW.of ((le.b.trans ok.base) _ _ h1),by rw[G];exact o⟩
 ·let⟨k1,k2⟩:=FG e;let⟨u,o,L⟩:=h2.get k2;let⟨rfl,g⟩:=y;have g:=g j (cW.of ((le.b.trans ok.base) _ _ h1));rw[G,o] at g;cases g;refine⟨w',.refl,ok,L.le le⟩
 ·show i=j.length;rw[e,List.length_reverse];lia
theorem vU(hg:Gl X "enumerate")(hm:X.mg "enumerate"=none)(ha:GA X [a] z)(hs:autoParam (yao [a] X.env=[(false,eval a X.env)]) r0):
  GI X (.Tuple g kk k) (.Call (.Name "enumerate" p) [a] [] pos) (G2 z):=by
 refine .of λA h f=>Call_ (gO A.i hg hm (u:=.type "enumerate") (by decide+kernel) (PyProof.Rows.callWith_type1 (ha.go A h λ{us s1 w1 vs H1 ds S1} l1 A1 L W q=>?_) (by rw[hs];rfl) (by rfl)) (by decide+kernel) (by decide+kernel));let⟨es,rfl,q⟩:=q;simp only[av,Rep] at L;let⟨x,_,rfl,⟨l,E,rfl,C,G⟩,rfl⟩:=L;cases W with
 |cons r rr=>
  cases rr;cases r;let⟨j,v1,⟨Y,nl,gl,cl,dl,tl⟩,_⟩:=A1.i.list (cW.of (A1.k.base _ _ C));have Q:l<s1.heap.objs.size:=zcy gl;have ne:∀{x y:Nat},x<y∨y<x->@Ne Addr x y:=λh e=>by have e:(_:Nat)=_:=e;simp_all
  refine call_enumerate_list (show s1.heap.IsList l j.toArray from⟨Y,gl,cl,nl,tl⟩) λh' Z Zi _ kp=>wpAny_pyIter_enum Z ?_;refine f l1 (A1.i.kept (t':=s1.toks) kp) A1.k (Cv (e:=s1.heap.objs.size+1) (it:=s1.heap.objs.size) (l:=l) (ne (.inr (Nat.lt_succ_self _))) (ne (.inl (zbi Q))) (ne (.inl Q))) ⟨⟨_,Z⟩,Zi⟩ (λb O=>?_) ⟨λi H S w' d le ok P e=>?_,λi H S w' d v H' le ok P e y=>?_,λi H S w' le ok P e=>?_⟩ q
  ·simp only[zcd,zbw,or_false] at O;have:s1.heap.objs.size<=b:=by obtain rfl|rfl:=O<;>lia
   exact A1.i.zA this (A1.i.hok.fresh this)
  ·let⟨p,h1,_⟩:=BF e;let⟨u,F,_⟩:=G.get h1;refine⟨E,u,cW.of ((le.b.trans ok.base) _ _ C),F⟩
  ·let⟨p,h1,rfl⟩:=BF e;let⟨u,F,U⟩:=G.get h1;let⟨T,c,hT,rfl,rfl,s⟩:=y;have s:=s E (cW.of ((le.b.trans ok.base) _ _ C));rw[F] at s;cases s;exact ok.pQ hT (.cons (by simp[Rep]) (.cons (U.le le) .nil))
  ·refine⟨E,cW.of ((le.b.trans ok.base) _ _ C),?_⟩;have n1:=G.length;rw[e];delta nj;rw[zbF,List.length_zipIdx];simp_all
end
end M
namespace M
open PySem L2
section
variable {c:AT}{a b r:AS}{D:ef}
def bM(h:∀N:aV->aq->Prop,(∀j o,b D j o->N j o)->a {D with nx:=N} δ S):uS a b D δ S:=h (b D) λ_ _ z=>z
def NH(h:∀Q:Bool->aq->Prop,Q false S->c δ S Q)(k:r D δ S):uS (k8 c a xS) r D δ S:=h _ (by exact k)
def G0(h:∀Q:Bool->aq->Prop,Q true S->c δ S Q)(k:a {D with nx:=r D} δ S):uS (k8 c a xS) r D δ S:=h _ (by exact k)
def qF{p:Prop}[Decidable p]{Q:Bool->aq->Prop}(h:¬p)(q:Q false S):Q (decide p) S:=by rw[yDf h];exact q
def qT{p:Prop}[Decidable p]{Q:Bool->aq->Prop}(h:p)(q:Q true S):Q (decide p) S:=by rw[yDt h];exact q
end
end M
namespace M8
open PySem PySem.Spec PyProof.Rows M5 M6 M7
theorem dD{α:Type}[DecidableEq α]:∀{l m:List α},l.Nodup->(∀x∈l,x∈m)->l.length<=m.length
 |[],_,_,_=>zcB _
 |a::l,m,hn,h=>by
  rw[zbH] at hn;have o:=h a (by simp);have:=dD hn.2 λx j=>(List.mem_erase_of_ne (show x≠a from λe=>hn.1 (e▸j))).mpr (h x (by simp[j]));rw[zan o] at this;have  :=zar o;simp only[zby];omega
end M8
namespace L2
open PySem
structure jr(K:yaJ)(x:Str)(st:Stmt):Prop where
 ex:∃f oc od kV doc pm an cdv ct osl,zcx K yaq x=some (some (.ref f))/\K.lookup f=some ⟨oc,od,.func (zcw x x (cP st) (bG st) (ah st) .none kV doc pm an cdv ct),osl⟩/\zcb K cdv x=true/\zca K (.ref f)=true
structure qL(K:yaJ)(C:Addr)(m q:Str)(st:Stmt):Prop where
 ex:∃f oc od kV doc pm an cdv ct osl,zbZ K (.ref C) m=some (some (.ref f))/\K.lookup f=some ⟨oc,od,.func (zcw m q (cP st) (bG st) (ah st) .none kV doc pm an cdv ct),osl⟩/\zcb K cdv q=true/\zca K (.ref f)=true/\zcv K (.ref f)=true
def jr.of(a:zcx K yaq x=some (some (.ref f)))(l:K.lookup f=some ⟨oc,q,.func (zcw x x (cP st) (bG st) (ah st) .none g r pm d z ct),osl⟩)(c:zcb K z x=true)(k:zca K (.ref f)=true):jr K x st:=⟨_,_,_,_,_,_,_,_,_,_,a,l,c,k⟩
def qL.of(a:zbZ K (.ref C) d=some (some (.ref f)))(l:K.lookup f=some ⟨oc,g,.func (zcw d q (cP st) (bG st) (ah st) .none z D pm r F ct),osl⟩)(c:zcb K F q=true)(k:zca K (.ref f)=true)(i:zcv K (.ref f)=true):qL K C d q st:=⟨_,_,_,_,_,_,_,_,_,_,a,l,c,k,i⟩
def jr.src(e:jr K x st)(X:K.In h)(G:h.Ns yaq mg)(b:∀(kV j pm)(s)(o ct)(q),q.length=ps.length->yaA (zcw x x (cP st) (bG st) (ah st) .none kV j pm s o ct) ⟨q,[]⟩=pure (ps.zip q)):Src K mg x ps st:=by
 obtain⟨f,oc,v,kV,j,pm,s,o,ct,u,a,l,c,k⟩:=e.ex;exact J.OO X G a l c k b
def qL.src(e:qL K C d q st)(b:∀(kV j pm)(u)(o ct)(s),s.length=ps.length->yaA (zcw d q (cP st) (bG st) (ah st) .none kV j pm u o ct) ⟨s,[]⟩=pure (ps.zip s)):M.gW K C d q ps st:=by
 obtain⟨f,oc,x,kV,j,pm,u,o,ct,v,a,l,c,k,i⟩:=e.ex;refine⟨f,_,gT l c k,⟨a,i,k⟩,(gT l c k).binds b⟩
end L2
def L2.bZ(h1:autoParam (g.kind=.function) r0)(h2:autoParam (g.isCoroutine=false) r0)(u:autoParam (g.isGenerator=false) r0)(s:N.Nodup:=by decide+kernel)(q:autoParam (N.take d.length=d) r0)(o:∀x∈d,g.names.lookup x=some .local∨g.names.lookup x=some .cell:=by decide+kernel)(j:∀y∈g.names,y.2≠ .free:=by decide+kernel):L2.ak N d g:=⟨h1,h2,u,s,q,o,j⟩
namespace M
open PySem L2
def ow(D:Def X.prog X.w X.K X.mg X.base k x ps (az X.K sp))(q:aW j X.A)(v:GA X (e::d) r)(s:autoParam (k<=j) r1)(u:autoParam (Gl X x) r0)(a:(x==("__debug__":Str))=false:=by decide+kernel)(o:autoParam ((e::d).all notStar=true) r0):GE X (.Call (.Name x g) (e::d) [] pos) (aCall sp r):=M.lZ D (q.mono s) u v a o
section
variable {a b:Expr}
def ixs(q:GE X a ta)(o:GE X b tb)(j:oz b:=by exact λ_ _=>rfl):GE X (.Subscript a b pos) (Jv xU ta tb):=A9 TN q o j
def bT(q:GE X a ta)(o:oz (.Constant (.int d) g pos'):=by exact λ_ _=>rfl):GE X (.Subscript a (.Constant (.int d) g pos') pos) (Jv xU ta (aC (.int d))):=A9 TN q ai o
def cz(i)(hN:X.N.Nodup)(u:GE X e ta)(q:autoParam (X.N[i]? =some x) r0)(j:Loc X.env.scope x:=by first|exact .inl rfl|exact .inr rfl)(o:autoParam (yat e (some (.Name x pos')) pos.line X.env=pure false) r0)(s:X.fn x=true∨X.env.scope.names.lookup x=some .local:=by first|exact .inl rfl|exact .inr rfl|assumption):GS X (.Assign [.Name x pos'] e pos) (z6 ta (cS i)):=yQ hN q j u o s
def gm(i)(hN:X.N.Nodup)(o:autoParam (X.N[i]? =some x) r0)(j:Loc X.env.scope x:=by first|exact .inl rfl|exact .inr rfl)(q:X.fn x=true∨X.env.scope.names.lookup x=some .local:=by first|exact .inl rfl|exact .inr rfl|assumption):GG X (.Name x pos) (cS i):=aU hN o j q
def kb(y:s9 X (.builtin g) r)(u:X.mg x=none)(C:GA X (e::d) k)(v:autoParam (Gl X x) r0)(o:bootBuiltins x=some (.builtin g):=by decide+kernel)(s:x≠"__name__":=by decide+kernel)(j:(x==("__debug__":Str))=false:=by decide+kernel)(q:autoParam ((e::d).all notStar=true) r0):GE X (.Call (.Name x z) (e::d) [] pos) (aCall r k):=jA y v u o C s j q
def kt(y:s9 X (.type T) r)(u:X.mg x=none)(C:GA X (e::d) g)(v:autoParam (Gl X x) r0)(o:bootBuiltins x=some (.type T):=by decide+kernel)(s:x≠"__name__":=by decide+kernel)(j:(x==("__debug__":Str))=false:=by decide+kernel)(q:autoParam ((e::d).all notStar=true) r0):GE X (.Call (.Name x k) (e::d) [] pos) (aCall r g):=rX y v u o C s j q
def cm1(N)(caps)(I:GI X (.Name x d) a wi)(E:∀s₀ H₀ C j,Se (jv X scope N s₀ H₀ C j) ifs g)(O:∀s₀ H₀ C j,GE (jv X scope N s₀ H₀ C j) e ta)(v:Rt scope N=true:=by decide+kernel)(o:autoParam (jG X.N X.env scope N caps=true) r0)(q:autoParam (freeOk X.env scope=true) r0)(P:autoParam (X.calm=true) r0)(y:autoParam (N[0]? =some x) r0)(G:∀s₀ H₀ C j,Loc (jv X scope N s₀ H₀ C j).env.scope x:=by exact λ_ _ _ _=>.inl rfl)(L:∀s₀ H₀ C j,(jv X scope N s₀ H₀ C j).fn x=true∨(jv X scope N s₀ H₀ C j).env.scope.names.lookup x=some .local:=by first|exact λ_ _ _ _=>.inl rfl|exact λ_ _ _ _=>.inr rfl)(F:∀x,foldedSetIterable a X.env x=pure x:=by intro _;rfl):GE X (.ListComp e [⟨.Name x d,a,ifs,0⟩] scope pos) (dh caps wi (cS 0) g ta):=bS (c9 v) o q P I (λs H C f=>aU (c9 v).nd y (G s H C f) (L s H C f)) E O F
def aY(o:GE X e ta)(j:autoParam (notStar e=true) r0):GA X [e] (iR ta gu):=aE o aj j
end
end M
open M renaming pv -> Xp, aE -> Xq, aa -> Xr, aY -> Xs, af -> Xu, ai -> Xv, aj -> Xw, bT -> Xx, ao -> Xy, cz -> Xz, aH -> XA, aJ -> XC, aD -> XD, aP -> XE, aR -> XF, gm -> XG, bw -> XH, aK -> XJ, aF -> XM, ig -> XO, ow -> XQ, aN -> XT, bN -> XU, jA -> XW, ixs -> XX, bI -> XZ, aU -> X6, eu -> X7, bF -> X8, aZ -> X9, cC -> Yb, bD -> Yc, bf -> Yd, dz -> Ye, rX -> Yg, eF -> Yh, fk -> Yi, bS -> Yj, bY -> Yk, cR -> Yl, fj -> Ym, cB -> Yn, GE -> Yo, aC -> Yp, cH -> Yq, fc -> Yr, cj -> Ys, cF -> Yt, pw_pt -> Yu, fO -> Yv, fM -> Yw, gK -> Yx, yT -> Yy, pw_and -> Yz, eS -> YA, eO -> YB, mh -> YC, iD -> YD, fN -> YE, ret -> YF, CT -> YG, iE -> YH, cutD -> YI, pw_and1 -> YV, pw_or -> YW, pw_or1 -> YX
namespace K36
open PySem L2
noncomputable def top(i:Nat):Stmt:=PySem.Challenge.pw_pathask_k36_who_is_reached.main.body.getD i (.Pass ⟨0,0,0,0⟩)
noncomputable abbrev Cm:List Str:=["_law_script","_law_k"]
noncomputable abbrev lO:=Cm
def O5:ak Cm lO (ah (top 37)):=L2.bZ
noncomputable abbrev IM:List Str:=[]
noncomputable abbrev fE:List Str:=[]
def JY:ak IM fE (ah (top 40)):=⟨rfl,rfl,rfl,by simp,rfl,by decide+kernel,by decide+kernel⟩
noncomputable abbrev IW:List Str:=[]
noncomputable abbrev fF:List Str:=[]
def J1:ak IW fF (ah (top 41)):=⟨rfl,rfl,rfl,by simp,rfl,by decide+kernel,by decide+kernel⟩
noncomputable abbrev Cg:List Str:=["_law_way","_law_number"]
noncomputable abbrev gY:=Cg
def OZ:ak Cg gY (ah (top 45)):=L2.bZ
noncomputable abbrev yb:List Str:=["_law_cell","_law_sizes","_law_found","_law_figures","_law_k","_law_mixed"]
noncomputable abbrev d9:=yb.take 2
def fL:ak yb d9 (ah (top 38)):=L2.bZ
structure Txt(K:yaJ)(mg:Str->Option yai)(C fi G gi:Addr):Prop where
 isinstance:mg "isinstance"=none
 dict:mg "dict"=none
 reversed:mg "reversed"=none
 len:mg "len"=none
 tuple:mg "tuple"=none
 list:mg "list"=none
 range:mg "range"=none
 sorted:mg "sorted"=none
 set:mg "set"=none
 zip:mg "zip"=none
 max:mg "max"=none
 min:mg "min"=none
 enumerate:mg "enumerate"=none
 begin:∃t,mg "BEGIN"=some (.int 0 t)
 end_:∃t,mg "END"=some (.int 1 t)
 Qz:∃a,mg "LEAVES"=some (.ref a)/\∀H:Hp,fR K H a ((["stay","step","at","off"]:List Str).map V.str)
 stay:∃a,mg "STAY"=some (.ref a)/\∀H:Hp,fR K H a ((["stay"]:List Str).map V.str)
 any:∃t,mg "ANY"=some (.str "*" t)
 knots:∃t,mg "MOST_KNOTS"=some (.int 40 t)
 JJ:∃t,mg "MOST_TIES"=some (.int 300 t)
 marks5:∃t,mg "MOST_MARKS"=some (.int 5 t)
 mg_Web:mg "Web"=some (.ref C)
 cl:yi K C
 Bj:Mk K C fi
 n_marked:dI K C "marked"
 n_tied:dI K C "tied"
 n_near:dI K C "near"
 mg_Ground:mg "Ground"=some (.ref G)
 clG:yi K G
 mksG:Mk K G gi
 n_nearG:dI K G "near"
 n_markedG:dI K G "marked"
 n_pathsG:dI K G "paths"
def wW(e:∃t,mg x=some (.int d t))(a:Gl X x)(j:X.mg=mg)(hd:(x==("__debug__":Str))=false):Yo X (.Name x pos) (Yp (.int d)):=by
 let⟨t,e⟩:=e;exact M.kH (v:=.int d) a (by simp_all) ⟨t,rfl⟩ (λ_=>.int) hd
theorem rL:∀ss:List Str,M.av K d (ss.map M.D.str) (ss.map V.str)
 |[]=>.nil
 |s::ss=>.cons .str (rL ss)
def NN(e:∃a,mg x=some (.ref a)/\∀H:Hp,fR K H a (ss.map V.str))(j:Gl X x)(q:X.mg=mg)(o:X.K=K)(hd:(x==("__debug__":Str))=false):Yo X (.Name x pos) (Yp (.tup (ss.map M.D.str))):=by
 let⟨a,e,h⟩:=e;subst o;exact M.kH (v:=.ref a) j (by simp_all) rfl (λw=>by refine⟨a,_,rfl,h _,rL ss⟩) hd
def Uo(e:∃t,mg x=some (.str d t))(a:Gl X x)(j:X.mg=mg)(hd:(x==("__debug__":Str))=false):Yo X (.Name x pos) (Yp (.str d)):=by
 let⟨t,e⟩:=e;exact M.kH (v:=.str d) a (by simp_all) ⟨t,rfl⟩ (λ_=>.str) hd
def Txt.P5(T:Txt K mg C fi G gi)(j:autoParam (Gl X "ANY") r0)(a:autoParam (X.mg=mg) r0):Yo X (.Name "ANY" pos) (Yp (.str "*")):=Uo T.any j a (by rfl)
def Txt.qU(T:Txt K mg C fi G gi)(j:autoParam (Gl X "MOST_KNOTS") r0)(a:autoParam (X.mg=mg) r0):Yo X (.Name "MOST_KNOTS" pos) (Yp (.int 40)):=wW T.knots j a (by rfl)
def Txt.qS(T:Txt K mg C fi G gi)(j:autoParam (Gl X "MOST_MARKS") r0)(a:autoParam (X.mg=mg) r0):Yo X (.Name "MOST_MARKS" pos) (Yp (.int 5)):=wW T.marks5 j a (by rfl)
def Txt.t8(T:Txt K mg C fi G gi)(j:autoParam (Gl X "MOST_TIES") r0)(a:autoParam (X.mg=mg) r0):Yo X (.Name "MOST_TIES" pos) (Yp (.int 300)):=wW T.JJ j a (by rfl)
def Txt.vW(T:Txt K mg C fi G gi)(j:autoParam (Gl X "BEGIN") r0)(a:autoParam (X.mg=mg) r0):Yo X (.Name "BEGIN" pos) (Yp (.int 0)):=wW T.begin j a (by rfl)
def Txt.Gd(T:Txt K mg C fi G gi)(j:autoParam (Gl X "END") r0)(a:autoParam (X.mg=mg) r0):Yo X (.Name "END" pos) (Yp (.int 1)):=wW T.end_ j a (by rfl)
def Txt.CM(T:Txt K mg C fi G gi)(j:autoParam (Gl X "LEAVES") r0)(a:autoParam (X.mg=mg) r0)(o:autoParam (X.K=K) r0):Yo X (.Name "LEAVES" pos) (Yp (.tup [.str "stay",.str "step",.str "at",.str "off"])):=NN (ss:=["stay","step","at","off"]) T.Qz j a o (by rfl)
def Txt.t7(T:Txt K mg C fi G gi)(j:autoParam (Gl X "STAY") r0)(a:autoParam (X.mg=mg) r0)(o:autoParam (X.K=K) r0):Yo X (.Name "STAY" pos) (Yp (.tup [.str "stay"])):=NN (ss:=["stay"]) T.stay j a o (by rfl)
open M
def sz(h:decide (n<=100)=true):n<=yag:=by rw[yaf];have:=of_decide_eq_true h;lia
def aG:xU (.tup ds) (.int d) S g=∃e,ia ds d=some e/\g (.dat e) S:=rfl
def cA:xU (.lst ds) (.int d) S g=∃e,ia ds d=some e/\g (.dat e) S:=rfl
def dF{α:Type}{a:α}{r:List α}:ia (a::r) (0:Int)=some a:=(dX (j:=0) rfl:ia (a::r) ((0:Nat):Int)=some a)
def dY{α:Type}{a b:α}{r:List α}:ia (a::b::r) (1:Int)=some b:=(dX (j:=1) rfl:ia (a::b::r) ((1:Nat):Int)=some b)
def at2{α:Type}{a b c:α}{r:List α}:ia (a::b::c::r) (2:Int)=some c:=(dX (j:=2) rfl:ia (a::b::c::r) ((2:Nat):Int)=some c)
def NZ{α:Type}{a b c d:α}{r:List α}:ia (a::b::c::d::r) (3:Int)=some d:=(dX (j:=3) rfl:ia (a::b::c::d::r) ((3:Nat):Int)=some d)
def NY(h:z<ds.length):∃e,ia ds (z:Int)=some e/\e∈ds:=⟨ds[z],dX (zam h),zbv h⟩
def pick(h:z<ds.length)(k:∀e∈ds,d (.dat e) S):xU (.lst ds) (.int z) S d:=by
 let⟨e,h1,h2⟩:=NY h;refine⟨e,h1,k e h2⟩
inductive Lf where
 |stay|step (b:Bool) (x:Str)|mk (b:Bool) (m:Str)
noncomputable def side(b:Bool):Str:=if b then "on" else "back"
noncomputable def Wc(b:Bool):Str:=if b then "at" else "off"
noncomputable def lD:Lf->D
 |.stay=>.tup [.str "stay"]
 |.step b x=>.tup [.str "step",.str (side b),.str x]
 |.mk b m=>.tup [.str (Wc b),.str m]
noncomputable def WD:List Str:=["a","ab","stay","*"]
noncomputable def MK:List Str:=["a","many"]
def Aa:Lf->Prop
 |.stay=>True
 |.step _ x=>x∈WD
 |.mk _ m=>m∈MK
def D5(h:x∈WD):dO x=true:=by
 simp only[WD,zcd,zbw,or_false] at h;obtain rfl|rfl|rfl|rfl:=h<;>decide+kernel
def g7(h:x∈MK):dO x=true:=by
 simp only[MK,zcd,zbw,or_false] at h;obtain rfl|rfl:=h<;>decide+kernel
theorem uy{m:Str}:∀{mg:List Str},Js (.str m) mg=decide (m∈mg)
 |[]=>rfl
 |a::r=>by
  have j:=uy (m:=m) (mg:=r);unfold Js at j⊢;rw[zce,j];simp only[Ua];simp
noncomputable def hold(l:Lf)(ms:List Str):Bool:=match l with
 |.stay=>true
 |.step _ _=>false
 |.mk b m=>decide (m∈ms)==b
noncomputable def take(l:Lf)(s w:Str):Bool:=match l with
 |.step b x=>decide (side b=s)&&(decide (x=w)||decide (x="*"))
 |_=>false
def texts(ss:List Str):Prop:=ss.length<=50/\∀x∈ss,dO x=true
theorem av0{d}{l:aV}{S}{Q:AK}:fy 0 (some d::l) S Q=Q (.dat d) S:=by simp[fy]
theorem av1{n a}{l:aV}{S}{Q:AK}:fy (n+1) (a::l) S Q=fy n l S Q:=rfl
theorem eb0{c:Bool}{p:Bool->Prop}:(∃b,(R.dat (D.bl c)).d=D.bl b/\p b)=p c:=propext ⟨λ⟨b,e,h⟩=>by cases e;exact h,λh=>⟨c,rfl,h⟩⟩
local macro_rules
|`(tactic|push_cast[$x,*])=>do let y<-("RA U3 U8 WH U4 aCall iR gu aC Jv Vy aB uR WI uS k8 zV Il R9 z6 cS xS RL WG Ic uT Ij L4 qv e8 FQ Bg KZ KU Ig H9 HZ Lk Lj OH JI JG true_and Mb Ma EY EU JW EW ET iB EV zao zaq List.set_cons_zero List.set_cons_succ zcD.injEq exists_eq_left' List.cons.injEq and_true D.ty.injEq D.bl.injEq D.int.injEq D.str.injEq and_assoc exists_and_left exists_eq_left exists_and_right PJ Km Bool.false_eq_true if_true if_false Bool.not_true Bool.not_false".splitOn).toArray.mapM λs=>`(Lean.Parser.Tactic.simpLemma|$(Lean.mkIdent s.toName):term);`(tactic|simp only[↓av0,↓av1,↓eb0,$x,*,$y,*])
def ER:AN:=λa S Q=>∃(ns:List Int)(k:Nat),a=[.mZ ns,.int k]/\∀z:Int,Q (.dat (.int z)) S
def Rm(T:Txt K mg C fi G gi)(F:Src K mg "_law_cell_at" lO (top 37)):Def P w K mg base 1 "_law_cell_at" lO (az K ER):=by
 refine eE F O5 (λj S Q h=>?_) (λf o A outer s H E u=>?_)
 ·let⟨ns,k,rfl,_⟩:=h;rfl
 ·refine⟨_,(Xr (XH (XD M.KJ (Xp 1) (XW Yi (by rfl) T.len (by rfl) (Xs (Xp 0))) (aT _)) (Xu (XC (XX (Xp 0) (Xp 1)))) XT) (Xu (XC Xv))),λj S Q h=>?_⟩;let⟨ns,k,rfl,q⟩:=h;have a:aO Cm [.mZ ns,.int k]=[some (.mZ ns),some (.int k)]:=rfl;rw[a];push_cast[true_and];refine⟨ns.length,rfl,fH (λh=>?_) (λh=>q _)⟩;have h:k<ns.length:=by simp_all
  refine⟨ns[k],dX (zam h),cN rfl (q _)⟩
def nN:AN:=λa S Q=>a=[]/\Q (.new (.lst [.str "a",.str "ab",.str "stay"])) S
def Ls(T:Txt K mg C fi G gi)(F:Src K mg "_law_words" fE (top 40)):Def P w K mg base 1 "_law_words" fE (az K nN):=by
 refine eE F JY (λa S Q h=>?_) (λf j A outer s H E o=>?_)
 ·let⟨rfl,_⟩:=h;rfl
 ·refine⟨_,(Xu (XC (XF (Xq XE (Xq XE (Xs XE)))))),λa S Q h=>?_⟩;let⟨rfl,q⟩:=h;exact⟨sz rfl,gJ rfl q⟩
def nO:AN:=λa S Q=>a=[]/\Q (.new (.lst [.str "a",.str "many"])) S
def Ly(T:Txt K mg C fi G gi)(F:Src K mg "_law_marks" fF (top 41)):Def P w K mg base 1 "_law_marks" fF (az K nO):=by
 refine eE F J1 (λa S Q h=>?_) (λf j A outer s H E o=>?_)
 ·let⟨rfl,_⟩:=h;rfl
 ·refine⟨_,(Xu (XC (XF (Xq XE (Xs XE))))),λa S Q h=>?_⟩;let⟨rfl,q⟩:=h;exact⟨sz rfl,gJ rfl q⟩
def tM:AN:=λj S Q=>∃(a b:Nat),j=[.int a,.int b]/\a<5/\∀l:Lf,Aa l->Q (.dat (lD l)) S
def Ra(T:Txt K mg C fi G gi)(F:Src K mg "_law_leaf" gY (top 45))(j:Def P w K mg base 1 "_law_words" fE (az K nN))(o:Def P w K mg base 1 "_law_marks" fF (az K nO)):Def P w K mg base 2 "_law_leaf" gY (az K tM):=by
 refine eE F OZ (λL S Q h=>?_) (λf O A outer s H E y=>?_)
 ·let⟨a,b,rfl,_⟩:=h;rfl
 ·refine⟨_,(Xr (XH (XD (X7 y) (Xp 0) Xv (aT _)) (Xu (XC (XA (Xs XE)))) XT) (Xr (XH (XD M.KJ (Xp 0) Xv (aT _)) (Xu (XC (XA (Xq XE (Xq (XX (XF (Xq XE (Xs XE))) (Xy Yb (Xp 1) Xv)) (Xq (XX (Xy XU (Yx j (y.mono (by decide)) (by rfl)) (XF (Xs XE))) (Xy Yb (Xy YC (Xp 1) Xv) Xv)) Xw)))))) XT) (Xu (XC (XA (Xq (XX (XF (Xq XE (Xs XE))) (Xy M.vZ (Xp 0) Xv)) (Xq (XX (Yx o (y.mono (by decide)) (by rfl)) (Xy Yb (Xp 1) Xv)) Xw))))))),λL S Q h=>?_⟩;let⟨a,b,rfl,U,q⟩:=h;have I:aO Cg [.int a,.int b]=[some (.int a),some (.int b)]:=rfl;rw[I];push_cast[true_and];refine fH (λh=>⟨sz rfl,cN rfl (q .stay trivial)⟩) (λh=>?_);refine fH (λh1=>?_) (λh1=>?_)
  ·refine⟨sz rfl,by decide,?_⟩;refine pick (by show b % 2<2;lia) λe u=>?_;obtain⟨c,rfl⟩:∃c,e=.str (side c):=by
    simp only[zcd,zbw,or_false] at u;obtain rfl|rfl:=u
    ·exact⟨true,rfl⟩
    ·exact⟨false,rfl⟩
   refine⟨rfl,sz rfl,sz rfl,⟨by decide,by decide⟩,by decide,?_⟩;refine pick (by show b / 2 % 4<4;lia) λe u=>?_;obtain⟨x,rfl,v⟩:∃x,e=.str x/\x∈WD:=by
    simp only[zbx,zbM,zcd,zbw,or_false] at u;obtain rfl|rfl|rfl|rfl:=u<;>refine⟨_,rfl,by simp[WD]⟩
   exact⟨sz rfl,cN rfl (q (.step c x) v)⟩
  ·have W:¬((a:Int)<3):=by simp_all
   refine⟨sz rfl,?_⟩;rw[show(a - 3)=((a - 3:Nat):Int) by lia];refine pick (by show a - 3<2;lia) λe u=>?_;obtain⟨c,rfl⟩:∃c,e=.str (Wc c):=by
    simp only[zcd,zbw,or_false] at u;obtain rfl|rfl:=u
    ·exact⟨true,rfl⟩
    ·exact⟨false,rfl⟩
   refine⟨rfl,by decide,?_⟩;refine pick (by show b % 2<2;lia) λe u=>?_;obtain⟨x,rfl,v⟩:∃x,e=.str x/\x∈MK:=by
    simp only[zcd,zbw,or_false] at u;obtain rfl|rfl:=u<;>refine⟨_,rfl,by simp[MK]⟩
   exact⟨sz rfl,cN rfl (q (.mk c x) v)⟩
noncomputable def nL(ns:List Nat):List D:=ns.map λn:Nat=>D.int n
theorem kB:∀ns:List Nat,bX (nL ns)=true
 |[]=>rfl
 |n::ns=>by
  have:=kB ns;unfold nL at this⊢;simp only[zcf,bX,b7,this,zci]
def wm:DA (.int d) (.int g) S k=(DQ d g/\k (.dat (.int (d*g))) S):=rfl
def kc:AN:=λq S Q=>∃(z:Int)(j:List Nat),q=[.int z,.lst (nL j)]/\(∀n∈j,0<n/\n<1000)/\j.length<=100/\∀o:List Nat,o.length=j.length->(∀(i:Nat)(a b),o[i]? =some a->j[i]? =some b->a<b)->Q (.new (.lst (nL o))) S
def LC(T:Txt K mg C fi G gi)(F:Src K mg "_law_draws" d9 (top 38)):Def P w K mg base 1 "_law_draws" d9 (az K kc):=by
 refine eE F fL (λds S Q h=>?_) (λf cdv A outer s H E v=>?_)
 ·let⟨z,u,rfl,_⟩:=h;rfl
 ·refine⟨_,(Xr (Xz 2 fL.nd (XO (XF Xw))) (Xr (Xz 3 fL.nd (Xy M.vZ (Xp 0) (Xy M.Nr Xv Xv))) (Xr (Yc PassesOwn.never rfl (Ys (by rfl) T.range (Xq (XW Yi (by rfl) T.len (by rfl) (Xs (Xp 1))) Xw)) (XG 4 fL.nd) (Xr (Xz 5 fL.nd (Xy Yb (Xy Yh (Xy XU (Xy Yb (Xp 0) Xv) Xv) (Xy XU (Xy Yh (Xp 4) (Xp 4)) Xv)) Xv)) (Xr (Xz 5 fL.nd (Xy Yb (Xy Yh (Xy XU (Xy XU (Xy Yh (Xp 5) (Xp 5)) (Xy Yh Xv (Xp 4))) Xv) Xv) Xv)) (Xr (XH (XD M.KO (Xp 0) (Xy M.Nr Xv Xv) (aT _)) (Xu (Xz 5 fL.nd (Xp 3))) XT) (Xr (XJ (Ye PySem.F.plainAttrs_list PySem.F.slot_list_append PySem.F.type_list_append Yq (Xp 2) (Xq (Xy Yb (Xp 5) (XX (Xp 1) (Xp 4))) Xw))) (Xu (Xz 3 fL.nd (Xy YC (Xp 3) (XX (Xp 1) (Xp 4)))))))))) (Xu (XC (Xp 2)))))),λds S Q h=>?_⟩;let⟨z,u,rfl,hs,hl,q⟩:=h;have e0:aO yb [.int z,.lst (nL u)]=[some (.int z),some (.lst (nL u)),none,none,none,none]:=rfl;rw[e0];push_cast[bx,qv,gu,gV,qY];refine⟨zcB _,⟨by decide,by decide,by decide⟩,u.length,by simp[ie,nL],by simp,by lia,?_⟩;refine bE (λrest Z S'=>∃(o:List Nat)(Y:Int)(v4 v5:Option D),Z=[some (.int z),some (.lst (nL u)),some (.loc S.length),some (.int Y),v4,v5]/\S'=S++[some (.lst (nL o))]/\rest=((zcE u.length).drop o.length).map (λa:Nat=>D.int a)/\o.length<=u.length/\∀(i a b:Nat),o[i]? =some a->u[i]? =some b->a<b) ?_ ?_ _ _ _ ⟨[],_,none,none,rfl,rfl,by simp[cQ],zcB _,λi a b h=>by simp at h⟩
  ·intro Z S' k;let⟨o,Y,v4,v5,rfl,rfl,v,hle,I⟩:=k;have U:o.length=u.length:=by
    have:=congrArg zcz v;simp at this;lia
   refine⟨trivial,_,rfl,?_⟩;exact nS (zcA _) (kB o) (by simp) (by simp) (q o U I)
  ·intro t rest Z S' N' k hN';let⟨o,Y,v4,v5,rfl,rfl,v,hle,I⟩:=k;have hi:o.length<u.length:=by
    obtain h|h:=zct o.length u.length
    ·exact h
    ·rw[List.drop_of_length_le (by simp_all)] at v;simp at v
   rw[zai (by simp_all),List.getElem_range] at v;injection v with e1 e2;subst e1;subst e2;have hb  :=zam hi;let⟨b0,b1⟩:=hs _ (zbv hi);generalize u[o.length]=b at hb b0 b1;have hat:ia (nL u) o.length=some (.int b):=dX (by rw[nL,zbb,hb];rfl);have es:aX (S++[some (.lst (nL o))]) (.loc S.length)=.lst (nL o):=by simp[aX,MO.d]
   have W:∀L O,K7 "list" (aX (S++[some (.lst (nL o))]) (.loc S.length))/\xU (.lst (nL u)) (.int o.length) (S++[some (.lst (nL o))]) (λy S2=>aI (λx j=>0<j) (λi j=>D.int (i % j)) (.int L) y.d S2 λx X=>k9 (.loc S.length) [x.d] X λx X=>xU (.lst (nL u)) (.int o.length) X λy S2=>aI R3 (λi j=>D.int (i / j)) (.int Y) y.d S2 λr X=>N' [some (.int z),some (.lst (nL u)),some (.loc S.length),some r.d,some (.int o.length),O] X):=λL O=>by
    rw[es];refine⟨rfl,?_⟩;push_cast[cA,hat,zcD.injEq,exists_eq_left'];have h0:=Int.emod_nonneg L (show(b:Int)≠0 by lia);have h1:=Int.emod_lt_of_pos L (show(0:Int)<b by simp_all);obtain⟨c,hc⟩:∃c:Nat,L % b=c:=⟨(L % b).toNat,by lia⟩
    rw[hc] at h1⊢;refine⟨by lia,S.length,nL o,_,rfl,rfl,by simp,by rw[nL,zbF,yaf];lia,?_⟩;refine⟨⟨by simp_all,by lia⟩,hN' _ _ ⟨o++[c],_,_,_,rfl,by simp[nL],by simp,by rw[zaP];exact hi,λi x y h2 h3=>?_⟩⟩;obtain h|h:=zct i o.length
    ·rw[zag h] at h2;exact I i x y h2 h3
    ·obtain rfl:i=o.length:=by
      have:=(zaf.mp h2).1;simp at this;lia
     simp_all
   push_cast[wm];refine⟨by decide,.inl ⟨by lia,by lia⟩,.inl ⟨by lia,by lia⟩,by decide,?_⟩;refine⟨.inl ⟨by lia,by lia⟩,.inl ⟨by decide,by decide⟩,.inr ⟨by decide,by decide⟩,by decide,⟨by decide,by decide,by decide⟩,fH (λ_=>?_) (λ_=>?_)⟩
   ·push_cast[ou];exact W _ _
   ·push_cast[ou];exact W _ _
section
open M6
noncomputable abbrev T3(t:Str×Str×Str):D:=.tup [.str t.1,.str t.2.1,.str t.2.2]
def oY(t):py (T3 t)=.tuple [.str t.1,.str t.2.1,.str t.2.2]:=by rfl
def vO(h:py (T3 d)=py (T3 g)):d=g:=by
 obtain⟨q,o,j⟩:=d;simp only[oY] at h;simp_all
noncomputable def iH(t:Str×Str×Str):Bool:=dO t.1&&dO t.2.1&&dO t.2.2
def good3(h:iH d=true):cD (T3 d):=by
 delta iH at h;rw[zbB,zbB] at h;refine⟨by rfl,?_,?_,_,rfl⟩
 ·rw[oY];simp[cG,d7,PyData.canLay0,iI h.1.1,iI h.1.2,iI h.2]
 ·rw[oY];simp[PyData.depth,PyData.depthAll]
def fX(h:∀t∈ts,iH t=true):B7 (ts.map T3):=
 ⟨λk a=>by let⟨t,j,rfl⟩:=zcm.mp a;exact good3 (h t j),λk a=>by let⟨t,_,rfl⟩:=zcm.mp a;refine⟨_,_,oY t⟩,λk a l o=>by let⟨t,_,rfl⟩:=zcm.mp a;let⟨u,_,rfl⟩:=zcm.mp o;rfl⟩
def QS(ts:List (Str×Str×Str))(t):zw (ts.map T3) (T3 t)=decide (t∈ts):=by
 delta zw;rw[zcl];by_cases h:t∈ts
 ·rw[yDt h];exact List.any_eq_true.mpr ⟨t,h,by simp⟩
 ·rw[yDf h];refine List.any_eq_false.mpr λx a z=>h ?_;have  :=of_decide_eq_true z;rw[<-vO this];exact a
def put3(h:d ∉ ts):putN (ts.map T3) (T3 d)=(ts++[d]).map T3:=by
 have:=QS ts d;rw[yDf h] at this;delta putN;delta zw at this;rw[this,zbK];rfl
def D7(j:d.Perm (ts.map T3)):∃a:List (Str×Str×Str),a.Perm ts/\d=a.map T3:=fh j
end
open PySem L2 M
abbrev Mv:=Nat×Lf×Nat
inductive Pt where
 |lf (l:Lf)|many (p:Pt)|seq (ps:List Pt)|alt (ps:List Pt)
mutual
noncomputable def tD:Pt->D
 |.lf l=>lD l
 |.many p=>.tup [.str "many",tD p]
 |.seq ps=>.tup [.str "then",.tup (yr ps)]
 |.alt ps=>.tup [.str "either",.tup (yr ps)]
noncomputable def yr:List Pt->List D
 |[]=>[]
 |p::ps=>tD p::yr ps
end
theorem j6:∀ps,yr ps=ps.map tD
 |[]=>rfl
 |p::ps=>by simp[yr,j6 ps]
mutual
noncomputable def oc:Pt->Nat
 |.lf _=>1
 |.many p=>oc p+2
 |.seq ps|.alt ps=>ue ps+1
noncomputable def ue:List Pt->Nat
 |[]=>0
 |p::ps=>oc p+ue ps
end
mutual
noncomputable def dp:Pt->Nat
 |.lf _=>0
 |.many p=>dp p+1
 |.seq ps|.alt ps=>Jt ps+1
noncomputable def Jt:List Pt->Nat
 |[]=>0
 |p::ps=>max (dp p) (Jt ps)
end
mutual
def xY:Pt->Prop
 |.lf l=>Aa l
 |.many p=>xY p
 |.seq ps|.alt ps=>z8 ps
def z8:List Pt->Prop
 |[]=>True
 |p::ps=>xY p/\z8 ps
end
theorem pI:∀{ps:List Pt},z8 ps->∀p∈ps,xY p
 |[],_,p,h=>by simp at h
 |q::ps,g,p,h=>by
  obtain rfl|h:=zcd.mp h
  ·exact g.1
  ·exact pI g.2 p h
theorem uE:∀{ps:List Pt},∀p∈ps,dp p<=Jt ps
 |[],p,h=>by simp at h
 |q::ps,p,h=>by
  simp only[Jt];obtain rfl|h:=zcd.mp h
  ·lia
  ·have:=uE p h;lia
def l9:∀p,0<oc p:=λp=>by cases p<;>simp only[oc]<;>lia
theorem ud:∀ps:List Pt,ps.length<=ue ps
 |[]=>zcA _
 |p::ps=>by
  have:=ud ps;have:=l9 p;simp only[ue,zby];lia
structure Wr where
 ms:Nat->List Str
 sd:Nat->Str
 wd:Nat->Str
def Ws(W:Wr)(l:Lf)(i j:Nat):Prop:=(hold l (W.ms i)=true/\i=j)∨(take l (W.sd i) (W.wd i)=true/\j=i+1)
inductive Mf(R:Nat->Nat->Prop):Nat->Nat->Prop
 |nil {i:Nat}:Mf R i i
 |snoc {i k j:Nat}:Mf R i k->R k j->Mf R i j
mutual
def WU(W:Wr):Pt->Nat->Nat->Prop
 |.lf l,i,j=>Ws W l i j
 |.many p,i,j=>Mf (WU W p) i j
 |.seq ps,i,j=>Vg W ps i j
 |.alt ps,i,j=>Vh W ps i j
def Vg(W:Wr):List Pt->Nat->Nat->Prop
 |[],i,j=>i=j
 |p::ps,i,j=>∃k,WU W p i k/\Vg W ps k j
def Vh(W:Wr):List Pt->Nat->Nat->Prop
 |[],_,_=>False
 |p::ps,i,j=>WU W p i j∨Vh W ps i j
end
abbrev Ed:=Nat×Pt×Nat
noncomputable def eM(m:Mv):Ed:=(m.1,.lf m.2.1,m.2.2)
structure jt(p:Pt)(n:Nat)(E:List Ed):Prop where
 two:2<=n
 Nu:∀e∈E,e.1<n/\e.2.2<n
def jt.start(p):jt p 2 [(0,p,1)]:=⟨zcA _,by simp⟩
def jt.cut(h:jt d n (g::q))(a:∀c∈r,c.1<n+k/\c.2.2<n+k):jt d (n+k) (r++q):=
 ⟨by have:=h.two;lia,λc j=>(zbE.mp j).elim (a c) λz=>by have:=h.Nu c (zaC _ z);lia⟩
def jt.Ro(h:jt d n k)(g:∀e,e∈q↔e∈k):jt d n q:=⟨h.two,λe j=>h.Nu e ((g e).mp j)⟩
theorem jt.alt(h:jt d n ((g,.alt z,r)::F)):jt d n (z.map (λq=>(g,q,r))++F):=
 h.cut (k:=0) λc j=>by let⟨q,_,rfl⟩:=zcm.mp j;exact h.Nu (g,.alt z,r) (by simp)
theorem jt.many(h:jt d n ((g,.many q,r)::z)):jt d (n+1) ([(g,.lf .stay,n),(n,q,n),(n,.lf .stay,r)]++z):=
 h.cut (k:=1) λc j=>by
  have o:g<n/\r<n:=h.Nu (g,.many q,r) (by simp);simp only[zcd,zbw,or_false] at j;obtain rfl|rfl|rfl:=j<;>simp<;>lia
def jt.nil(h:jt d n ((g,.seq [],q)::r)):jt d n ([(g,.lf .stay,q)]++r):=
 h.cut (k:=0) λc j=>by rw[zaS.mp j];exact h.Nu (g,.seq [],q) (by simp)
noncomputable def chain(a:Nat):List Pt->Nat->Nat->List Ed
 |[],_,_=>[]
 |[p],_,b=>[(a,p,b)]
 |p::q::ps,n,b=>(a,p,n)::chain n (q::ps) (n+1) b
theorem sM:∀(ps)(q){a n b k:Nat},a<k->b<k->n+ps.length<=k->∀c∈chain a (q::ps) n b,c.1<k/\c.2.2<k
 |[],q,_,_,_,_,ha,hb,_,c,j=>by simp[chain] at j;simp_all
 |p::ps,q,_,n,_,_,ha,hb,hn,c,j=>by
  simp only[zby] at hn;obtain rfl|j:=zcd.mp (show c∈_::_ from j)
  ·exact⟨ha,by show n<_;lia⟩
  ·exact sM ps p (by lia) hb (by lia) c j
theorem jt.seq(ps)(q)(h:jt d n ((g,.seq (q::ps),r)::z)):jt d (n+ps.length) (chain g (q::ps) n r++z):=
 h.cut (k:=ps.length) λc j=>by
  have o:g<n/\r<n:=h.Nu (g,.seq (q::ps),r) (by simp);exact sM ps q (by lia) (by lia) (zcA _) c j
mutual
noncomputable def om:Pt->Nat->Nat->List Mv
 |.lf l,a,n=>[(a,l,n+1)]
 |.seq ps,a,n=>(a,.stay,n+1)::W4 ps (n+1)
 |.many p,a,n=>(a,.stay,n+1)::(om p (n+1) (n+1)++[(n+1+oc p,.stay,n+1),(n+1,.stay,n+1+oc p+1)])
 |.alt ps,a,n=>W5 ps a n++(ends ps n).map λe=>(e,.stay,n+ue ps+1)
noncomputable def W4:List Pt->Nat->List Mv
 |[],_=>[]
 |p::ps,n=>om p n n++W4 ps (n+oc p)
noncomputable def W5:List Pt->Nat->Nat->List Mv
 |[],_,_=>[]
 |p::ps,a,n=>om p a n++W5 ps a (n+oc p)
noncomputable def ends:List Pt->Nat->List Nat
 |[],_=>[]
 |p::ps,n=>(n+oc p)::ends ps (n+oc p)
end
open PySem L2 M
theorem iK:∀(n)(l:List Nat),l.Nodup->(∀x∈l,x<n)->l.length<=n
 |0,[],_,_=>zcA _
 |0,x::_,_,h=>absurd (h x (by simp)) (by lia)
 |n+1,l,h1,h2=>by
  have:=iK n (l.erase n) (h1.erase n) λx a=>by
   have j:=(List.Nodup.mem_erase_iff h1).mp a;have:=h2 x j.2;lia
  have o:l.length - 1<=(l.erase n).length:=by
   rw[List.length_erase];split<;>simp
  (simp_all;lia)
def pM{k:Nat}(h:d.Nodup)(a:k ∉ d):(d++[k]).Nodup:=by
 grind
inductive Reach(mv:List Mv)(ms:List Str)(st:List Nat):Nat->Prop
 |base {x:Nat}:x∈st->Reach mv ms st x
 |go {m:Mv}:Reach mv ms st m.1->m∈mv->hold m.2.1 ms=true->Reach mv ms st m.2.2
def yc(n:Nat)(m:Mv):Prop:=m.1<n/\Aa m.2.1/\m.2.2<n
def Reach.lt(j:∀m∈d,yc n m)(a:∀s∈g,s<n)(h:Reach d ms g k):k<n:=by
 induction h with
 |base h=>exact a _ h
 |go _ h _ _=>exact(j _ h).2.2
def Reach.closed{st ks:List Nat}(h1:∀s∈st,s∈ks)(h2:∀m∈d,m.1∈ks->hold m.2.1 ms=true->m.2.2∈ks)(h:Reach d ms st k):k∈ks:=by
 induction h with
 |base h=>exact h1 _ h
 |go _ h g ih=>exact h2 _ h ih g
def WL(a:List Mv)(st:List Nat)(s w:Str)(x:Nat):Prop:=∃m∈a,m.1∈st/\take m.2.1 s w=true/\m.2.2=x
theorem sub_len{α:Type}[DecidableEq α]:∀(l L:List α),l.Nodup->(∀x∈l,x∈L)->l.length<=L.length
 |[],_,_,_=>zcB _
 |a::l,L,h1,h2=>by
  rw[zbH] at h1;have o:=h2 a (by simp);have:=sub_len l (L.erase a) h1.2 λx j=>(List.mem_erase_of_ne (λe:x=a=>h1.1 (e▸j))).mpr (h2 x (zaC _ j));rw[zan o] at this;have:=zar o;rw[zby];omega
open PySem L2 M M6
noncomputable abbrev IV:List Str:=["joint"]
noncomputable abbrev mQ:=IV
def SN:ak IV mQ (ah (top 10)):=L2.bZ
noncomputable abbrev Jf:List Str:=["span","fresh","one","joint","other","firsts","lasts"]
noncomputable abbrev qK:=Jf.take 2
def rK:ak Jf qK (ah (top 11)):=L2.bZ
noncomputable def eD(e:Ed):D:=.tup [.int e.1,tD e.2.1,.int e.2.2]
noncomputable def wL:Pt->Bool
 |.lf _=>true
 |_=>false
noncomputable def ns:Pt->Nat
 |.many _=>1
 |.seq ps=>ps.length - 1
 |_=>0
noncomputable def gU(a n b:Nat):Pt->List Ed
 |.lf _=>[]
 |.alt ps=>ps.map λq=>(a,q,b)
 |.many q=>[(a,.lf .stay,n),(n,q,n),(n,.lf .stay,b)]
 |.seq []=>[(a,.lf .stay,b)]
 |.seq (q::ps)=>chain a (q::ps) n b
noncomputable def DS(n k:Nat):List D:=(zcE k).map λi:Nat=>D.int ((n:Int)+i)
def FF(n k):DS n (k+1)=.int n::DS (n+1) k:=by
 delta DS;rw[List.range_succ_eq_map,zcf,zcn];refine congr (congrArg _ (by simp)) (zaJ λi _=>?_);simp only[Function.comp];congr 1;lia
theorem sJ:∀(ps)(q)(a n b:Nat),(yq (.int a::DS n ps.length) (yr (q::ps)) (DS n ps.length++[.int b])).map D.tup=(chain a (q::ps) n b).map eD
 |[],q,a,n,b=>rfl
 |q2::ps,q,a,n,b=>by
  have j:=sJ ps q2 n (n+1) b;rw[zby,FF,chain,zcf,<-j];rfl
mutual
theorem lW:∀p:Pt,b7 (tD p)=true
 |.lf l=>by cases l<;>simp[tD,lD,b7,bX]
 |.many p=>by simp[tD,b7,bX,lW p]
 |.seq ps=>by simp[tD,b7,bX,jZ ps]
 |.alt ps=>by simp[tD,b7,bX,jZ ps]
theorem jZ:∀ps:List Pt,bX (yr ps)=true
 |[]=>by simp[yr,bX]
 |p::ps=>by simp[yr,bX,lW p,jZ ps]
end
def uC(e:Ed):b7 (eD e)=true:=by simp[eD,b7,bX,lW]
theorem cO{α:Type}{f:α->D}:∀{l:List α},(∀x∈l,b7 (f x)=true)->bX (l.map f)=true
 |[],_=>rfl
 |x::l,h=>by simp only[zcf,bX,h x (by simp),cO λy a=>h y (zaC _ a),zci]
def gD(ps):(yr ps).length=ps.length:=by rw[j6,zbF]
def EE:AN:=λa S Q=>∃p:Pt,a=[tD p]/\wL p=false/\Q (.dat (.int (ns p))) S
def UK(T:Txt K mg C fi G gi)(F:Src K mg "new_stands" mQ (top 10)):Def P w K mg base 1 "new_stands" mQ (az K EE):=by
 refine eE F SN (λu S Q h=>?_) (λf v A outer s H E a=>?_)
 ·let⟨p,rfl,_⟩:=h;rfl
 ·refine⟨_,(Xr (XH (XD (X7 a) (Xx (Xp 0)) XE (aT _)) (Xu (XC Xv)) XT) (Xu (XC (M.pC (XD (X7 a) (Xx (Xp 0)) XE (aT _)) (XW (M.Qo rfl) (by rfl) T.max (by rfl) (Xq (Xy M.vZ (XW Yi (by rfl) T.len (by rfl) (Xq (Xx (Xp 0)) Xw)) Xv) (Xs Xv))) Xv)))),λu S Q h=>?_⟩;let⟨p,rfl,j,q⟩:=h;have o:aO IV [tD p]=[some (tD p)]:=rfl;rw[o];cases p with
  |lf l=>cases j
  |many p=>
   push_cast[tD,aG,dF,dY];exact q
  |seq ps=>
   push_cast[tD,aG,dF,dY];refine⟨ps.length,by simp[ie,gD],_,_,rfl,?_⟩;have e:(if(0:Int)> ps.length - 1 then(0:Int) else ps.length - 1)=((ns (.seq ps):Nat):Int):=by
    simp only[ns];split<;>omega
   rw[e];exact cN rfl q
  |alt ps=>
   push_cast[tD,aG,dF,dY];exact q
def Nd:AN:=λj S Q=>∃(p:Pt)(a n b:Nat),j=[eD (a,p,b),.int n]/\wL p=false/\n<=1000/\oc p<=100/\Q (.new (.lst ((gU a n b p).map eD))) S
def UT(T:Txt K mg C fi G gi)(F:Src K mg "cut" qK (top 11))(j:Def P w K mg base 1 "new_stands" mQ (az K EE)):Def P w K mg base 2 "cut" qK (az K Nd):=by
 refine eE F rK (λW S Q h=>?_) (λf X A outer s H E v=>?_)
 ·let⟨p,a,n,b,rfl,_⟩:=h;rfl
 ·refine⟨_,(Xr (Xz 2 rK.nd (Xx (Xp 0))) (Xr (Xz 3 rK.nd (Xx (Xp 0))) (Xr (Xz 4 rK.nd (Xx (Xp 0))) (Xr (XH (XD (X7 v) (Xx (Xp 3)) XE (aT _)) (Xu (XC (Yj (caps:=[none,some 2,some 4]) (c9 (by decide+kernel)) (by rfl) (by rfl) rfl (XZ (Xx (Xp 3))) (λ_ _ _ _=>(X6 (i:=0) (by decide+kernel:List.Nodup (["part","one","other"]:List Str)) rfl (Or.inl rfl))) (λ_ _ _ _=>Yn) (λ_ _ _ _=>(XA (Xq (Xp 1) (Xq (Xp 0) (Xs (Xp 2))))))))) XT) (Xr (XH (XD (X7 v) (Xx (Xp 3)) XE (aT _)) (Xu (XC (XF (Xq (XA (Xq (Xp 2) (Xq T.t7 (Xs (Xp 1))))) (Xq (XA (Xq (Xp 1) (Xq (Xx (Xp 3)) (Xs (Xp 1))))) (Xq (XA (Xq (Xp 1) (Xq T.t7 (Xs (Xp 4))))) Xw)))))) XT) (Xr (XH (YD (Yr (Xx (Xp 3)))) (Xu (XC (XF (Xq (XA (Xq (Xp 2) (Xq T.t7 (Xs (Xp 4))))) Xw)))) XT) (Xr (Xz 5 rK.nd (Xy XU (XF (Xs (Xp 2))) (M.CK rfl (by rfl) T.list (by rfl) T.range (Xq (Xp 1) (Xq (Xy XU (Xp 1) (XQ j v (Xs (Xp 3)))) Xw))))) (Xr (Xz 6 rK.nd (Xy XU (M.gf M.Bd (Xp 5) (YE Xv) M.nU) (XF (Xs (Xp 4))))) (Xu (XC (M.F4 rfl (by rfl) T.list (by rfl) T.zip (Xq (Xp 5) (Xq (Xx (Xp 3)) (Xs (Xp 6))))))))))))))),λW S Q h=>?_⟩;let⟨p,a,n,b,rfl,L,Z,y,q⟩:=h;have U:aO Jf [eD (a,p,b),.int n]=[some (eD (a,p,b)),some (.int n),none,none,none,none,none]:=rfl;rw[U];push_cast[eD,aG,dF,dY,at2];cases p with
  |lf l=>cases L
  |many p=>
   push_cast[tD,aG,dF,dY];refine⟨sz rfl,sz rfl,sz rfl,sz rfl,gJ ?_ q⟩;simp[b7,bX,lW]
  |alt ps=>
   push_cast[tD,aG,dF,dY];push_cast[dh,gQ,aG,dY,fQ];refine comp_map (δ:=[none,some (.int a),some (.int b)]) (λx=>.tup [.int a,x,.int b]) trivial _ [] _ rfl (λx Y Q q=>?_) (by rw[gD,yaf];have:=ud ps;simp only[oc] at y;simp;lia) ?_
   ·push_cast[true_and];exact⟨sz rfl,q⟩
   ·have e:(yr ps).map (λx=>D.tup [.int a,x,.int b])=(gU a n b (.alt ps)).map eD:=by
     rw[j6,zcn,gU,zcn];rfl
    rw[e];exact gJ (cO λe _=>uC e) q
  |seq ps=>
   push_cast[tD,aG,dF,dY];cases ps with
   |nil=>
    refine⟨sz rfl,sz rfl,gJ (by rfl) q⟩
   |cons u ps=>
    have I:ps.length<100:=by have:=ud (u::ps);simp only[oc,zby] at y this;lia
    push_cast[Ib];refine⟨sz rfl,.seq (u::ps),rfl,rfl,?_⟩;have en:ns (.seq (u::ps))=ps.length:=by rfl
    have o:(DS n ps.length).length=ps.length:=by simp[DS]
    rw[en];refine⟨_,rfl,by lia,by lia,by lia,by lia,?_⟩;rw[show((n:Int)+ps.length - n).toNat=ps.length by lia,show(zcE ps.length).map (λk:Nat=>D.int (n+k))=DS n ps.length from rfl];refine⟨by rw[yaf];simp;lia,?_⟩;simp only[Dz,iB];have ec:cutD ([D.int a]++DS n ps.length) (some 1) none=DS n ps.length:=by
     delta cutD;simp[HT.tQ]
    rw[ec];refine⟨sz rfl,?_⟩;refine⟨by rw[yaf];simp;lia,?_⟩;push_cast[Oa,aG,dY];refine⟨_,rfl,_,rfl,_,rfl,by simp[o,gD],by simp[o,gD],by simp[gD],by simp[gD];lia,?_⟩;have O:=sJ ps u a n b;rw[show[D.int a]++DS n ps.length=.int a::DS n ps.length from rfl,O];exact gJ (cO λe _=>uC e) q
open PySem L2 M M6
noncomputable abbrev Ci:List Str:=["pattern","many","moves","spans","narrower","span"]
noncomputable abbrev lK:=Ci.take 1
def iC:ak Ci lK (ah (top 9)):=L2.bZ
noncomputable abbrev IY:List Str:=["pattern","laid"]
noncomputable abbrev qD:=IY.take 1
def Nf:ak IY qD (ah (top 14)):=L2.bZ
noncomputable def vD(m:Mv):D:=.tup [.int m.1,lD m.2.1,.int m.2.2]
def MJ(m):eD (eM m)=vD m:=rfl
noncomputable def mD(n b:Nat)(es:List Nat)(a:List Mv):D:=.tup [.int n,.int b,.tup (nL es),.tup (a.map vD)]
noncomputable def ws(E:List Ed):Nat:=(E.map λe=>oc e.2.1).sum
noncomputable def vs(E:List Ed):Nat:=(E.map λe=>oc e.2.1 - 1).sum
def Cr(A B):ws (A++B)=ws A+ws B:=by simp[ws]
def Ct(A B):vs (A++B)=vs A+vs B:=by simp[vs]
def jY(e:Ed)(B:List Ed):ws (e::B)=oc e.2.1+ws B:=by rfl
def nK(e)(B):vs (e::B)=(oc e.2.1 - 1)+vs B:=by rfl
theorem yk:∀E:List Ed,E.length<=ws E
 |[]=>zcB _
 |e::E=>by
  have:=yk E;have:=l9 e.2.1;rw[jY,zby];lia
theorem HW{a b:Nat}:∀ps:List Pt,ws (ps.map λq=>(a,q,b))=ue ps/\vs (ps.map λq=>(a,q,b))+ps.length=ue ps
 |[]=>⟨rfl,rfl⟩
 |p::ps=>by
  let⟨h1,h2⟩:=HW (a:=a) (b:=b) ps;have:=l9 p;rw[zcf,jY,nK,zby,ue];dsimp only;lia
theorem xF:∀(ps)(q)(a n b),ws (chain a (q::ps) n b)=ue (q::ps)/\vs (chain a (q::ps) n b)+ps.length+1=ue (q::ps)
 |[],q,a,n,b=>by
  have:=l9 q;simp only[chain,ue];simp[ws,vs];lia
 |q2::ps,q,a,n,b=>by
  let⟨h1,h2⟩:=xF ps q2 n (n+1) b;have:=l9 q;rw[chain,jY,nK,ue,zby];dsimp only;lia
theorem sN:∀(ps)(q)(a n b),∀e∈chain a (q::ps) n b,e.2.1∈q::ps
 |[],q,a,n,b,e,h=>by
  rw[chain] at h;simp_all
 |q2::ps,q,a,n,b,e,h=>by
  obtain rfl|h:=zcd.mp h
  ·simp
  ·exact zaC _ (sN ps q2 n (n+1) b e h)
def HB(a n b)(p)(j:wL p=false):ws (gU a n b p)<=oc p/\ns p+vs (gU a n b p)<=oc p - 1:=by
 cases p with
 |lf _=>cases j
 |many q=>
  simp only[gU,jY,nK,ns,oc];simp[ws,vs];lia
 |alt ps=>
  let⟨h1,h2⟩:=HW (a:=a) (b:=b) ps;simp only[gU,ns,oc];lia
 |seq ps=>
  cases ps with
  |nil=>simp[gU,ws,vs,ns,oc]
  |cons q ps=>
   let⟨h1,h2⟩:=xF ps q a n b;simp only[gU,ns,oc,zby];lia
def Rn(a n b:Nat)(p:Pt)(u:wL p=false)(o:xY p):∀e∈gU a n b p,xY e.2.1/\dp e.2.1<dp p:=by
 intro e j;cases p with
 |lf _=>cases u
 |many q=>
  simp only[gU,zcd,zbw,or_false] at j;obtain rfl|rfl|rfl:=j
  ·exact⟨by simp[xY,Aa],by simp[dp]⟩
  ·exact⟨o,by simp[dp]⟩
  ·exact⟨by simp[xY,Aa],by simp[dp]⟩
 |alt ps=>
  let⟨q,s,rfl⟩:=zcm.mp j;have:=uE q s;exact⟨pI o q s,by simp only[dp];lia⟩
 |seq ps=>
  cases ps with
  |nil=>
   simp only[gU,zaS] at j;subst j;exact⟨by simp[xY,Aa],by simp[dp]⟩
  |cons q ps=>
   have h:=sN ps q a n b e j;have:=uE e.2.1 h;exact⟨pI o _ h,by simp only[dp];lia⟩
def jt.step{p q:Pt}{a b:Nat}{E:List Ed}(h:jt p n ((a,q,b)::E))(j:wL q=false):jt p (n+ns q) (gU a n b q++E):=by
 cases q with
 |lf _=>cases j
 |many q=>exact h.many
 |alt ps=>exact h.alt
 |seq ps=>
  cases ps with
  |nil=>exact h.nil
  |cons q ps=>
   have:=jt.seq ps q h;simpa[ns,gU] using this
def La(h:Aa d)(q:g (.dat (.bl true)) S):xU (lD d) (.int 0) S λr j=>sX false r.d (.tup [.str "stay",.str "step",.str "at",.str "off"]) j g:=by
 have key:∀x,x∈(["stay","step","at","off"]:List Str)->sX false (.str x) (.tup [.str "stay",.str "step",.str "at",.str "off"]) S g:=λx a=>by
  refine p5 (n:=0) (ss:=["stay","step","at","off"]) (by simp only[zcd,zbw,or_false] at a;obtain rfl|rfl|rfl|rfl:=a<;>decide+kernel) (by decide) (by rfl) ?_;have:Js (.str x) ["stay","step","at","off"]=true:=by simp only[zcd,zbw,or_false] at a;obtain rfl|rfl|rfl|rfl:=a<;>decide+kernel
  rw[this];exact q
 cases d with
 |stay=>refine⟨_,dF,key _ (by simp)⟩
 |step b x=>refine⟨_,dF,key _ (by simp)⟩
 |mk b m=>refine⟨_,dF,key _ (by cases b<;>simp[Wc])⟩
def K9(h:wL d=false)(q:g (.dat (.bl false)) S):xU (tD d) (.int 0) S λr j=>sX false r.d (.tup [.str "stay",.str "step",.str "at",.str "off"]) j g:=by
 have key:∀x,x∈(["many","then","either"]:List Str)->sX false (.str x) (.tup [.str "stay",.str "step",.str "at",.str "off"]) S g:=λx a=>by
  refine p5 (n:=0) (ss:=["stay","step","at","off"]) (by simp only[zcd,zbw,or_false] at a;obtain rfl|rfl|rfl:=a<;>decide+kernel) (by decide) (by rfl) ?_;have:Js (.str x) ["stay","step","at","off"]=false:=by simp only[zcd,zbw,or_false] at a;obtain rfl|rfl|rfl:=a<;>decide+kernel
  rw[this];exact q
 cases d with
 |lf _=>cases h
 |many d=>refine⟨_,dF,key _ (by simp)⟩
 |seq ps=>refine⟨_,dF,key _ (by simp)⟩
 |alt ps=>refine⟨_,dF,key _ (by simp)⟩
def tU(h:b7 d=true)(q:g (.dat d) S):YF S (S++T) (.dat d) g:=
 ⟨_,t9 h,λk o a e=>.inl (by rw[zag a] at e;exact e),by rw[List.take_left];exact q⟩
abbrev LS:=Nat×List Mv×List Ed×List Ed
noncomputable def OM:LS->Option LS
 |(_,_,[],[])=>none
 |(n,mv,[],e::NR)=>some (n,mv,e::NR,[])
 |(n,mv,(a,.lf l,b)::R,NR)=>some (n,mv++[(a,l,b)],R,NR)
 |(n,mv,(a,q,b)::R,NR)=>some (n+ns q,mv,R,NR++gU a n b q)
noncomputable def runs(s:LS):Nat->Option LS
 |0=>some s
 |k+1=>(runs s k).bind OM
def Ry(p:Pt)(n:Nat)(a:List Mv)(R j:List Ed):Prop:=∃k,runs (2,[],[(0,p,1)],[]) k=some (n,a,R,j)
def Ry.go{s t:LS}(h:Ry d s.1 s.2.1 s.2.2.1 s.2.2.2)(e:OM s=some t):Ry d t.1 t.2.1 t.2.2.1 t.2.2.2:=by
 let⟨k,a⟩:=h;refine⟨k+1,?_⟩;show(runs _ k).bind OM=_;simp_all
def Ry.turn(h:Ry d n g [] k):Ry d n g k []:=by
 cases k with
 |nil=>exact h
 |cons e k=>exact Ry.go (s:=(n,g,[],e::k)) h rfl
def Ry.cut(h:Ry d n r ((g,q,k)::z) F)(u:wL q=false):Ry d (n+ns q) r z (F++gU g n k q):=by
 refine Ry.go (s:=(n,r,(g,q,k)::z,F)) (t:=(n+ns q,r,z,F++gU g n k q)) h ?_;cases q with
 |lf _=>cases u
 |_=>rfl
def EK:AN:=λj S Q=>∃p:Pt,j=[tD p]/\xY p/\oc p<=50/\∀(n)(a),Ry p n a [] []->jt p n (a.map eM)->n<=oc p+1->a.length<=oc p->(∀m∈a,Aa m.2.1)->Q (.dat (.tup [.int n,.lst (a.map vD)])) S
def Rg(T:Txt K mg C fi G gi)(F:Src K mg "laid_out" lK (top 9))(o:Def P w K mg base 1 "new_stands" mQ (az K EE))(ab:Def P w K mg base 2 "cut" qK (az K Nd)):Def P w K mg base 3 "laid_out" lK (az K EK):=by
 refine eE F iC (λds S Q h=>?_) (λf cdv A outer s H E Y=>?_)
 ·let⟨p,rfl,_⟩:=h;rfl
 ·refine⟨_,(Xr (Xz 1 iC.nd Xv) (Xr (Xz 2 iC.nd (XO (XF Xw))) (Xr (Xz 3 iC.nd (XF (Xq (XA (Xq T.vW (Xq (Xp 0) (Xs T.Gd)))) Xw))) (Xr (M.jh PassesOwn.never (Yr (Xp 3)) (Xr (Xz 4 iC.nd (XO (XF Xw))) (Xr (Yc PassesOwn.never rfl (XZ (Xp 3)) (XG 5 iC.nd) (Xu (XH (XD (Yy Y) (Xx (Xx (Xp 5))) T.CM rfl) (Xu (XJ (Ye PySem.F.plainAttrs_list PySem.F.slot_list_append PySem.F.type_list_append Yq (Xp 2) (Xs (Xp 5))))) (Xr (XJ (Ye PySem.F.plainAttrs_list PySem.F.slot_list_extend PySem.F.type_list_extend M.kM (Xp 4) (Xq (XQ ab Y (Xq (Xp 5) (Xs (Xp 1)))) Xw))) (Xu (M.CH (i:=1) iC.nd rfl (Or.inl rfl) (XQ o Y (Xq (Xx (Xp 5)) Xw)))))))) (Xu (Xz 3 iC.nd (Xp 4)))))) (Xu (XC (M.fre (XA (Xq (Xp 1) (Xs (Xp 2))))))))))),λds S Q h=>?_⟩;let⟨p,rfl,hp,ho,q⟩:=h;have e0:aO Ci [tD p]=[some (tD p),none,none,none,none,none]:=rfl;rw[e0];push_cast[bx];refine⟨sz rfl,sz rfl,sz rfl,?_⟩;have dY:∀a T,(S++some a::T)[S.length]? =some (some a):=λa T=>by simp
  have L:∀a T k,(S++some a::T)[S.length+1+k]? =T[k]?:=λa T k=>by
   rw[zac (by lia),show S.length+1+k - S.length=k+1 by lia,zaq]
  have SE:∀a b T,(S++some a::T).set S.length b=S++b::T:=λa b T=>by simp
  have JS:∀a T x y,(S++some a::(T++[x])).set (S.length+1+T.length) y=S++some a::(T++[y]):=λa T x y=>by
   rw[zaz _ _ (by lia),show S.length+1+T.length - S.length=T.length+1 by lia];simp
  obtain⟨W,hW⟩:∃W:Nat->aV->aq->Prop,W=λU O S2=>∃(n:Nat)(j:List Mv)(E:List Ed)(d:D)(v4 v:Option D)(T:aq),O=[some (tD p),some (.int n),some (.loc S.length),some d,v4,v]/\S2=S++some (.lst (j.map vD))::T/\(d=.lst (E.map eD)∨∃k,d=.loc (S.length+1+k)/\T[k]? =some (some (.lst (E.map eD))))/\Ry p n j E []/\
    jt p n (j.map eM++E)/\n+vs E<=oc p+1/\j.length+ws E<=oc p/\(∀m∈j,Aa m.2.1)/\∀e∈E,xY e.2.1/\dp e.2.1<U:=⟨_,rfl⟩
  have hop:=l9 p;refine⟨W,⟨dp p+1,by rw[hW];refine⟨2,[],[(0,p,1)],_,none,none,[],rfl,rfl,.inl rfl,⟨0,rfl⟩,jt.start p,by simp[vs];lia,by simp[ws],by simp,λe he=>by simp_all⟩⟩,?_⟩;intro U O S2 hw;rw[hW] at hw;let⟨n,j,E,d,v4,v,T,rfl,rfl,hd,hR,hB,hv,hws,hlf,hE⟩:=hw;have Dd:aX (S++some (.lst (j.map vD))::T) d=.lst (E.map eD):=by
   obtain rfl|⟨k,rfl,hk⟩:=hd
   ·rfl
   ·simp only[aX,L,hk];rfl
  push_cast[true_and];refine⟨!E.isEmpty,by rw[Dd];simp[fB],fH (λhw=>?_) (λhw=>?_)⟩
  ·obtain⟨N,hN⟩:∃N:aV->aq->Prop,N=λO S2=>∃(n:Nat)(j:List Mv)(E:List Ed)(d:D)(v4 v:Option D)(T:aq),O=[some (tD p),some (.int n),some (.loc S.length),some d,v4,v]/\S2=S++some (.lst (j.map vD))::T/\(d=.lst (E.map eD)∨∃k,d=.loc (S.length+1+k)/\T[k]? =some (some (.lst (E.map eD))))/\Ry p n j E []/\
     jt p n (j.map eM++E)/\n+vs E<=oc p+1/\j.length+ws E<=oc p/\(∀m∈j,Aa m.2.1)/\∀e∈E,xY e.2.1/\dp e.2.1<U - 1:=⟨_,rfl⟩
   have hmu:0<U:=by
    cases E with
    |nil=>simp at hw
    |cons e E=>have:=(hE e (by simp)).2;lia
   refine⟨N,?_,?_⟩
   ·rw[hN,hW];rintro δ' S3 h;refine⟨U - 1,by lia,h⟩
   ·push_cast[bx,gV,gQ];refine⟨zcB _,?_⟩;rw[zbd,show zcz (S++some (MO.lst (j.map vD))::T)=S.length+1+T.length by simp;lia];have Z:∀Q',(∀Pr,(∀a x,Pr (S++some a::(T++[x])))->Q' (E.map eD) Pr (S++some (.lst (j.map vD))::(T++[some (.lst [])])))->fQ (S++some (.lst (j.map vD))::(T++[some (.lst [])])) Q' d:=λQ' h=>by
     obtain rfl|⟨k,rfl,hk⟩:=hd
     ·exact h _ λ_ _=>trivial
     ·have hkT  :=(zaf.mp hk).1;refine⟨_,by rw[L,zag hkT];exact hk,h _ λa x=>by rw[L,zag hkT];exact hk⟩
    refine Z _ λPr hPr=>?_;refine bE (λrest O S3=>∃(n:Nat)(j:List Mv)(R u:List Ed)(v:Option D),rest=R.map eD/\O=[some (tD p),some (.int n),some (.loc S.length),some d,some (.loc (S.length+1+T.length)),v]/\S3=S++some (.lst (j.map vD))::(T++[some (.lst (u.map eD))])/\Ry p n j R u/\jt p n (j.map eM++(R++u))/\n+vs R+vs u<=oc p+1/\j.length+ws R+ws u<=oc p/\(∀m∈j,Aa m.2.1)/\(∀e∈R,xY e.2.1/\dp e.2.1<U)/\∀e∈u,xY e.2.1/\dp e.2.1<U - 1) ?_ ?_ _ _ _ ⟨n,j,E,[],v,rfl,rfl,rfl,hR,by rw[zbG];exact hB,by exact hv,by exact hws,hlf,hE,by simp⟩
    ·intro O S3 z;let⟨n,j,R,u,v,Y,rfl,rfl,g0,g1,g2,g3,g4,g5,g6⟩:=z;have:R=[]:=by simp_all
     subst this;refine⟨hPr _ _,?_⟩;push_cast[true_and];rw[hN];refine⟨n,j,u,_,_,_,_,rfl,rfl,  .inr ⟨T.length,rfl,by simp⟩,g0.turn,g1,by simpa[vs] using g2,by simpa[ws] using g3,g4,g6⟩
    ·intro x rest O S3 N' z hN';let⟨n,j,R,u,v,Y,rfl,rfl,g0,g1,g2,g3,g4,g5,g6⟩:=z;cases R with
     |nil=>simp at Y
     |cons r R=>
      injection Y with e1 e2;subst e1;subst e2;let⟨X,ok2⟩:=g5 r (by simp);refine⟨hPr _ _,?_⟩;rw[show eD r=.tup [.int r.1,tD r.2.1,.int r.2.2] from rfl];push_cast[aG,K36.dY];have hwr:=jY r R;have hvr:=nK r R;cases I:wL r.2.1 with
      |true=>
       let⟨a,pr,b⟩:=r;cases pr with
       |lf l=>
        refine La X ⟨_,rfl,?_⟩;push_cast[ou];refine⟨by simp only[aX,dY];rfl,S.length,_,_,rfl,rfl,dY _ _,?_,?_⟩
        ·rw[zbF,yaf];lia
        ·rw[SE,show j.map vD++[D.tup [.int a,tD (.lf l),.int b]]=(j++[(a,l,b)]).map vD by rw[zbK];rfl];refine hN' _ _ ⟨n,j++[(a,l,b)],R,u,_,rfl,rfl,rfl,Ry.go (s:=(n,j,(a,.lf l,b)::R,u)) g0 rfl,?_,?_,?_,?_,λe he=>g5 e (zaC _ he),g6⟩
         ·refine g1.Ro λe=>?_;simp only[zbK,zbE,zcd,zcf,List.map_nil,zbw];rw[show eM (a,l,b)=(a,.lf l,b) from rfl];lia
         ·lia
         ·simp only[oc] at hwr;rw[zaP];show j.length+1+_+_<=_;lia
         ·intro m hm;obtain h|h:=zbE.mp hm
          ·exact g4 m h
          ·rw[zaS.mp h];exact X
       |_=>cases I
      |false=>
       refine K9 I ⟨_,rfl,?_⟩;push_cast[ou,U7];refine⟨by simp only[aX,L];simp;rfl,r.2.1,r.1,n,r.2.2,rfl,I,by lia,by lia,?_⟩;refine⟨_,u.map eD,_,_,rfl,rfl,by simp_all,.inl rfl,?_,?_⟩
       ·have h1:=yk u;have h2:=yk (gU r.1 n r.2.2 r.2.1);have h3:=(HB r.1 n r.2.2 r.2.1 I).1;rw[zbF,zbF,yaf];lia
       ·rw[JS,<-zbK];refine⟨_,rfl,r.2.1,rfl,I,_,_,rfl,rfl,?_⟩;have c1:=HB r.1 n r.2.2 r.2.1 I;have c2:=Rn r.1 n r.2.2 r.2.1 I X;refine hN' _ _ ⟨n+ns r.2.1,j,R,u++gU r.1 n r.2.2 r.2.1,_,rfl,by rfl,rfl,g0.cut I,?_,by rw[Ct];lia,by rw[Cr];lia,g4,λe he=>g5 e (zaC _ he),λe he=>?_⟩
        ·have h1:jt p n ((r.1,r.2.1,r.2.2)::(j.map eM++(R++u))):=g1.Ro λe=>by
          simp only[zbE,zcd,zbx];exact or_left_comm
         refine(h1.step I).Ro λe=>?_
         grind
        ·obtain h|h:=zbE.mp he
         ·exact g6 e h
         ·have:=c2 e h;exact⟨this.1,by lia⟩
  ·have  :=by simpa using hw
   subst this;rw[zbG] at hB;push_cast[RI];refine⟨sz rfl,S.length,_,_,rfl,dY _ _,?_⟩;rw[SE];have es:([D.int n,D.loc S.length]:List D).map (sb S.length (.lst (j.map vD)))=[.int n,.lst (j.map vD)]:=by simp[sb]
   rw[es];refine tU ?_ (q n j hR hB (by simpa[vs] using hv) (by simpa[ws] using hws) hlf);have:bX (j.map vD)=true:=cO λm _=>by rw[<-MJ];exact uC _
   simp only[b7,bX,this,zci]
def dQ(h:dO x=true):(PyData.str x).canLay0=true:=by
 have:=gC (n:=0) (d:=.str x) h (by decide);unfold fit PySem.SeqAt.shaped at this;simp only[zbB] at this;exact this.2.1
def Bo(h:Aa d):cG (py (lD d))=true/\(py (lD d)).depth<=1/\b7 (lD d)=true:=by
 cases d with
 |stay=>refine⟨by simp only[lD,py,gb,cG,d7,zcj];exact dQ (by rfl),by decide,rfl⟩
 |step b x=>
  refine⟨?_,by simp[lD,py,gb,PyData.depth,PyData.depthAll],rfl⟩;simp only[lD,py,gb,cG,d7,zcj,zbB];refine⟨dQ (by rfl),dQ (by cases b<;>decide+kernel),dQ (D5 h)⟩
 |mk b m=>
  refine⟨?_,by simp[lD,py,gb,PyData.depth,PyData.depthAll],rfl⟩;simp only[lD,py,gb,cG,d7,zcj,zbB];exact⟨dQ (by cases b<;>decide+kernel),dQ (g7 h)⟩
def KS(h:Aa d.2.1):cD (vD d):=by
 let⟨h1,h2,a⟩:=Bo h;refine⟨by simp only[vD,b7,bX,a,zci],?_,?_,_,rfl⟩
 ·simp only[vD,py,gb,cG,d7,h1,zci]
 ·simp only[vD,py,gb,PyData.depth,PyData.depthAll];grind
def Qy(l k):b8 (py (lD l)) (py (lD k))=true:=by cases l<;>cases k<;>simp[lD,py,gb,b8,fu]
def Gu(m k):b8 (py (vD m)) (py (vD k))=true:=by simp only[vD,py,gb,b8,fu,Qy,zci]
def Gq(m):∃p r,py (vD m)=PyData.tuple (.int p::r):=⟨_,_,rfl⟩
def jt.same{j a:List Mv}(h:jt d n (j.map eM))(h1:∀m∈a,m∈j)(h2:∀m∈j,∃m'∈a,py (vD m')=py (vD m)):jt d n (a.map eM):=by
 have o:∀e∈a.map eM,e∈j.map eM:=λe q=>by
  grind
 exact⟨h.two,λe q=>h.Nu e (o e q)⟩
def FZ{es:List Nat}:b7 (mD n d es k)=true:=by
 have:bX (k.map vD)=true:=cO λm _=>by rw[<-MJ];exact uC _
 simp only[mD,b7,bX,kB,this,zci]
noncomputable def pm(a:List Mv):List yam:=a.map λm=>py (vD m)
def WO(p:Pt)(n:Nat)(j:List Mv):Prop:=(∃a,Ry p n a [] []/\∀y,y∈pm j↔y∈pm a)/\(pm j).Nodup/\(pm j).Pairwise λx y=>fV y x=false
def MZ:AN:=λj S Q=>∃p:Pt,j=[tD p]/\xY p/\oc p<=50/\∀(n)(a),WO p n a->jt p n (a.map eM)->n<=oc p+1->a.length<=oc p->(∀m∈a,Aa m.2.1)->Q (.dat (mD n 0 [1] a)) S
def UL(T:Txt K mg C fi G gi)(F:Src K mg "machine_of" qD (top 14))(a:Def P w K mg base 3 "laid_out" lK (az K EK)):Def P w K mg base 4 "machine_of" qD (az K MZ):=by
 refine eE F Nf (λds S Q h=>?_) (λf cdv A outer s H E O=>?_)
 ·let⟨p,rfl,_⟩:=h;rfl
 ·refine⟨_,(Xr (Xz 1 Nf.nd (XQ a O (Xs (Xp 0)))) (Xu (XC (XA (Xq (Xx (Xp 1)) (Xq T.vW (Xq (XA (Xs T.Gd)) (Xq (Yg M.ji (by rfl) T.tuple (by rfl) (Xq (M.tZ O rfl (by rfl) T.sorted (by rfl) T.set (Xx (Xp 1))) Xw)) Xw)))))))),λds S Q h=>?_⟩;let⟨p,rfl,Z,ho,q⟩:=h;have e0:aO IY [tD p]=[some (tD p),none]:=rfl;rw[e0];push_cast[true_and];refine⟨p,rfl,Z,ho,λn L h0 h1 h2 h3 U=>?_⟩;push_cast[sV,aG,dF,dY];refine⟨sz rfl,_,.inr rfl,λk I=>?_,λk I l hl=>?_,by rw[zbF];lia,λW k1 k2 v X=>?_⟩
  ·let⟨m,o,rfl⟩:=zcm.mp I;exact⟨KS (U m o),Gq m⟩
  ·let⟨m,_,rfl⟩:=zcm.mp I;let⟨u,_,rfl⟩:=zcm.mp hl;exact Gu m u
  ·let⟨j,o1,rfl⟩:=pq k1;refine⟨_,rfl,?_⟩;refine⟨sz rfl,cN (FZ (es:=[1])) (q n j ⟨⟨L,h0,λy=>by have:=k2 y;rw[zcn,zcn] at this;exact this⟩,by rw[zcn] at v;exact v,zbg.mpr (zbg.mp X)⟩ (h1.same o1 λm o=>?_) h2 ?_ λm o=>U m (o1 m o))⟩
   ·let⟨d,hd,e⟩:=zcm.mp ((k2 (py (vD m))).mpr (zcm.mpr ⟨vD m,zcm.mpr ⟨m,o,rfl⟩,rfl⟩));let⟨u,x,rfl⟩:=zcm.mp hd;refine⟨u,x,e⟩
   ·have:=@sub_len yam (λ_ _=>Classical.propDecidable _) ((j.map vD).map py) ((L.map vD).map py) v λy Y=>(k2 y).mp Y;simp only[zbF] at this;lia
open PySem L2 M M6
noncomputable abbrev vB:Stmt:=top 46
noncomputable abbrev Cc:List Str:=["_law_ds","_law_at","_law_deep","_law_way","_law_number","_law_part_here","_law_parts","_law_k"]
noncomputable abbrev dZ:=Cc.take 3
def e7:ak Cc dZ (ah vB):=L2.bZ
noncomputable abbrev Cb:List Str:=["_law_cell","_law_deep"]
noncomputable abbrev lF:=Cb
def OW:ak Cb lF (ah (top 47)):=L2.bZ
noncomputable def cap:Nat->Nat
 |0=>1
 |1=>3
 |2=>10
 |_=>21
def LL(k:Nat):1<=cap k:=by delta cap;split<;>lia
def dg(h:ys[i]? =some d):ia (nL ys) (i:Int)=some (.int (d:Int)):=dX (by rw[nL,zbb,h];rfl)
def Np{a:Nat}(h:0<ys.length)(q:∀y∈ys,d (.dat (.int (y:Int))) S):xU (.lst (nL ys)) (.int ((a:Int) % (ys.length:Int))) S d:=by
 have j:=zcF a h;refine⟨_,dg (zam j),q _ (zbv j)⟩
theorem vY:∀(ps)(p),ue (ps++[p])=ue ps+oc p
 |[],p=>by simp[ue]
 |q::ps,p=>by rw[zbx,ue,ue,vY ps p];lia
theorem xm:∀(ps)(p),Jt (ps++[p])=max (Jt ps) (dp p)
 |[],p=>by simp[Jt]
 |q::ps,p=>by rw[zbx,Jt,Jt,xm ps p];simp
theorem r9:∀(ps)(p),z8 ps->xY p->z8 (ps++[p])
 |[],p,_,h=>by simp[z8,h]
 |q::ps,p,g,h=>by
  exact⟨g.1,r9 ps p g.2 h⟩
def tL(k:Nat):AN:=λo S Q=>∃(j:List Nat)(a:Nat),o=[.lst (nL j),.int a,.int k]/\0<j.length/\j.length<=1000/\∀(p)(q:Nat),xY p->dp p<=k->oc p<=cap k->Q (.dat (.tup [tD p,.int q])) S
def BQ(T:Txt K mg C fi G gi)(F:Src K mg "_law_part" dZ vB)(v:Def P w K mg base 2 "_law_leaf" gY (az K tM))(k:Nat)(hk:k<=3)(o:Def P w K mg base (k+2) "_law_part" dZ (az K (λds S Q=>∃j,j+1=k/\tL j ds S Q))):Def P w K mg base (k+3) "_law_part" dZ (az K (tL k)):=by
 refine eE F e7 (λds S Q h=>?_) (λf cdv A outer s H E Y=>?_)
 ·let⟨I,a,rfl,_⟩:=h;rfl
 ·refine⟨_,(Xr (Xz 3 e7.nd (Xy Yb (XX (Xp 0) (Xy Yb (Xp 1) (XW Yi (by rfl) T.len (by rfl) (Xs (Xp 0))))) (XX (XF (Xq Xv (Xq Xv (Xs Xv)))) (XW (M.Gg rfl) (by rfl) T.min (by rfl) (Xq (Xp 2) (Xs Xv)))))) (Xr (Xz 4 e7.nd (XX (Xp 0) (Xy Yb (Xy XU (Xp 1) Xv) (XW Yi (by rfl) T.len (by rfl) (Xs (Xp 0)))))) (Xr (XH (XD M.KJ (Xp 3) Xv (aT _)) (Xu (XC (XA (Xq (M.lZ v (Y.mono (by lia)) (by rfl) (Xq (Xp 3) (Xs (Xp 4)))) (Xq (Xy XU (Xp 1) Xv) Xw))))) XT) (Xr (XH (XD (X7 Y) (Xp 3) Xv (aT _)) (Xr (M.o9 (M.lZ o (Y.mono (by lia)) (by rfl) (Xq (Xp 0) (Xq (Xy XU (Xp 1) Xv) (Xq (Xy M.vZ (Xp 2) Xv) Xw)))) (Yl rfl (XM (XG 5 e7.nd) (XM (XG 1 e7.nd) Yk)))) (Xu (XC (XA (Xq (XA (Xq XE (Xs (Xp 5)))) (Xs (Xp 1))))))) XT) (Xr (Xz 1 e7.nd (Xy XU (Xp 1) Xv)) (Xr (Xz 6 e7.nd (XO (XF Xw))) (Xr (Yc PassesOwn.never rfl (Ys (by rfl) T.range (Xq (Xy Yb (Xp 4) (XX (XF (Xq Xv (Xq Xv (Xq Xv (Xs Xv))))) (XW (M.Gg rfl) (by rfl) T.min (by rfl) (Xq (Xp 2) (Xs Xv))))) Xw)) (XG 7 e7.nd) (Xr (M.o9 (M.lZ o (Y.mono (by lia)) (by rfl) (Xq (Xp 0) (Xq (Xp 1) (Xq (Xy M.vZ (Xp 2) Xv) Xw)))) (Yl rfl (XM (XG 5 e7.nd) (XM (XG 1 e7.nd) Yk)))) (Xu (XJ (Ye PySem.F.plainAttrs_list PySem.F.slot_list_append PySem.F.type_list_append Yq (Xp 6) (Xs (Xp 5))))))) (Xu (XC (XA (Xq (XA (Xq (XX (XF (Xq XE (Xs XE))) (Xy Yb (Xp 3) Xv)) (Xq (Yg M.ji (by rfl) T.tuple (by rfl) (Xs (Xp 6))) Xw))) (Xs (Xp 1))))))))))))),λds S Q h=>?_⟩;let⟨I,a,rfl,y,O,q⟩:=h;have e0:aO Cc [.lst (nL I),.int a,.int k]=[some (.lst (nL I)),some (.int a),some (.int k),none,none,none,none,none]:=rfl;rw[e0];refine bM λN h=>?_;push_cast[Ie];refine⟨I.length,by simp[ie,nL],by simp_all,Np y λX _=>?_⟩;have em:(if(2:Int)<k then(2:Int) else k)=((min k 2:Nat):Int):=by split<;>lia
  push_cast[em];refine⟨sz rfl,?_⟩;obtain⟨b,hb,hb0,hb1⟩:∃b:Nat,ia [D.int 5,D.int 8,D.int 9] ((min k 2:Nat):Int)=some (.int b)/\(k=0->b=5)/\5<=b/\b<=9:=by
   rcases(by lia:k=0∨k=1∨k=2∨k=3) with rfl|rfl|rfl|rfl
   ·refine⟨5,dF,λ_=>rfl,by lia,by lia⟩
   ·refine⟨8,dY,λh=>by lia,by lia,by lia⟩
   ·refine⟨9,at2,λh=>by lia,by lia,by lia⟩
   ·refine⟨9,at2,λh=>by lia,by lia,by lia⟩
  refine⟨_,hb,?_⟩;push_cast[true_and];refine⟨by lia,h _ _ ?_⟩;rw[show(X % b)=((X % b:Nat):Int) by lia];have hw:=zcF X (show 0<b by lia);generalize X % b=wy at hw⊢;refine bM λN h=>?_;push_cast[true_and];refine⟨I.length,by simp[ie,nL],by simp_all,?_⟩;refine Np y λL _=>h _ _ ?_;by_cases h:wy<5
  ·refine G0 (λQ q=>?_) ?_
   ·push_cast[true_and];exact qT (by lia) q
   push_cast[true_and];refine⟨wy,L,rfl,h,λl W=>⟨sz rfl,cN ?_ ?_⟩⟩
   ·have:=(Bo W).2.2;simp only[e8,b7,bX,this,zci]
   ·exact q (.lf l) (a+2) (by exact W) (by simp[dp]) (by exact LL k)
  ·refine NH (λQ q=>?_) ?_
   ·push_cast[true_and];exact qF (by lia) q
   obtain⟨j,rfl⟩:∃j,k=j+1:=⟨k - 1,by lia⟩
   have ab:cap j+2<=cap (j+1):=by
    rcases(by lia:j=0∨j=1∨j=2) with rfl|rfl|rfl<;>simp[cap]
   by_cases h7:wy=7
   ·refine G0 (λQ q=>?_) ?_
    ·push_cast[true_and];exact qT (by lia) q
    push_cast[true_and];refine⟨j,rfl,I,a+1,?_,y,O,λp a' k1 k2 k3=>?_⟩
    ·simp
    ·push_cast[xP,jV,xQ];refine⟨_,rfl,rfl,_,_,rfl,_,_,rfl,rfl,sz rfl,sz rfl,cN ?_ ?_⟩
     ·simp only[b7,bX,lW,zci]
     ·exact q (.many p) a' (by exact k1) (by simp only[dp];simp_all) (by simp only[oc];lia)
   ·refine NH (λQ q=>?_) ?_
    ·push_cast[true_and];exact qF (by lia) q
    push_cast[bx,gV,qY,Ie];have em4:(if(3:Int)<((j+1:Nat):Int) then(3:Int) else((j+1:Nat):Int))=((j+1:Nat):Int):=by rw[yIn (by lia)]
    rw[em4];obtain⟨c,hc,hc0,hc1⟩:∃c:Nat,ia [D.int 1,D.int 3,D.int 4,D.int 3] ((j+1:Nat):Int)=some (.int c)/\0<c/\c<=4/\(c - 1)*cap j+1<=cap (j+1):=by
     rcases(by lia:j=0∨j=1∨j=2) with rfl|rfl|rfl
     ·refine⟨3,dY,by lia,by lia,by decide⟩
     ·refine⟨4,at2,by lia,by lia,by decide⟩
     ·refine⟨3,NZ,by lia,by lia,by decide⟩
    have hm:=zcF L hc0;refine⟨sz rfl,sz rfl,⟨_,hc,?_⟩⟩;simp only[Ig,e8];refine⟨by lia,_,rfl,by lia,by lia,?_⟩;rw[show((L:Int) % c).toNat=L % c by rfl];generalize L % c=m at hm⊢;refine bE (λrest Z S'=>∃(u:List Pt)(a:Nat)(v5 v7:Option D),Z=[some (.lst (nL I)),some (.int a),some (.int ((j+1:Nat):Int)),some (.int wy),some (.int L),v5,some (.loc S.length),v7]/\S'=S++[some (.lst (yr u))]/\u.length+rest.length=m/\z8 u/\Jt u<=j/\ue u<=u.length*cap j) ?_ ?_ _ _ _
     ⟨[],a+2,none,none,rfl,rfl,by simp[cQ],trivial,zcB _,zcB _⟩
    ·intro Z S' z;let⟨u,a,v5,v7,rfl,rfl,W,h1,h2,h3⟩:=z;push_cast[qu];refine⟨sz rfl,by decide,?_⟩;have U:ue u+1<=cap (j+1):=by
      have:u.length*cap j<=(c - 1)*cap j:=Nat.mul_le_mul_right _ (by lia);lia
     refine pick (by show wy % 2<2;lia) λe he=>?_;have es:aX (S++[some (.lst (yr u))]) (.loc S.length)=.lst (yr u):=by simp[aX,MO.d]
     rw[es];simp only[zcd,zbw,or_false] at he;obtain rfl|rfl:=he
     ·refine⟨sz rfl,sz rfl,tU ?_ (q (.seq u) a (by exact h1) (by simp only[dp];simp_all) (by exact U))⟩;simp only[e8,b7,bX,jZ,zci]
     ·refine⟨sz rfl,sz rfl,tU ?_ (q (.alt u) a (by exact h1) (by simp only[dp];simp_all) (by exact U))⟩;simp only[e8,b7,bX,jZ,zci]
    ·intro x rest Z S' N' z hN';let⟨u,a,v5,v7,rfl,rfl,W,h1,h2,h3⟩:=z;push_cast[xP,jV,xQ,ou];refine⟨j,rfl,I,a,?_,y,O,λp a' k1 k2 k3=>?_⟩
     ·simp
     ·refine⟨_,rfl,rfl,_,_,rfl,_,_,rfl,rfl,by simp[aX,MO.d,K7],S.length,yr u,_,rfl,rfl,by simp,by rw[gD,yaf];lia,?_⟩;rw[zaz _ _ (zcA _),zcu];refine hN' _ _ ⟨u++[p],a',_,_,rfl,?_,by simp at W⊢;lia,r9 u p h1 k1,by rw[xm];lia,?_⟩
      ·rw[j6,j6,zbK];rfl
      ·rw[vY,zaP,Nat.add_mul];show _<=_+1*cap j;lia
def Lr(F:Src K mg "_law_part" dZ vB)(h:∀ds S Q,¬sp ds S Q):Def P w K mg base (k+1) "_law_part" dZ (az K sp):=
 F.def e7 (λvs H Q E z=>by let⟨_,_,_,_,_,_,q,_⟩:=z;simp_all) λf a A outer s H vs Q E j z=>by let⟨_,_,_,_,_,_,q,_⟩:=z;exact(h _ _ _ q).elim
theorem HA(T:Txt K mg C fi G gi)(F:Src K mg "_law_part" dZ vB)(a:Def P w K mg base 2 "_law_leaf" gY (az K tM)):∀k,k<=3->Def P w K mg base (k+3) "_law_part" dZ (az K (tL k))
 |0,h=>BQ T F a 0 h (Lr F λo S Q=>x1_1 λj e _=>by lia)
 |k+1,h=>BQ T F a (k+1) h ((HA T F a k (by lia)).imp λvs H Q E z=>by
   let⟨w,o,S,s,ok,rep,⟨j,e,q⟩,bk⟩:=z;obtain rfl:j=k:=by lia
   refine⟨w,o,S,s,ok,rep,q,bk⟩)
def ED:AN:=λa S Q=>∃z:Int,a=[.int z,.int 2]/\∀p:Pt,xY p->dp p<=2->oc p<=21->Q (.dat (tD p)) S
def Q6(T:Txt K mg C fi G gi)(F:Src K mg "_law_pattern" lF (top 47))(a:Def P w K mg base 1 "_law_draws" d9 (az K kc))(j:Def P w K mg base 5 "_law_part" dZ (az K (tL 2))):Def P w K mg base 6 "_law_pattern" lF (az K ED):=by
 refine eE F OW (λL S Q h=>?_) (λf O A outer s H E o=>?_)
 ·let⟨z,rfl,_⟩:=h;rfl
 ·refine⟨_,(Xu (XC (Xx (XQ j o (Xq (XQ a o (Xq (Xp 0) (Xq (Xy Yh (XF (Xs Xv)) Xv) Xw))) (Xq Xv (Xs (Xp 1)))))))),λL S Q h=>?_⟩;let⟨z,rfl,q⟩:=h;have I:aO Cb [.int z,.int 2]=[some (.int z),some (.int 2)]:=rfl;rw[I];push_cast[DA];refine⟨sz rfl,by decide,by decide,by decide,z,zbW 50 720,?_,λn x=>by rw[List.eq_of_mem_replicate x];lia,by grind,λu U y=>?_⟩
  ·rfl
  ·refine⟨u,0,rfl,by grind,by grind,λp W k1 k2 v=>?_⟩;push_cast[aG,dF];exact cN (lW p) (q p k1 k2 (zcp v (by decide)))
open PySem L2 M M6
noncomputable abbrev x6:List Str:=["_law_machine_here","_law_stands","_law_marks_here","_law_found","_law_at","_law_one","_law_leaf_here","_law_other"]
noncomputable abbrev iU:=x6.take 3
def gG:ak x6 iU (ah (top 48)):=L2.bZ
noncomputable abbrev Ja:List Str:=["_law_machine_here","_law_stands","_law_side","_law_word","_law_found","_law_one","_law_leaf_here","_law_other"]
noncomputable abbrev qG:=Ja.take 4
def vz:ak Ja qG (ah (top 49)):=L2.bZ
def ML(h:d.length<=100):u7 1 (.lst (nL d))=true/\u7 1 (.tup (nL d))=true:=by
 have:(nL d).all (u7 0)=true:=by
  rw[zbt];intro x a;let⟨k,_,rfl⟩:=zcm.mp a;rfl
 simp only[u7,this,zcj,decide_eq_true_eq];rw[nL,zbF];exact⟨h,h⟩
theorem zu{k:Nat}:∀ns:List Nat,inD (.int (k:Int)) (nL ns)=decide (k∈ns)
 |[]=>rfl
 |n::ns=>by
  have a:=zu (k:=k) ns;unfold inD nL at a⊢;have e:PyData.eqv (py (.int n)) (py (.int k))=decide (k=n):=by
   simp only[py,PyData.eqv];by_cases h:k=n
   ·subst h;simp
   ·rw[yDf h];simp;lia
  simp_all
def ux{Q:AK}(e:aX S d=.lst (nL g)∨aX S d=.tup (nL g))(a:g.length<=100)(q:Q (.dat (.bl (neg != decide (k∈g)))) S):sX neg (.int (k:Int)) d S Q:=by
 delta sX;obtain e|e:=e<;>rw[e]
 ·refine⟨gC (n:=0) rfl (by decide),gC (ML a).1 (by decide),by rw[show aX S (.int k)=.int k from rfl,zu];exact q⟩
 ·refine⟨gC (n:=0) rfl (by decide),gC (ML a).2 (by decide),by rw[show aX S (.int k)=.int k from rfl,zu];exact q⟩
def QJ(e:aX S d=.lst (nL g))(h:g[i]? =some k)(q:r (.dat (.int k)) S):xU d (.int (i:Int)) S r:=by
 delta xU;rw[e];refine⟨_,dg h,q⟩
def uq:L7 (.str d) (.str g) S k=k (.dat (.bl (!decide (d=g)))) S:=rfl
def QN(h:aX S k=.lst ds)(g:sX neg d (.lst ds) S q):sX neg d k S q:=by
 delta sX at g⊢;rw[h];exact g
def EX(h:S[n]? =some (some (.lst ds))):aX S (.loc n)=.lst ds:=by simp only[aX,h];rfl
def Rv(h:S[n]? =some g):(S++d)[n]? =some g:=by
 rw[zag (zaf.mp h).1];exact h
def Ao:AN:=λu S Q=>∃(n b:Nat)(q:List Nat)(a:List Mv)(st:List Nat)(ms:List Str)(o:Nat),u=[mD n b q a,.lst (nL st),.loc o]/\S[o]? =some (some (.lst (ms.map D.str)))/\n<=62/\(∀m∈a,yc n m)/\a.length<=62/\(∀s∈st,s<n)/\st.Nodup/\texts ms/\
 ∀j:List Nat,j.Nodup->(∀x,x∈j↔Reach a ms st x)->Q (.new (.lst (nL j))) S
def Lw(T:Txt K mg C fi G gi)(F:Src K mg "_law_still" iU (top 48)):Def P w K mg base 1 "_law_still" iU (az K Ao):=by
 refine eE F gG (λds S Q h=>?_) (λf cdv A outer s H E L=>?_)
 ·let⟨n,b,Y,u,st,ms,X,rfl,_⟩:=h;rfl
 ·refine⟨_,(Xr (Xz 3 gG.nd (XO (Yg M.we (by rfl) T.list (by rfl) (Xs (Xp 1))))) (Xr (Xz 4 gG.nd Xv) (Xr (M.jh PassesOwn.never (XD M.KJ (Xp 4) (XW Yi (by rfl) T.len (by rfl) (Xs (Xp 3))) (aT _)) (Xr (Yc PassesOwn.never rfl (XZ (Xx (Xp 0))) (Yl rfl (XM (XG 5 gG.nd) (XM (XG 6 gG.nd) (XM (XG 7 gG.nd) Yk)))) (Xu (XH (Yu (Yz (XD (X7 L) (Xp 5) (XX (Xp 3) (Xp 4)) (aT _)) (Yz (XD (M.nY L) (Xp 7) (Xp 3) rfl) (YV (XD (YG L) (Xx (Xp 6)) XE (aT _)))))) (Xu (XH (Yu (YW (XD (X7 L) (Xx (Xp 6)) XE (aT _)) (YX (XD (X7 L) (YA (Yy L) (Xx (Xp 6)) (Xp 2) rfl) (YA (X7 L) (Xx (Xp 6)) XE (aT _)) (aT _))))) (Xu (XJ (Ye PySem.F.plainAttrs_list PySem.F.slot_list_append PySem.F.type_list_append Yq (Xp 3) (Xs (Xp 7))))) XT)) XT))) (Xu (Xz 4 gG.nd (Xy XU (Xp 4) Xv))))) (Xu (XC (Xp 3)))))),λds S Q h=>?_⟩;let⟨n,b,Y,u,st,ms,X,rfl,hlc,n6,hmv,hl,hst,hsn,hms,q⟩:=h;have e0:aO x6 [mD n b Y u,.lst (nL st),.loc X]=[some (mD n b Y u),some (.lst (nL st)),some (.loc X),none,none,none,none,none]:=rfl;rw[e0];push_cast[bx,uU];have NZ:∀a,(S++[some a])[S.length]? =some (some a):=λa=>by simp
  have VN:∀a c,(S++[some a]).set S.length (some c)=S++[some c]:=λa c=>by simp
  have JX:∀ds,aX (S++[some (.lst ds)]) (.loc S.length)=.lst ds:=λa=>by simp only[aX,NZ];rfl
  obtain⟨W,hW⟩:∃W:Nat->aV->aq->Prop,W=λμ Z S2=>∃(i:Nat)(j:List Nat)(y v I:Option D),Z=[some (mD n b Y u),some (.lst (nL st)),some (.loc X),some (.loc S.length),some (.int i),y,v,I]/\S2=S++[some (.lst (nL j))]/\μ=n - i/\i<=j.length/\
      j.Nodup/\(∀s∈st,s∈j)/\(∀k∈j,Reach u ms st k)/\(∀m∈u,m.1∈j.take i->hold m.2.1 ms=true->m.2.2∈j):=⟨_,rfl⟩
  refine⟨W,⟨n - 0,by rw[hW];refine⟨0,st,none,none,none,rfl,rfl,rfl,zcB _,hsn,λs hs=>hs,λk hk=>.base hk,λm hm h1=>by simp at h1⟩⟩,?_⟩;intro μ Z S2 hw;rw[hW] at hw;let⟨i,j,y,v,I,rfl,rfl,rfl,hi,hn,h1,h2,h3⟩:=hw;have hlt  :=λk hk=>(h2 k hk).lt hmv hst;have hkl:=iK n j hn hlt;push_cast[true_and];refine⟨j.length,by rw[JX];simp[ie,nL],fH (λhw=>?_) (λhw=>?_)⟩
  ·have hw:i<j.length:=by simp_all
   obtain⟨a,ea⟩:∃a,j[i]? =some a:=⟨_,zam hw⟩
   obtain⟨N,hN⟩:∃N:aV->aq->Prop,N=λZ S2=>∃(o:List Nat)(y v I:Option D),Z=[some (mD n b Y u),some (.lst (nL st)),some (.loc X),some (.loc S.length),some (.int ((i+1:Nat):Int)),y,v,I]/\S2=S++[some (.lst (nL o))]/\i+1<=o.length/\
      o.Nodup/\(∀s∈st,s∈o)/\(∀k∈o,Reach u ms st k)/\(∀m∈u,m.1∈o.take (i+1)->hold m.2.1 ms=true->m.2.2∈o):=⟨_,rfl⟩
   refine⟨N,?_,?_⟩
   ·rw[hN,hW];intro δ' S3 z;let⟨o,w5,w6,w7,g1,g2,g3,g4⟩:=z;refine⟨n - (i+1),by grind,i+1,o,w5,w6,w7,g1,g2,rfl,g3,g4⟩
   ·push_cast[gV,gQ,mD,aG,K36.NZ,fQ];refine bE (λrest Z S3=>∃(qm O:List Mv)(ex:List Nat)(y v I:Option D),rest=O.map vD/\qm++O=u/\Z=[some (mD n b Y u),some (.lst (nL st)),some (.loc X),some (.loc S.length),some (.int i),y,v,I]/\S3=S++[some (.lst (nL (j++ex)))]/\(j++ex).Nodup/\(∀k∈j++ex,Reach u ms st k)/\(∀m∈qm,m.1=a->hold m.2.1 ms=true->m.2.2∈j++ex)) ?_ ?_ _ _ _ ⟨[],u,[],y,v,I,rfl,rfl,rfl,by simp,by simp_all,by rw[zbG];exact h2,by simp⟩
    ·intro Z S3 z;let⟨qm,O,ex,y,v,I,L,he,rfl,rfl,g1,g2,g3⟩:=z;have:O=[]:=by simp_all
     subst this;rw[zbG] at he;subst he;push_cast[true_and];rw[hN];refine⟨j++ex,_,_,_,rfl,rfl,by rw[zaP];lia,g1,λs hs=>zaD _ (h1 s hs),g2,λm hm k1 k2=>?_⟩;rw[List.take_append_of_le_length (by assumption),List.take_succ,ea] at k1;obtain h|h:=zbE.mp k1
     ·exact zaD _ (h3 m hm h k2)
     ·exact g3 m hm (by simpa using h) k2
    ·intro x rest Z S3 N' z hN';let⟨qm,O,ex,y,v,I,L,he,rfl,rfl,g1,g2,g3⟩:=z;cases O with
     |nil=>simp at L
     |cons r O=>
      injection L with e1 e2;subst e1;subst e2;have hrm:r∈u:=by rw[<-he];simp
      have ok:=hmv r hrm;have he':(qm++[r])++O=u:=by simp_all
      have ab:=iK n _ g1 λk hk=>(g2 k hk).lt hmv hst;have skip:(r.1=a->hold r.2.1 ms=true->r.2.2∈j++ex)->∀y v I,N' [some (mD n b Y u),some (.lst (nL st)),some (.loc X),some (.loc S.length),some (.int i),y,v,I] (S++[some (.lst (nL (j++ex)))]):=λhh y v I=>
       hN' _ _ ⟨qm++[r],O,ex,_,_,_,rfl,he',rfl,rfl,g1,g2,λm hm=>by
        obtain h|h:=zbE.mp hm
        ·exact g3 m h
        ·rw[zaS.mp h];exact hh⟩
      have add:r.1=a->hold r.2.1 ms=true->r.2.2 ∉ j++ex->∀y v,ou "list" k9 (fy 3) (iR (fy 7) gu) [some (mD n b Y u),some (.lst (nL st)),some (.loc X),some (.loc S.length),some (.int i),y,v,some (.int r.2.2)] (S++[some (.lst (nL (j++ex)))]) λx S1=>N' [some (mD n b Y u),some (.lst (nL st)),some (.loc X),some (.loc S.length),some (.int i),y,v,some (.int r.2.2)] S1:=λk1 k2 k3 y v=>by
       push_cast[ou];refine⟨by rw[JX];rfl,S.length,_,_,rfl,rfl,NZ _,by rw[nL,zbF,yaf];lia,?_⟩;rw[VN,show nL (j++ex)++[D.int (r.2.2:Int)]=nL (j++(ex++[r.2.2])) by simp[nL]];refine hN' _ _ ⟨qm++[r],O,ex++[r.2.2],_,_,_,rfl,he',rfl,rfl,?_,λk hk=>?_,λm hm e1 e2=>?_⟩
       ·rw[<-zbd];exact pM g1 k3
       ·rw[<-zbd] at hk;obtain h|h:=zbE.mp hk
        ·exact g2 k h
        ·rw[zaS.mp h];exact .go (k1▸g2 a (zaD _ (zaF ea))) hrm k2
       grind
      refine⟨trivial,_,rfl,rfl,_,_,rfl,_,_,rfl,_,_,rfl,rfl,?_⟩;push_cast[true_and];refine QJ (JX _) (show(j++ex)[i]? =some a by rw[zag hw];exact ea) ?_;refine⟨_,rfl,fH (λc1=>?_) (λc1=>skip (λe=>absurd (yDt (by rw[e])) c1) _ _ _)⟩;have c1:r.1=a:=by have:=of_decide_eq_true c1;lia
      refine ux (.inl (JX _)) (by lia) ⟨_,rfl,fH (λc2=>?_) (λc2=>skip (λ_ _=>Decidable.byContradiction λh=>c2 (by simp_all)) _ _ _)⟩;have c2:r.2.2 ∉ j++ex:=by lia
      have U:=ok.2.1;cases hlf:r.2.1 with
      |stay=>
       rw[hlf] at skip add U;push_cast[lD,aG,K36.dF,K36.dY,uq];exact add c1 rfl c2 _ _
      |step c x=>
       rw[hlf] at skip add U;push_cast[lD,aG,K36.dF,K36.dY,uq];exact skip (λ_ h=>by cases h) _ _ _
      |mk c m=>
       rw[hlf] at skip add U;push_cast[lD,aG,K36.dF,K36.dY,uq];rw[yIp (by cases c<;>decide),yIn (by cases c<;>decide)];refine QN (EX (Rv hlc)) ?_;refine su (n:=0) (g7 U) (by decide) (zbt.mpr hms.2) ?_ (by have:=hms.1;lia);rw[uy];refine⟨_,rfl,fH (λc3=>add c1 ?_ c2 _ _) (λc3=>skip (λ_ h=>absurd ?_ c3) _ _ _)⟩
       ·simp only[hold];cases c<;>cases hd:decide (m∈ms)<;>rw[hd] at c3<;>first|rfl|(exact absurd c3 (by decide))
       ·simp only[hold] at h;cases c<;>cases hd:decide (m∈ms)<;>rw[hd] at h<;>first|decide|simp_all
  ·have hw:i=j.length:=by
    have:¬((i:Int)<j.length):=λh=>hw (yDt h);lia
   subst hw;rw[zbu] at h3;refine nS (zcA _) (kB j) (NZ _) (by simp) (q j hn λx=>⟨h2 x,λhx=>hx.closed h1 h3⟩)
def M4:AN:=λq S Q=>∃(n b:Nat)(o:List Nat)(a:List Mv)(st:List Nat)(sd wd:Str),q=[mD n b o a,.lst (nL st),.str sd,.str wd]/\n<=62/\(∀m∈a,yc n m)/\a.length<=62/\(∀s∈st,s<n)/\st.length<=62/\dO wd=true/\
 ∀j:List Nat,j.Nodup->(∀x,x∈j↔WL a st sd wd x)->Q (.new (.lst (nL j))) S
def UN(T:Txt K mg C fi G gi)(F:Src K mg "_law_by" qG (top 49)):Def P w K mg base 1 "_law_by" qG (az K M4):=by
 refine eE F vz (λds S Q h=>?_) (λf cdv A outer s H E L=>?_)
 ·let⟨n,b,X,o,st,sd,wd,rfl,_⟩:=h;rfl
 ·refine⟨_,(Xr (Xz 4 vz.nd (XO (XF Xw))) (Xr (Yc PassesOwn.never rfl (XZ (Xx (Xp 0))) (Yl rfl (XM (XG 5 vz.nd) (XM (XG 6 vz.nd) (XM (XG 7 vz.nd) Yk)))) (Xu (XH (Yu (Yz (XD (Yy L) (Xp 5) (Xp 1) rfl) (Yz (XD (X7 L) (Xx (Xp 6)) XE (aT _)) (Yz (XD (X7 L) (Xx (Xp 6)) (Xp 2) (aT _)) (YV (XD (Yy L) (Xx (Xp 6)) (XA (Xq XE (Xs (Xp 3)))) rfl)))))) (Xu (XH (XD (M.nY L) (Xp 7) (Xp 4) rfl) (Xu (XJ (Ye PySem.F.plainAttrs_list PySem.F.slot_list_append PySem.F.type_list_append Yq (Xp 4) (Xs (Xp 7))))) XT)) XT))) (Xu (XC (Xp 4))))),λds S Q h=>?_⟩;let⟨n,b,X,o,st,sd,wd,rfl,n6,hmv,hl,hst,hsl,hwd,q⟩:=h;have e0:aO Ja [mD n b X o,.lst (nL st),.str sd,.str wd]=[some (mD n b X o),some (.lst (nL st)),some (.str sd),some (.str wd),none,none,none,none]:=rfl;rw[e0];push_cast[bx,gV,gQ,mD,aG,K36.NZ,fQ];have Y:∀a,(S++[some a])[S.length]? =some (some a):=λa=>by simp
  have VM:∀a c,(S++[some a]).set S.length (some c)=S++[some c]:=λa c=>by simp
  have SG:∀ds,aX (S++[some (.lst ds)]) (.loc S.length)=.lst ds:=λa=>by simp only[aX,Y];rfl
  refine⟨zcB _,bE (λrest δ S3=>∃(U y:List Mv)(j:List Nat)(v u Z:Option D),rest=y.map vD/\U++y=o/\δ=[some (mD n b X o),some (.lst (nL st)),some (.str sd),some (.str wd),some (.loc S.length),v,u,Z]/\S3=S++[some (.lst (nL j))]/\j.Nodup/\(∀k∈j,k<n)/\∀x,x∈j↔∃m∈U,m.1∈st/\take m.2.1 sd wd=true/\m.2.2=x) ?_ ?_ _ _ _ ⟨[],o,[],none,none,none,rfl,rfl,rfl,rfl,.nil,by simp,by simp⟩⟩
  ·intro δ S3 z;let⟨U,y,j,v,u,Z,L,he,rfl,rfl,hn,O,hx⟩:=z;have:y=[]:=by simp_all
   subst this;rw[zbG] at he;subst he;push_cast[true_and];exact nS (zcA _) (kB j) (Y _) (by simp) (q j hn hx)
  ·intro x rest δ S3 N' z hN';let⟨U,y,j,v,u,Z,L,he,rfl,rfl,hn,O,hx⟩:=z;cases y with
   |nil=>simp at L
   |cons r y=>
    injection L with e1 e2;subst e1;subst e2;have hrm:r∈o:=by rw[<-he];simp
    have ok:=hmv r hrm;have he':(U++[r])++y=o:=by simp_all
    have hkl:=iK n j hn O;have skip:((r.1∈st/\take r.2.1 sd wd=true)->r.2.2∈j)->∀v u Z,N' [some (mD n b X o),some (.lst (nL st)),some (.str sd),some (.str wd),some (.loc S.length),v,u,Z] (S++[some (.lst (nL j))]):=λhh v u Z=>
     hN' _ _ ⟨U++[r],y,j,_,_,_,rfl,he',rfl,rfl,hn,O,λx=>⟨λh=>by
       let⟨m,h1,h2⟩:=(hx x).mp h;refine⟨m,zaD _ h1,h2⟩,x1_3 λm h1 h2 h3 h4=>by
       grind⟩⟩
    have add:r.1∈st->take r.2.1 sd wd=true->r.2.2 ∉ j->∀v u,ou "list" k9 (fy 4) (iR (fy 7) gu) [some (mD n b X o),some (.lst (nL st)),some (.str sd),some (.str wd),some (.loc S.length),v,u,some (.int r.2.2)] (S++[some (.lst (nL j))]) λx S1=>N' [some (mD n b X o),some (.lst (nL st)),some (.str sd),some (.str wd),some (.loc S.length),v,u,some (.int r.2.2)] S1:=λk1 k2 k3 v u=>by
     push_cast[ou];refine⟨by rw[SG];rfl,S.length,_,_,rfl,rfl,Y _,by rw[nL,zbF,yaf];lia,?_⟩;rw[VM,show nL j++[D.int (r.2.2:Int)]=nL (j++[r.2.2]) by simp[nL]];refine hN' _ _ ⟨U++[r],y,j++[r.2.2],_,_,_,rfl,he',rfl,rfl,pM hn k3,λk hk=>?_,λx=>⟨λh=>?_,x1_3 λm h1 h2 h3 h4=>?_⟩⟩
     ·obtain h|h:=zbE.mp hk
      ·exact O k h
      ·rw[zaS.mp h];exact ok.2.2
     ·obtain h|h:=zbE.mp h
      ·let⟨m,h1,h2⟩:=(hx x).mp h;refine⟨m,zaD _ h1,h2⟩
      ·refine⟨r,by simp,k1,k2,(zaS.mp h).symm⟩
     grind
    refine⟨trivial,_,rfl,rfl,_,_,rfl,_,_,rfl,_,_,rfl,rfl,?_⟩;push_cast[true_and];refine ux (.inl rfl) (by lia) ⟨_,rfl,fH (λc1=>?_) (λc1=>skip (λh=>absurd (by simp_all) c1) _ _ _)⟩;have c1:r.1∈st:=by simp_all
    have I:=ok.2.1;cases W:r.2.1 with
    |stay=>
     rw[W] at skip add I;push_cast[lD,aG,K36.dF,K36.dY,K36.at2];exact skip (λh=>by cases h.2) _ _ _
    |mk c m=>
     rw[W] at skip add I;push_cast[lD,aG,K36.dF,K36.dY,K36.at2];rw[yIn (by cases c<;>decide)];exact skip (λh=>by cases h.2) _ _ _
    |step c x=>
     rw[W] at skip add I;push_cast[lD,aG,K36.dF,K36.dY,K36.at2];rw[yIp (by decide)];refine fH (λc2=>?_) (λc2=>skip (λh=>absurd ?_ c2) _ _ _)
     ·refine⟨sz rfl,p5 (n:=0) (ss:=["*",wd]) (D5 I) (by decide) (by simp only[zcg,hwd];rfl) ⟨_,rfl,fH (λc3=>?_) (λc3=>skip (λh=>absurd ?_ c3) _ _ _)⟩ (by simp)⟩
      ·have ht:take (.step c x) sd wd=true:=by
        simp only[Js,zce,List.any_nil,Bool.or_false,zbY] at c3;simp only[take,c2];rw[Bool.or_comm];exact c3
       refine ux (.inl (SG _)) (by lia) ⟨_,rfl,fH (λc4=>?_) (λc4=>skip (λ_=>Decidable.byContradiction λh=>c4 (by simp_all)) _ _ _)⟩;exact add c1 ht (by simpa using c4) _ _
      ·have h:=h.2;simp only[take,zbB] at h;simp only[Js,zce,List.any_nil,Bool.or_false,zbY];rw[Bool.or_comm];exact h.2
     ·have h:=h.2;simp only[take,zbB] at h;exact h.1
open PySem PySem.Spec L2 M M6 PyProof.Rows
abbrev Kn:=Str×List Str
abbrev Ti:=Str×Str×Str
noncomputable abbrev fl:List Str:=["marked","tied","near"]
structure Kc where
 nm:Str
 ml:List Str
 mc:Nat
 nc:Nat
noncomputable def Kc.kn(c:Kc):Kn:=(c.nm,c.ml)
noncomputable def m7(a:List Kc):List Str:=a.map (·.nm)
noncomputable def kk(a:List Kc):List Key:=a.map λc=>.inr c.nm
noncomputable def mO(ms:List Str):MO:=.dct (ms.map Sum.inr) (ms.map λ_=>.bl true)
def stp(ts:List Ti)(x:Str)(j:Ti):Prop:=(j.1="on"/\(x,j.2.1,j.2.2)∈ts)∨(j.1="back"/\(j.2.2,j.2.1,x)∈ts)
noncomputable def cells(n m t e:Nat)(a:List Kc):List Nat:=n::m::t::e::(a.map (·.mc)++a.map (·.nc))
structure b6(C:Addr)(W:yak)(S:aq)(n m t e:Nat)(cs:List Kc)(ts:List Ti)(N:Str->Ti->Prop):Prop where
 at_:S[n]? =some (some (.ins C fl [.loc m,.loc t,.loc e]))
 wo:S[m]? =some (some (.dct (kk cs) (cs.map λc=>.loc c.mc)))
 ti:S[t]? =some (some (hN W (ts.map T3)))
 ne:S[e]? =some (some (.dct (kk cs) (cs.map λc=>.loc c.nc)))
 Bj:∀c∈cs,S[c.mc]? =some (some (mO c.ml))
 Bf:∀c∈cs,∃js:List Ti,S[c.nc]? =some (some (hN W (js.map T3)))/\js.Nodup/\js.length<=900/\(∀j∈js,iH j=true)/\∀j,j∈js↔N c.nm j
 nd:(cells n m t e cs).Nodup
 kn:(m7 cs).Nodup
 tn:ts.Nodup
 mn:∀c∈cs,c.ml.Nodup
 okn:∀c∈cs,dO c.nm=true/\∀m∈c.ml,dO m=true
 vX:∀t∈ts,iH t=true
 tk:∀t∈ts,t.1∈m7 cs/\t.2.2∈m7 cs
 kb:cs.length<64
 mb:∀c∈cs,c.ml.length<64
 tb:ts.length<=302
def bz(C:Addr)(W:yak)(S:aq)(n:Nat)(own:List Nat)(ks:List Kn)(ts:List Ti):Prop:=∃m t e a,own=cells n m t e a/\a.map Kc.kn=ks/\b6 C W S n m t e a ts (stp ts)
noncomputable abbrev nms(ks:List Kn):List Str:=ks.map (·.1)
def eB(a):nms (a.map Kc.kn)=m7 a:=by delta nms m7 Kc.kn;simp
structure Fr(S S':aq)(own own':List Nat):Prop where
 out:∀k,k<S.length->k ∉ own->S'[k]? =S[k]?
 len:S.length<=S'.length
 new:∀c∈own',c∈own∨S.length<=c
def cu(h:S[n]? =some d):n<S.length:=by
 grind
def bR(h:S[n]? =some d):(S.set n o')[n]? =some o':=by
 rw[zbc,yIp rfl,yIp (cu h)]
def au(h:k≠n):(S.set n o')[k]? =S[k]?:=zaE (Ne.symm h)
def aM{X:aq}(h:S[n]? =some d):(S++X)[n]? =some d:=by
 rw[zag (cu h)];exact h
def aS(h:n<S.length):(S++d)[n]? =S[n]?:=zag h
def aL:(S++[d])[S.length]? =some d:=by
 simp
def aA(h:S[n]? =some (some d)):aX S (.loc n)=d.d:=by simp only[aX,h]
def uA{ks a:List Str}{j:List D}{f:Str}{o:MO}{v:AE}{s:ef}(q:δ[i]? =some (some (.loc n)))(E:S[n]? =some (some (.ins C ks ds)))(y:ks.length<1000)(u:∀Q:AK,Q (.dat (.loc S.length)) (S++[some o])->v δ S Q)(x:putD f (.loc S.length) ks ds=(a,j))(nx:s.nx δ ((S++[some o]).set n (some (.ins C a j)))):AF C (fy i) v f s δ S:=by
 refine u _ ⟨_,q,n,ks,ds,rfl,aM E,y,?_⟩;show s.nx δ ((S++[some o]).set n (some (.ins C (putD f (.loc S.length) ks ds).1 (putD f (.loc S.length) ks ds).2)));rw[x];exact nx
section
variable {t e:Nat}{cs:List Kc}
def WA:n∈cells n m t e cs:=by simp[cells]
def WB:m∈cells n m t e cs:=by simp[cells]
def Vx:t∈cells n m t e cs:=by simp[cells]
def WC:e∈cells n m t e cs:=by simp[cells]
def LM(h:d∈cs):d.mc∈cells n m t e cs:=by
 simp only[cells,zcd,zbE,zcm];exact .inr (.inr (.inr (.inr (.inl ⟨d,h,rfl⟩))))
def Dt(h:d∈cs):d.nc∈cells n m t e cs:=by
 simp only[cells,zcd,zbE,zcm];exact .inr (.inr (.inr (.inr (.inr ⟨d,h,rfl⟩))))
structure Apart(n m t e:Nat)(cs:List Kc):Prop where
 nm:n≠m
 nt:n≠t
 ne:n≠e
 mt:m≠t
 me:m≠e
 te:t≠e
 nc:∀c∈cs,n≠c.mc/\n≠c.nc
 mc:∀c∈cs,m≠c.mc/\m≠c.nc
 tc:∀c∈cs,t≠c.mc/\t≠c.nc
 ec:∀c∈cs,e≠c.mc/\e≠c.nc
 cc:∀c∈cs,∀c'∈cs,c.mc≠c'.nc
 mm:(cs.map (·.mc)).Nodup
 nn:(cs.map (·.nc)).Nodup
def apart(h:(cells n m t e cs).Nodup):Apart n m t e cs:=by
 delta cells at h;rw[zbH,zbH,zbH,zbH,zbh] at h;let⟨h1,h2,o,x,v,u,s⟩:=h;have P:∀{a:Nat},a ∉ (cs.map (·.mc)++cs.map (·.nc))->∀c∈cs,a≠c.mc/\a≠c.nc:=λ{a} h c q=>
  ⟨λz=>h (by grind),λz=>h (by grind)⟩
 simp only[zcd,not_or] at h1 h2 o;refine⟨h1.1,h1.2.1,h1.2.2.1,h2.1,h2.2.1,o.1,P h1.2.2.2,P h2.2.2,P o.2,P x,λc q y j z=>s _ (zcm.mpr ⟨c,q,rfl⟩) _ (zcm.mpr ⟨y,j,rfl⟩) z,v,u⟩
theorem jO{α q:Type}{f:α->q}:∀{l:List α},(l.map f).Nodup->∀a∈l,∀b∈l,f a=f b->a=b
 |[],_,a,h,_,_,_=>by simp at h
 |x::l,hn,a,o,b,j,e=>by
  rw[zcf,zbH] at hn;obtain u|o:=zcd.mp o
  ·grind
  ·obtain s|j:=zcd.mp j
   ·simp_all
   ·exact jO hn.2 a o b j e
end
def G5(j)(x):gn (kk j) (.inr x)=decide (x∈m7 j):=by
 delta gn kk;rw[zcl];by_cases h:x∈m7 j
 ·rw[yDt h];let⟨k,a,rfl⟩:=zcm.mp h;exact List.any_eq_true.mpr ⟨k,a,by simp⟩
 ·rw[yDf h];refine List.any_eq_false.mpr λk a z=>h ?_;have z  :=of_decide_eq_true z;injection z with z;exact zcm.mpr ⟨k,a,z⟩
theorem Hf:∀{a:List Kc}{x:Str},x∈m7 a->∃c∈a,c.nm=x/\∀f:Kc->D,dN (kk a) (a.map f) (.inr x)=some (f c)
 |[],x,h=>by simp[m7] at h
 |k::ks,x,h=>by
  by_cases e:k.nm=x
  ·delta dN kk;simp_all
  ·have j:x∈m7 ks:=by
    obtain z|z:=zcd.mp (show x∈k.nm::m7 ks from h)
    ·simp_all
    ·exact z
   let⟨c,o,h1,h2⟩:=Hf j;refine⟨c,zaC _ o,h1,λf=>?_⟩;have:=h2 f;unfold dN kk at this⊢;grind
def FW{c:Kc}(h:c.nm ∉ m7 d):iO (kk d) (d.map k) (.inr c.nm) (k c)=.dct (kk (d++[c])) ((d++[c]).map k):=by
 have:=G5 d c.nm;rw[yDf h] at this;delta gn at this;delta iO;rw[this];delta kk;simp
theorem xh{α:Type}{x:Str}(f:α->D)(g:α->Str):∀a:List α,((a.map λc=>(Sum.inr (g c):Key)).filter λj=>decide (j≠ .inr x))=((a.filter λc=>decide (g c≠x)).map λc=>(Sum.inr (g c):Key))/\
  ((((a.map λc=>(Sum.inr (g c):Key)).zip (a.map f)).filter λp=>decide (p.1≠ .inr x)).map (·.2))=(a.filter λc=>decide (g c≠x)).map f
 |[]=>⟨rfl,rfl⟩
 |c::a=>by
  let⟨h1,h2⟩:=xh (x:=x) f g a
  (simp at *;grind)
def xr(a:List Str)(m):gn (a.map Sum.inr) (.inr m)=decide (m∈a):=by
 delta gn
 (simp;grind)
def PY(h:x ∉ ms):iO (ms.map Sum.inr) (ms.map λ_=>.bl true) (.inr x) (.bl true)=mO (ms++[x]):=by
 delta iO mO;simp_all
def Lm:xu (ms.map Sum.inr) (ms.map λ_=>.bl true) (.inr x)=mO (ms.filter λc=>decide (c≠x)):=by
 obtain⟨h1,h2⟩:=xh (λ_=>.bl true) id ms;delta xu mO;have e:(ms.map λc=>(Sum.inr (id c):Key))=ms.map Sum.inr:=rfl;rw[e] at h1 h2;rw[h1,h2];rfl
theorem G9:∀{ms:List Str}{x:Str},x∈ms->dN (ms.map Sum.inr) (ms.map λ_=>.bl true) (.inr x)=some (.bl true)
 |[],x,h=>by simp at h
 |k::ks,x,h=>by
  delta dN;rw[zcf,zcf,zaR,zbO];by_cases e:k=x
  ·simp_all
  ·rw[yDf (λz=>e (by injection z))];have a:x∈ks:=by
    grind
   exact G9 a
def Nl(js:List Ti)(j:Ti)(o:js.Nodup):∃a:List Ti,putN (js.map T3) (T3 j)=a.map T3/\a.Nodup/\a.length<=js.length+1/\∀i,i∈a↔i∈js∨i=j:=by
 by_cases h:j∈js
 ·refine⟨js,?_,o,by lia,λi=>⟨.inl,λz=>z.elim id λe=>e▸h⟩⟩;have:=QS js j;rw[yDt h] at this;delta putN;delta zw at this;rw[this,yIp rfl]
 ·refine⟨js++[j],put3 h,?_,by simp,λi=>by simp⟩;refine zbh.mpr ⟨o,by simp,λx s y q z=>h ?_⟩;simp_all
def Hu(js:List Ti)(j:Ti):BI (js.map T3) (T3 j)=(js.filter λi=>decide (i≠j)).map T3:=by
 delta BI;rw[List.filter_map];congr 1;refine List.filter_congr λx _=>?_;show decide (py (T3 x)≠py (T3 j))=decide (x≠j);by_cases h:x=j
 ·simp_all
 ·rw[yDt (show py (T3 x)≠py (T3 j) from λz=>h (vO z)),yDt h]
def j8{ts js:List Ti}(a:js.Nodup)(h:∀j∈js,stp ts x j):js.length<=2*ts.length:=by
 have:=L2.mj (m:=(ts.map λt=>(("on",t.2.1,t.2.2):Ti))++(ts.map λt=>(("back",t.2.1,t.1):Ti))) a λj o=>by
  rcases h _ o with⟨e,g⟩|⟨e,g⟩
  ·grind
  grind
 rw[zaP,zbF,zbF] at this;lia
section
variable {W:yak}{t e:Nat}{cs:List Kc}{ts:List Ti}{N N':Str->Ti->Prop}
def b6.frame(X:b6 C W S n m t e cs ts N)(h:∀c∈cells n m t e cs,S'[c]? =S[c]?):b6 C W S' n m t e cs ts N:=
 ⟨by rw[h _ WA];exact X.at_,by rw[h _ WB];exact X.wo,by rw[h _ Vx];exact X.ti,by rw[h _ WC];exact X.ne,λc a=>by rw[h _ (LM a)];exact X.Bj c a,λc a=>by rw[h _ (Dt a)];exact X.Bf c a,X.nd,X.kn,X.tn,X.mn,X.okn,X.vX,X.tk,X.kb,X.mb,X.tb⟩
def b6.near(X:b6 C W S n m t e cs ts N)(o:d∈cs){js:List Ti}(h1:js.Nodup)(h2:js.length<=900)(I:∀j∈js,iH j=true)(H:∀j,j∈js↔N' d.nm j)(G:∀x,x≠d.nm->∀j,N x j↔N' x j):
  b6 C W (S.set d.nc (some (hN W (js.map T3)))) n m t e cs ts N':=by
 have A:=apart X.nd;let⟨F,L,_⟩:=X.Bf d o;refine⟨by rw[au (A.nc d o).2];exact X.at_,by rw[au (A.mc d o).2];exact X.wo,by rw[au (A.tc d o).2];exact X.ti,by rw[au (A.ec d o).2];exact X.ne,λq a=>by rw[au (A.cc q a d o)];exact X.Bj q a,λq a=>?_,X.nd,X.kn,X.tn,X.mn,X.okn,X.vX,X.tk,X.kb,X.mb,X.tb⟩;by_cases z:q.nc=d.nc
 ·have  :=jO A.nn q a d o z;subst this;refine⟨js,bR L,h1,h2,I,H⟩
 ·let⟨s,k1,k2,E,v,u⟩:=X.Bf q a;refine⟨s,by rw[au z];exact k1,k2,E,v,λj=>(u j).trans (G q.nm (λy=>z ?_) j)⟩;rw[jO X.kn q a d o y]
def b6.JJ(X:b6 C W S n m t e cs ts N)(h1:ts'.Nodup)(h2:∀t∈ts',iH t=true)(o:∀t∈ts',t.1∈m7 cs/\t.2.2∈m7 cs)(j:ts'.length<=302):
  b6 C W (S.set t (some (hN W (ts'.map T3)))) n m t e cs ts' N:=by
 have A:=apart X.nd;refine⟨by rw[au A.nt];exact X.at_,by rw[au A.mt];exact X.wo,bR X.ti,by rw[au (Ne.symm A.te)];exact X.ne,λc a=>by rw[au (Ne.symm (A.tc c a).1)];exact X.Bj c a,
  λc a=>by rw[au (Ne.symm (A.tc c a).2)];exact X.Bf c a,X.nd,X.kn,h1,X.mn,X.okn,h2,o,X.kb,X.mb,j⟩
noncomputable def setC(x:Str)(ms:List Str)(c:Kc):Kc:=if c.nm=x then{c with ml:=ms} else c
def nQ:(setC x ms d).nm=d.nm/\(setC x ms d).mc=d.mc/\(setC x ms d).nc=d.nc:=by
 delta setC;lia
def CC:m7 (cs.map (setC x ms))=m7 cs/\kk (cs.map (setC x ms))=kk cs/\(cs.map (setC x ms)).map (·.mc)=cs.map (·.mc)/\(cs.map (setC x ms)).map (·.nc)=cs.map (·.nc):=by
 delta m7 kk;refine⟨?_,?_,?_,?_⟩<;>rw[zcn]<;>refine zaJ λc _=>?_
 ·exact nQ.1
 ·show(Sum.inr (setC x ms c).nm:Key)=_;rw[nQ.1]
 ·exact nQ.2.1
 ·exact nQ.2.2
def b6.marks(X:b6 C W S n m t e cs ts N)(q:g∈cs)(h1:ms.Nodup)(h2:∀m∈ms,dO m=true)(x:ms.length<64):
  b6 C W (S.set g.mc (some (mO ms))) n m t e (cs.map (setC g.nm ms)) ts N/\cells n m t e (cs.map (setC g.nm ms))=cells n m t e cs:=by
 have A:=apart X.nd;obtain⟨v,u,G,F⟩:=CC;have ec:cells n m t e (cs.map (setC g.nm ms))=cells n m t e cs:=by delta cells;rw[G,F]
 have E:((cs.map (setC g.nm ms)).map λg=>D.loc g.mc)=cs.map λg=>.loc g.mc:=by
  simp_all
 have en:((cs.map (setC g.nm ms)).map λg=>D.loc g.nc)=cs.map λg=>.loc g.nc:=by
  simp_all
 have o:∀j∈cs.map (setC g.nm ms),(j={g with ml:=ms})∨(j∈cs/\j.mc≠g.mc):=λj a=>by
  let⟨d,hd,rfl⟩:=zcm.mp a;delta setC;by_cases z:d.nm=g.nm
  ·rw[yIp z,jO X.kn d hd g q z];exact .inl rfl
  ·rw[yIn z];exact .inr ⟨hd,λy=>z (by rw[jO A.mm d hd g q y])⟩
 refine⟨⟨by rw[au (A.nc g q).1];exact X.at_,by rw[au (A.mc g q).1,u,E];exact X.wo,by rw[au (A.tc g q).1];exact X.ti,by rw[au (A.ec g q).1,u,en];exact X.ne,λj a=>?_,λj a=>?_,by rw[ec];exact X.nd,by rw[v];exact X.kn,X.tn,
  λj a=>?_,λj a=>?_,X.vX,by rw[v];exact X.tk,by rw[zbF];exact X.kb,λj a=>?_,X.tb⟩,ec⟩
 ·obtain rfl|⟨h,s⟩:=o j a
  ·exact bR (X.Bj g q)
  ·rw[au s];exact X.Bj j h
 ·obtain rfl|⟨h,s⟩:=o j a
  ·rw[au (Ne.symm (A.cc g q g q))];exact X.Bf g q
  ·rw[au (Ne.symm (A.cc g q j h))];exact X.Bf j h
 ·obtain rfl|⟨h,s⟩:=o j a
  ·exact h1
  ·exact X.mn j h
 ·obtain rfl|⟨h,s⟩:=o j a
  ·exact⟨(X.okn g q).1,h2⟩
  ·exact X.okn j h
 ·obtain rfl|⟨h,s⟩:=o j a
  ·exact x
  ·exact X.mb j h
theorem Fr.set(h:k∈own):Fr S (S.set k d) own own:=
 ⟨λi _ a=>au λz=>a (z▸h),by simp,λc h=>.inl h⟩
def Fr.trans(a:Fr S d o1 o2)(b:Fr d g o2 r):Fr S g o1 r:=by
 refine⟨λk q o=>?_,zcp a.len b.len,λc v=>?_⟩
 ·rw[b.out k (zaU q a.len) λz=>?_,a.out k q o];obtain h|h:=a.new k z
  ·exact o h
  ·lia
 ·obtain h|h:=b.new c v
  ·exact a.new c h
  ·exact .inr (zcp a.len h)
end
open PySem PySem.Spec L2 M M6 PyProof.Rows
noncomputable abbrev vC:Stmt:=inClass (top 35) 0
noncomputable abbrev MD:List Str:=["self"]
noncomputable abbrev fS:=MD
def O3:ak MD fS (ah vC):=L2.bZ
noncomputable abbrev E9:Stmt:=inClass (top 35) 1
noncomputable abbrev Ca:List Str:=["self","name","marks"]
noncomputable abbrev lC:=Ca
def OV:ak Ca lC (ah E9):=L2.bZ
noncomputable abbrev E7:Stmt:=inClass (top 35) 3
noncomputable abbrev MA:List Str:=["self","one","word","other"]
noncomputable abbrev jo:=MA
def OT:ak MA jo (ah E7):=L2.bZ
noncomputable abbrev Pw:Stmt:=inClass (top 35) 9
noncomputable abbrev Jc:List Str:=["self","one","word","other"]
noncomputable abbrev mR:=Jc
def SO:ak Jc mR (ah Pw):=L2.bZ
noncomputable abbrev Fc:Stmt:=inClass (top 35) 13
noncomputable abbrev Cd:List Str:=["self","name"]
noncomputable abbrev dH:=Cd
def OX:ak Cd dH (ah Fc):=L2.bZ
noncomputable abbrev Fj:Stmt:=inClass (top 35) 14
noncomputable abbrev MC:List Str:=["self","name","marks"]
noncomputable abbrev lJ:=MC
def O2:ak MC lJ (ah Fj):=L2.bZ
noncomputable abbrev E8:Stmt:=inClass (top 35) 5
noncomputable abbrev B9:List Str:=["self","knot","mark"]
noncomputable abbrev lA:=B9
def OU:ak B9 lA (ah E8):=L2.bZ
noncomputable abbrev yF:Stmt:=inClass (top 35) 4
noncomputable abbrev IQ:List Str:=["self","one","word","other"]
noncomputable abbrev iS:=IQ
def JZ:ak IQ iS (ah yF):=L2.bZ
noncomputable abbrev yG:Stmt:=inClass (top 35) 6
noncomputable abbrev xZ:List Str:=["self","knot","mark"]
noncomputable abbrev iT:=xZ
def J0:ak xZ iT (ah yG):=L2.bZ
noncomputable abbrev Ft:Stmt:=inClass (top 35) 16
noncomputable abbrev ME:List Str:=["self","one","word","other"]
noncomputable abbrev lN:=ME
def O4:ak ME lN (ah Ft):=L2.bZ
noncomputable abbrev Fi:Stmt:=inClass (top 35) 15
noncomputable abbrev MB:List Str:=["self","one","word","other"]
noncomputable abbrev lI:=MB
def O1:ak MB lI (ah Fi):=L2.bZ
section
variable {W:yak}{t e:Nat}{cs:List Kc}{ts:List Ti}{N N':Str->Ti->Prop}
def b6.lt(X:b6 C W S n m t e cs ts N):∀c∈cells n m t e cs,c<S.length:=λc a=>by
 simp only[cells,zcd,zbE,zcm] at a;obtain rfl|rfl|rfl|rfl|⟨d,hd,rfl⟩|⟨d,hd,rfl⟩:=a
 ·exact cu X.at_
 ·exact cu X.wo
 ·exact cu X.ti
 ·exact cu X.ne
 ·exact cu (X.Bj d hd)
 ·let⟨j,h,_⟩:=X.Bf d hd;exact cu h
def b6.app(X:b6 C W S n m t e cs ts N):b6 C W (S++Y) n m t e cs ts N:=X.frame λc a=>aS (X.lt c a)
def b6.Nz(X:b6 C W S n m t e cs ts N)(h:∀x j,N x j↔N' x j):b6 C W S n m t e cs ts N':=
 ⟨X.at_,X.wo,X.ti,X.ne,X.Bj,λc u=>by
  let⟨s,k1,k2,q,o,a⟩:=X.Bf c u;refine⟨s,k1,k2,q,o,λj=>(a j).trans (h _ _)⟩,X.nd,X.kn,X.tn,X.mn,X.okn,X.vX,X.tk,X.kb,X.mb,X.tb⟩
theorem bz.lt(h:bz C W S n own d ts):∀c∈own,c<S.length:=by
 let⟨m,t,e,cs,rfl,rfl,X⟩:=h;exact X.lt
theorem bz.frame(h:bz C W S n own d ts)(a:∀c∈own,S'[c]? =S[c]?):bz C W S' n own d ts:=by
 let⟨m,t,e,cs,rfl,rfl,X⟩:=h;refine⟨m,t,e,cs,rfl,rfl,X.frame a⟩
def bz.mem(h:bz C W S n own d ts):n∈own:=by
 let⟨m,t,e,cs,rfl,rfl,X⟩:=h;exact WA
def iN(X:b6 C W S n m t e cs ts N)(a:δ[i]? =some (some (.loc n)))(q:d (.dat (.loc m)) S):zW C (fy i) "marked" δ S d:=⟨_,a,n,_,_,_,rfl,X.at_,rfl,q⟩
def BD(X:b6 C W S n m t e cs ts N)(a:δ[i]? =some (some (.loc n)))(q:d (.dat (.loc t)) S):zW C (fy i) "tied" δ S d:=⟨_,a,n,_,_,_,rfl,X.at_,rfl,q⟩
def wX(X:b6 C W S n m t e cs ts N)(a:δ[i]? =some (some (.loc n)))(q:d (.dat (.loc e)) S):zW C (fy i) "near" δ S d:=⟨_,a,n,_,_,_,rfl,X.at_,rfl,q⟩
def Ud(X:b6 C W S n m t e cs ts N)(q:d (.dat (.bl (neg != decide (x∈m7 cs)))) S):uW neg (.str x) (.loc m) S d:=by
 delta uW;rw[aA X.wo];refine⟨.inr x,rfl,?_⟩;rw[G5];exact q
def cI(h:g δ F λq s=>r δ s λo j=>∃ks ds k d,aX j q.d=.dct ks ds/\keyOf o.d=some k/\dN ks ds k=some d/\z (.dat d) j):dG g r δ F z:=h
def ug(h:g δ r λs u=>k δ u λj o=>∃n es,s.d=.loc n/\o[n]? =some (some (hO d none es))/\cD j.d/\cy es/\es.length<100000/\q.nx δ (o.set n (some (hO d none (gc es j.d (.bl true)))))):
  qw d g k (aC (.bl true)) q δ r:=h
def uh(h:g δ z λu q=>∃n po es,u.d=.loc n/\q[n]? =some (some (hO d po es))/\cy es/\k δ q λj v=>r δ v λs o=>∃es,o[n]? =some (some (hO d none es))/\cD j.d/\cy es/\es.length<100000/\F (.dat ((kT es j.d).getD s.d)) (o.set n (some (hO d none (qe es j.d))))):Oc d g k r δ z F:=h
def Ln(h:d δ F λs u=>g δ u λq j=>∃n ks ds k,s.d=.loc n/\keyOf q.d=some k/\j[n]? =some (some (.dct ks ds))/\ds.length<1000/\z.nx δ (j.set n (some (iO ks ds k r)))):qy d g (aC r) z δ F:=h
def Lo(h:g δ z λv s=>∃n j o,v.d=.loc n/\s[n]? =some (some (.dct j o))/\r δ s λu q=>∃ks ds k d,q[n]? =some (some (.dct ks ds))/\keyOf u.d=some k/\dN ks ds k=some d/\F (.dat d) (q.set n (some (xu ks ds k)))):Ik g r δ z F:=h
def qi(c):(cells n m t e (cs++[c])).Perm (c.mc::c.nc::cells n m t e cs):=by
 refine List.perm_iff_count.mpr λz=>?_;simp only[cells,zbK,zcf,List.map_nil,List.count_append,List.count_cons,List.count_nil];lia
noncomputable def Qs(ms:List Str):List (Key×D):=ms.map λm=>(.inr m,.bl true)
theorem BR:∀(ms a:List Str),(a++ms).Nodup->(Qs ms).foldl sG (a.map Sum.inr,a.map λ_=>.bl true)=((a++ms).map Sum.inr,(a++ms).map λ_=>.bl true)
 |[],a,_=>by rw[zbG];rfl
 |m::ms,a,h=>by
  show(Qs ms).foldl sG (sG (a.map Sum.inr,a.map λ_=>.bl true) (.inr m,.bl true))=_;have j:m ∉ a:=λz=>by
   grind
  have e:sG (a.map Sum.inr,a.map λ_=>D.bl true) (.inr m,.bl true)=((a++[m]).map Sum.inr,(a++[m]).map λ_=>.bl true):=by
   delta sG;rw[xr,yDf j,zbK,zbK];rfl
  rw[e,BR ms (a++[m]) (by simp_all)];simp
def LF(h:ms.Nodup):MO.dct (nF (Qs ms)).1 (nF (Qs ms)).2=mO ms:=by
 have:=BR ms [] (by simp_all);delta nF mO;simp_all
end
def br(a:δ[i]? =some (some (.loc n)))(o:S[n]? =some (some (.ins C fl ds)))(j:d ∉ fl)(h:g δ S λes q=>sp (.loc n::es) q k):xT C d sp (fy i) g δ S k:=⟨_,a,n,_,_,rfl,o,j,h⟩
def iA(C:Addr)(W:yak):AN:=λo S Q=>∃n x own a j,o=[.loc n,.str x]/\bz C W S n own a j/\x∈nms a/\Q (.dat .bB) S
def Q7(T:Txt K mg C fi G gi)(F:gW K C "need_knot" "Web.need_knot" dH Fc):bV P w K mg base 1 C "need_knot" dH (iA C w):=by
 refine fq F OX (λy S Q h=>?_) (λf I A outer s H E u=>?_)
 ·let⟨n,x,own,o,j,rfl,_⟩:=h;rfl
 ·refine⟨_,(Xu (XH (XD (M.wc u) (Xp 1) (X8 (Xp 0) T.cl T.n_marked) rfl) (Xu Yt) XT)),λy S Q h=>?_⟩;let⟨n,x,own,o,j,rfl,⟨m,t,e,L,rfl,rfl,X⟩,a,q⟩:=h;have v:aO Cd [.loc n,.str x]=[some (.loc n),some (.str x)]:=rfl;rw[v];push_cast[true_and];rw[eB] at a;refine iN X rfl (Ud X ⟨_,rfl,?_⟩);rw[yDt a];exact q
def EM(C:Addr)(W:yak):AN:=λo S Q=>∃n x own j a,o=[.loc n,.str x.1,.str x.2.1,.str x.2.2]/\bz C W S n own j a/\iH x=true/\Q (.dat (.bl (decide (x∈a)))) S
def UO(T:Txt K mg C fi G gi)(F:gW K C "has_tie" "Web.has_tie" mR Pw):bV P w K mg base 1 C "has_tie" mR (EM C w):=by
 refine fq F SO (λy S Q h=>?_) (λf I A outer s H E u=>?_)
 ·let⟨n,x,own,j,a,rfl,_⟩:=h;rfl
 ·refine⟨_,(Xu (XC (YA (M.TR u) (XA (Xq (Xp 1) (Xq (Xp 2) (Xs (Xp 3))))) (X8 (Xp 0) T.cl T.n_tied) rfl))),λy S Q h=>?_⟩;let⟨n,x,own,j,a,rfl,⟨m,t,e,L,rfl,rfl,X⟩,o,q⟩:=h;have v:aO Jc [.loc n,.str x.1,.str x.2.1,.str x.2.2]=[some (.loc n),some (.str x.1),some (.str x.2.1),some (.str x.2.2)]:=rfl;rw[v];push_cast[true_and];refine⟨ySz 3,BD X rfl ⟨t,_,_,rfl,X.ti,good3 o,cK (fX X.vX).good,?_⟩⟩;rw[Ea,QS,show(false != decide (x∈a))=decide (x∈a) by simp];exact q
def yv(C:Addr)(W:yak):AN:=λj S Q=>∃n,j=[.loc n]/\S.length=n+1/\S[n]? =some (some (.ins C [] []))/\∀a,bz C W a n [n,n+1,n+2,n+3] [] []->(∀k,k<n->a[k]? =S[k]?)->a.length=n+4->Q (.dat .bB) a
def Ri(T:Txt K mg C fi G gi)(F:DZ K "__init__" "Web.__init__" vC f fd):cY P w K mg base lQ 1 f fd fS (az K (yv C w)):=by
 refine V8 F O3 (λZ S Q h=>?_) (λf cdv A outer s H E hr=>?_)
 ·let⟨n,rfl,_⟩:=h;rfl
 ·refine⟨_,(Xr (YH (Xp 0) (XO M.gg) T.cl T.n_marked) (Xr (YH (Xp 0) (XO (Yv)) T.cl T.n_tied) (Xu (YH (Xp 0) (XO M.gg) T.cl T.n_near)))),λZ S Q h=>?_⟩;let⟨n,rfl,Y,x,q⟩:=h;have L:∀a c,putD "tied" c ["marked"] [a]=((["marked","tied"]:List Str),[a,c]):=λa c=>by
   rfl
  have p3:∀a c d,putD "near" d ["marked","tied"] [a,c]=((["marked","tied","near"]:List Str),[a,c,d]):=λa c d=>by
   rfl
  refine uA rfl x (by decide) (λ_ q=>q) rfl ?_;generalize v:(S++[some (MO.dct [] [])]).set n _=S1;have W:S1.length=n+2:=by rw[<-v];simp;lia
  have I:S1[n]? =some (some (.ins C ["marked"] [.loc S.length])):=by rw[<-v];exact bR (aM x)
  simp only[uS];refine uA (o:=hN w []) rfl I (by decide) (λ_ q=>q) (L _ _) ?_;generalize u:(S1++[some (hN w [])]).set n _=S2;have U:S2.length=n+3:=by rw[<-u];simp;lia
  have y:S2[n]? =some (some (.ins C ["marked","tied"] [.loc S.length,.loc S1.length])):=by rw[<-u];exact bR (aM I)
  try simp only[uS]
  refine uA rfl y (by decide) (λ_ q=>q) (p3 _ _ _) ?_;generalize j:(S2++[some (MO.dct [] [])]).set n _=S3;have O:S3.length=n+4:=by rw[<-j];simp;lia
  refine q S3 ⟨n+1,n+2,n+3,[],rfl,rfl,⟨?_,?_,?_,?_,by simp,by simp,?_,.nil,.nil,by simp,by simp,by simp,by simp,by decide,by simp,by decide⟩⟩ (λk hk=>?_) O
  ·rw[<-j];have:=bR (o':=some (.ins C ["marked","tied","near"] [.loc S.length,.loc S1.length,.loc S2.length])) (aM (X:=[some (.dct [] [])]) y);rw[this,Y,W,U]
  ·rw[<-j,au (by lia),aS (by simp_all),<-u,au (by lia),aS (by simp_all),<-v,au (by lia),show n+1=S.length by lia];exact aL
  ·rw[<-j,au (by lia),aS (by simp_all),<-u,au (by lia),show n+2=S1.length by lia];exact aL
  ·rw[<-j,au (by lia),show n+3=S2.length by lia];exact aL
  ·simp only[cells];simp
  ·rw[<-j,au (by lia),aS (by lia),<-u,au (by lia),aS (by lia),<-v,au (by lia),aS (by lia)]
def m6(C:Addr)(W:yak)(S:aq)(n:Nat)(own:List Nat)(ks:List Kn)(ts:List Ti)(Q:AK):Prop:=∀j a,bz C W j n a ks ts->Fr S j own a->Q (.dat .bB) j
def MH(mk:D)(ms:List Str):Prop:=mk=.lst (ms.map D.str)∨mk=.tup (ms.map D.str)
def MH.walk(h:MH mk ms)(q:d (ms.map D.str) (λ_=>True) S):fQ S d mk:=by
 obtain rfl|rfl:=h<;>exact q
def EI(C:Addr)(W:yak):AN:=λo S Q=>∃n x mk ms own a j,o=[.loc n,.str x,mk]/\MH mk ms/\bz C W S n own a j/\x ∉ nms a/\a.length<63/\ms.length<64/\ms.Nodup/\dO x=true/\(∀m∈ms,dO m=true)/\
 m6 C W S n own (a++[(x,ms)]) j Q
def Rc(T:Txt K mg C fi G gi)(F:gW K C "lay_knot" "Web.lay_knot" lJ Fj):bV P w K mg base 1 C "lay_knot" lJ (EI C w):=by
 refine fq F O2 (λds S Q h=>?_) (λf cdv A outer s H E hr=>?_)
 ·let⟨n,x,mk,ms,own,ks,ts,rfl,_⟩:=h;rfl
 ·refine⟨_,(Xr (M.iF (bU hr) (X8 (Xp 0) T.cl T.n_marked) (Xp 1) (XO (Yg (M.kI hr) (by rfl) T.dict (by rfl) (Xq (Yj (caps:=[none]) (c9 (by rfl)) (by rfl) (by rfl) rfl (XZ (Xp 2)) (λ_ _ _ _=>(X6 (i:=0) (by decide+kernel:List.Nodup (["mark"]:List Str)) rfl (Or.inl rfl))) (λ_ _ _ _=>Yn) (λ_ _ _ _=>(XA (Xq (Xp 0) (Xs Ym))))) Xw))) rfl) (Xu (M.iF (bU hr) (X8 (Xp 0) T.cl T.n_near) (Xp 1) (XO (Yv)) rfl))),λds S Q h=>?_⟩;let⟨n,x,mk,ms,own,ks,ts,rfl,hmk,⟨m,t,e,u,rfl,rfl,X⟩,L,hkl,hml,Z,ox,oms,q⟩:=h;rw[eB] at L;rw[zbF] at hkl;have I:=apart X.nd;refine⟨_,rfl,hmk.walk ?_⟩;refine comp_map (λd=>.tup [d,.bl true]) trivial (ms.map D.str) [] _ rfl (λy hy Q' q'=>⟨_,rfl,ySz 2,q'⟩) (by rw[yaf];simp;lia) ?_;refine⟨_,Qs ms,rfl,?_,by delta Qs;rw[zbF];lia,?_⟩
  ·rw[zcn];delta Qs;rw[zcn];rfl
  rw[LF Z];have U:=X.app (Y:=[some (mO ms)]);have lS:(S++[some (mO ms)]).length=S.length+1:=by simp
  let c:Kc:=⟨x,ms,S.length,S.length+1⟩
  refine iN U rfl ⟨_,rfl,m,_,_,.inr x,rfl,rfl,U.wo,by rw[zbF];lia,?_⟩;have p1:iO (kk u) (u.map λc=>D.loc c.mc) (.inr x) (.loc S.length)=.dct (kk (u++[c])) ((u++[c]).map λc=>.loc c.mc):=FW (c:=c) L;have p2:iO (kk u) (u.map λc=>D.loc c.nc) (.inr x) (.loc (S.length+1))=.dct (kk (u++[c])) ((u++[c]).map λc=>.loc c.nc):=FW (c:=c) L;rw[show(R.dat (D.loc S.length)).d=D.loc S.length from rfl,p1];generalize e1:(S++[some (mO ms)]).set m _=S1;have l1:S1.length=S.length+1:=by rw[<-e1,zbL,lS]
  have o1:∀k,k≠m->S1[k]? =(S++[some (mO ms)])[k]?:=λk hk=>by rw[<-e1,au hk]
  have m1:S1[m]? =some (some (.dct (kk (u++[c])) ((u++[c]).map λc=>.loc c.mc))):=by rw[<-e1];exact bR U.wo
  refine⟨_,rfl,n,_,_,_,rfl,aM (by rw[o1 n I.nm];exact U.at_),rfl,_,rfl,e,_,_,.inr x,rfl,rfl,aM (by rw[o1 e (Ne.symm I.me)];exact U.ne),by rw[zbF];lia,?_⟩;show Q (.dat .bB) ((S1++[some (hN w [])]).set e (some (iO (kk u) (u.map λc=>D.loc c.nc) (.inr x) (.loc S1.length))));rw[l1,p2];generalize O:(S1++[some (hN w [])]).set e _=S2;have l2:S2.length=S.length+2:=by rw[<-O,zbL,zaP,l1];rfl
  have el:=X.lt e WC;have ml:=X.lt m WB;have o2:∀k,k<S.length->k≠m->k≠e->S2[k]? =S[k]?:=λk hk h1 h2=>by rw[<-O,au h2,aS (by lia),o1 k h1,aS hk]
  have m2:S2[m]? =some (some (.dct (kk (u++[c])) ((u++[c]).map λc=>.loc c.mc))):=by rw[<-O,au I.me];exact aM m1
  have n2:S2[e]? =some (some (.dct (kk (u++[c])) ((u++[c]).map λc=>.loc c.nc))):=by rw[<-O];exact bR (aM (by rw[o1 e (Ne.symm I.me)];exact U.ne))
  have c1:S2[S.length]? =some (some (mO ms)):=by rw[<-O,au (by lia),aS (by simp_all),o1 _ (by lia)];exact aL
  have c2:S2[S.length+1]? =some (some (hN w [])):=by rw[<-O,au (by lia),<-l1];exact aL
  have hxx:∀j,¬stp ts x j:=λj z=>by
   rcases z with⟨_,z⟩|⟨_,z⟩
   ·exact L (X.tk _ z).1
   ·exact L (X.tk _ z).2
  have mem:∀v∈u++[c],v∈u∨v=c:=λv h=>by simp_all
  have TV:m7 (u++[c])=m7 u++[x]:=by delta m7;rw[zbK];rfl
  refine q S2 _ ⟨m,t,e,u++[c],rfl,by rw[zbK];rfl,⟨?_,m2,?_,n2,λv o=>?_,λv o=>?_,?_,?_,X.tn,λv o=>?_,λv o=>?_,X.vX,λt' W=>?_,by simp;lia,λv o=>?_,X.tb⟩⟩ ⟨λk hk hn=>?_,by simp_all,λv o=>?_⟩
  ·rw[o2 n (X.lt n WA) I.nm I.ne];exact X.at_
  ·rw[o2 t (X.lt t Vx) (Ne.symm I.mt) I.te];exact X.ti
  ·obtain h|rfl:=mem v o
   ·rw[o2 _ (X.lt _ (LM h)) (Ne.symm (I.mc v h).1) (Ne.symm (I.ec v h).1)];exact X.Bj v h
   ·exact c1
  ·obtain h|rfl:=mem v o
   ·rw[o2 _ (X.lt _ (Dt h)) (Ne.symm (I.mc v h).2) (Ne.symm (I.ec v h).2)];exact X.Bf v h
   ·exact⟨[],c2,.nil,by simp,by simp,λj=>⟨λz=>by simp at z,λz=>(hxx j z).elim⟩⟩
  ·refine(qi c).nodup_iff.mpr ?_;have b1:S.length ∉ cells n m t e u:=λz=>by have:=X.lt _ z;lia
   have b2:S.length+1 ∉ cells n m t e u:=λz=>by have:=X.lt _ z;lia
   refine zbH.mpr ⟨λz=>?_,zbH.mpr ⟨b2,X.nd⟩⟩
   grind
  ·rw[TV];refine zbh.mpr ⟨X.kn,by simp,λa ha b hb z=>L ?_⟩;simp_all
  ·obtain h|rfl:=mem v o
   ·exact X.mn v h
   ·exact Z
  ·obtain h|rfl:=mem v o
   ·exact X.okn v h
   ·exact⟨ox,oms⟩
  ·rw[TV];exact⟨zaD _ (X.tk t' W).1,zaD _ (X.tk t' W).2⟩
  ·obtain h|rfl:=mem v o
   ·exact X.mb v h
   ·exact hml
  ·exact o2 k hk (λz=>hn (z▸WB)) λz=>hn (z▸WC)
  ·have:=(qi c).mem_iff.mp o
   (simp at this;lia)
def EB(C:Addr)(W:yak):AN:=λo S Q=>∃n x mk ms own a j,o=[.loc n,.str x,mk]/\MH mk ms/\bz C W S n own a j/\x ∉ nms a/\a.length<40/\ms.length<64/\ms.Nodup/\dO x=true/\(∀m∈ms,dO m=true)/\
 m6 C W S n own (a++[(x,ms)]) j Q
def Q5(T:Txt K mg C fi G gi)(F:gW K C "put_knot" "Web.put_knot" lC E9)(a:bV P w K mg base 1 C "lay_knot" lJ (EI C w)):bV P w K mg base 2 C "put_knot" lC (EB C w):=by
 refine fq F OV (λds S Q h=>?_) (λf cdv A outer s H E W=>?_)
 ·let⟨n,x,mk,ms,own,Z,O,rfl,_⟩:=h;rfl
 ·refine⟨_,(Xr (XH (XD (M.Gh W) (Xp 1) (X8 (Xp 0) T.cl T.n_marked) rfl) (Xu Yt) XT) (Xr (XH (XD M.KO (XW Yi (by rfl) T.len (by rfl) (Xq (X8 (Xp 0) T.cl T.n_marked) Xw)) T.qU (aT _)) (Xu Yt) XT) (Xu (XJ (X9 (Xp 0) T.cl a (W.mono (by decide)) (Xq (Xp 1) (Xs (Xp 2)))))))),λds S Q h=>?_⟩;let⟨n,x,mk,ms,own,Z,O,rfl,y,⟨m,t,e,L,rfl,rfl,X⟩,U,I,v,u,Y,o,q⟩:=h;have e0:aO Ca [.loc n,.str x,mk]=[some (.loc n),some (.str x),some mk]:=rfl;rw[e0];have j:=U;rw[eB] at j;rw[zbF] at I;push_cast[true_and];refine iN X rfl (Ud X ⟨_,rfl,?_⟩);rw[yDf j,yIn (by decide)];refine iN X rfl ⟨L.length,?_,?_⟩
  ·rw[e8,aA X.wo];show some (kk L).length=_;delta kk;simp
  rw[yDf (by lia)];exact br rfl X.at_ (by decide+kernel) ⟨_,rfl,_,rfl,n,x,mk,ms,_,_,O,rfl,y,⟨m,t,e,L,rfl,rfl,X⟩,U,by rw[zbF];lia,v,u,Y,o,q⟩
def nW(h:iH d=true):dO d.1=true/\dO d.2.1=true/\dO d.2.2=true:=by
 delta iH at h;simp_all
def b6.ni(X:b6 C W S n m d g k q r)(j:x∈m7 k):∃c∈k,c.nm=x/\dN (kk k) (k.map λc=>D.loc c.nc) (.inr x)=some (.loc c.nc)/\dN (kk k) (k.map λc=>D.loc c.mc) (.inr x)=some (.loc c.mc):=by
 let⟨c,o,h1,h2⟩:=Hf j;refine⟨c,o,h1,h2 _,h2 _⟩
def EH(C:Addr)(W:yak):AN:=λo S Q=>∃n x own j a,o=[.loc n,.str x.1,.str x.2.1,.str x.2.2]/\bz C W S n own j a/\x.1∈nms j/\x.2.2∈nms j/\x ∉ a/\a.length<302/\iH x=true/\m6 C W S n own j (a++[x]) Q
noncomputable abbrev DT(b c:Str):Ti:=("on",b,c)
noncomputable abbrev jH(b c:Str):Ti:=("back",b,c)
def JL:((stp d r z∨(r=q/\z=DT g k))∨(r=k/\z=jH g q))↔stp (d++[(q,g,k)]) r z:=by
 simp only[stp,zbE,zaS];lia
noncomputable def yR(ts:List Ti)(x:Ti):List Ti:=ts.filter λy=>decide (y≠x)
def kK:k∈yR d g↔k∈d/\k≠g:=by delta yR;simp
def JM:((stp d F J/\¬(F=k/\J=DT q r))/\¬(F=r/\J=jH q k))↔stp (yR d (k,q,r)) F J:=by
 let⟨a,b,g⟩:=J;simp only[stp,kK,ne_eq,Prod.mk.injEq];have nb:(Str.ofString "on")≠Str.ofString "back":=by decide+kernel
 constructor
 ·rintro⟨⟨⟨rfl,h⟩|⟨rfl,h⟩,h1⟩,h2⟩
  ·exact .inl ⟨rfl,h,λz=>h1 ⟨z.1,rfl,z.2.1,z.2.2⟩⟩
  ·exact .inr ⟨rfl,h,λz=>h2 ⟨z.2.2,rfl,z.2.1,z.1⟩⟩
 lia
def ua(j:dO d=true)(h1:dO g=true)(h2:dO k=true):iH (d,g,k)=true:=by delta iH;simp_all
def Rb(T:Txt K mg C fi G gi)(F:gW K C "lay_tie" "Web.lay_tie" lI Fi):bV P w K mg base 1 C "lay_tie" lI (EH C w):=by
 refine fq F O1 (λds S Q h=>?_) (λf cdv A outer s H E hr=>?_)
 ·let⟨n,x,own,ks,U,rfl,_⟩:=h;rfl
 ·refine⟨_,(Xr (Yw hr (X8 (Xp 0) T.cl T.n_tied) (XA (Xq (Xp 1) (Xq (Xp 2) (Xs (Xp 3))))) Ym rfl) (Xr (Yw hr (Yd (bU hr) (X8 (Xp 0) T.cl T.n_near) (Xp 1) (λ_ _=>rfl)) (XA (Xq XE (Xq (Xp 2) (Xs (Xp 3))))) Ym rfl) (Xu (Yw hr (Yd (bU hr) (X8 (Xp 0) T.cl T.n_near) (Xp 3) (λ_ _=>rfl)) (XA (Xq XE (Xq (Xp 2) (Xs (Xp 1))))) Ym rfl)))),λds S Q h=>?_⟩;let⟨n,x,own,ks,U,rfl,⟨m,t,e,cs,rfl,rfl,X⟩,hx1,hx2,hx,hkl,ox,q⟩:=h;rw[eB] at hx1 hx2;obtain⟨v,o,u⟩:=x;let⟨k1,k2,k3⟩:=nW ox;refine ug (BD X rfl ⟨_,rfl,_,rfl,_,rfl,ySz 3,t,tr (U.map T3),rfl,X.ti,good3 ox,cK (fX X.vX).good,by rw[eZ,zbF];lia,?_⟩);show ef.nx _ _ (S.set t (some (hO w none (gc (tr (U.map T3)) (T3 (v,o,u)) (.bl true)))));rw[oK,put3 hx];have Z:=X.JJ (ts':=U++[(v,o,u)]) (by
   refine zbh.mpr ⟨X.tn,by simp,λa ha b hb z=>hx ?_⟩;simp_all) (λt' I=>by
   obtain h|h:=zbE.mp I
   ·exact X.vX t' h
   simp_all) (λt' I=>by
   obtain h|h:=zbE.mp I
   ·exact X.tk t' h
   simp_all) (by simp;lia)
  generalize e1:S.set t _=S1 at Z;have f1:Fr S S1 (cells n m t e cs) (cells n m t e cs):=by rw[<-e1];exact .set Vx
  let⟨c,hc,O,g1,_⟩:=Z.ni hx1;let⟨js,j1,j2,j3,j4,j5⟩:=Z.Bf c hc;have jl:=j8 j2 λj W=>O▸(j5 j).mp W;have on_:iH (DT o u)=true:=ua (by rfl) k2 k3;have HU:iH (jH o v)=true:=ua (by rfl) k2 k1;refine ug (cI (wX Z rfl ⟨_,rfl,_,_,_,_,aA Z.ne,rfl,g1,_,rfl,_,rfl,ySz 3,c.nc,tr (js.map T3),rfl,j1,good3 on_,cK (fX j4).good,by rw[eZ,zbF];grind,?_⟩));show ef.nx _ _ (S1.set c.nc (some (hO w none (gc (tr (js.map T3)) (T3 (DT o u)) (.bl true)))));let⟨js',p1,p2,p3,p4⟩:=Nl js (DT o u) j2;rw[oK,p1];have Y:=Z.near (N':=λy j=>stp U y j∨(y=v/\j=(DT o u))) hc p2 (by lia) (λj W=>by
   grind) (λj=>(p4 j).trans ⟨λh=>h.imp (j5 j).mp λh=>⟨O,h⟩,λh=>h.imp (j5 j).mpr λh=>h.2⟩) (λy hy j=>⟨.inl,λh=>h.elim id λh=>absurd (h.1.trans O.symm) hy⟩)
  generalize e2:S1.set c.nc _=S2 at Y;have f2:Fr S S2 (cells n m t e cs) (cells n m t e cs):=by rw[<-e2];exact f1.trans (.set (Dt hc))
  let⟨d,hd,L,g2,_⟩:=Y.ni hx2;let⟨is,i1,i2,i3,i4,i5⟩:=Y.Bf d hd;have il:is.length<=899:=by
   by_cases hcd:d.nc=c.nc
   ·have hdc  :=jO (apart X.nd).nn d hd c hc hcd;have:is.length<=js'.length:=L2.mj i2 λj W=>by
     grind
    lia
   ·have:=j8 i2 λj W=>by
     rcases(i5 j).mp W with h|h
     ·exact L▸h
     ·exact absurd (by simp_all) hcd
    lia
  refine ug (cI (wX Y rfl ⟨_,rfl,_,_,_,_,aA Y.ne,rfl,g2,_,rfl,_,rfl,ySz 3,d.nc,tr (is.map T3),rfl,i1,good3 HU,cK (fX i4).good,by rw[eZ,zbF];lia,?_⟩));show ef.nx _ _ (S2.set d.nc (some (hO w none (gc (tr (is.map T3)) (T3 (jH o v)) (.bl true)))));let⟨is',r1,r2,r3,r4⟩:=Nl is (jH o v) i2;rw[oK,r1];have X3:=Y.near (N':=λy j=>(stp U y j∨(y=v/\j=(DT o u)))∨(y=u/\j=(jH o v))) hd r2 (by lia) (λj W=>by
   grind) (λj=>(r4 j).trans ⟨λh=>h.imp (i5 j).mp λh=>⟨L,h⟩,λh=>h.imp (i5 j).mpr λh=>h.2⟩) (λy hy j=>⟨.inl,λh=>h.elim id λh=>absurd (h.1.trans L.symm) hy⟩)
  refine q _ _ ⟨m,t,e,cs,rfl,rfl,X3.Nz λy j=>?_⟩ (f2.trans (.set (Dt hd)));exact JL
def yu(C:Addr)(W:yak):AN:=λo S Q=>∃n x own j a,o=[.loc n,.str x.1,.str x.2.1,.str x.2.2]/\bz C W S n own j a/\x.1∈nms j/\x.2.2∈nms j/\x ∉ a/\a.length<300/\iH x=true/\m6 C W S n own j (a++[x]) Q
def Q3(T:Txt K mg C fi G gi)(F:gW K C "put_tie" "Web.put_tie" jo E7)(a:bV P w K mg base 1 C "need_knot" dH (iA C w))(o:bV P w K mg base 1 C "has_tie" mR (EM C w))(j:bV P w K mg base 1 C "lay_tie" lI (EH C w)):bV P w K mg base 2 C "put_tie" jo (yu C w):=by
 refine fq F OT (λZ S Q h=>?_) (λf cdv A outer s H E L=>?_)
 ·let⟨n,x,own,W,u,rfl,_⟩:=h;rfl
 ·refine⟨_,(Xr (XJ (X9 (Xp 0) T.cl a (L.mono (by decide)) (Xs (Xp 1)))) (Xr (XJ (X9 (Xp 0) T.cl a (L.mono (by decide)) (Xs (Xp 3)))) (Xr (XH (Yr (X9 (Xp 0) T.cl o (L.mono (by decide)) (Xq (Xp 1) (Xq (Xp 2) (Xs (Xp 3)))))) (Xu Yt) XT) (Xr (XH (XD M.KO (XW (M.Qp) (by rfl) T.len (by rfl) (Xq (X8 (Xp 0) T.cl T.n_tied) Xw)) T.t8 (aT _)) (Xu Yt) XT) (Xu (XJ (X9 (Xp 0) T.cl j (L.mono (by decide)) (Xq (Xp 1) (Xq (Xp 2) (Xs (Xp 3))))))))))),λZ S Q h=>?_⟩;let⟨n,x,own,W,u,rfl,I,y,v,U,Y,O,q⟩:=h;let⟨m,t,e,cs,rfl,rfl,X⟩:=id I;push_cast[true_and];refine br rfl X.at_ (by decide+kernel) ⟨_,rfl,n,x.1,_,_,u,rfl,I,y,?_⟩;refine br rfl X.at_ (by decide+kernel) ⟨_,rfl,n,x.2.2,_,_,u,rfl,I,v,?_⟩;refine br rfl X.at_ (by decide+kernel) ⟨_,rfl,_,rfl,_,rfl,n,x,_,_,u,rfl,I,O,?_⟩;refine⟨false,by rw[yDf U];rfl,?_⟩;rw[yIn (by decide)];refine BD X rfl ⟨t,_,_,rfl,X.ti,cK (fX X.vX).good,by rw[eZ,zbF];lia,?_⟩;refine⟨_,_,rfl,rfl,trivial,_,rfl,?_⟩;rw[eZ,zbF,yDf (by lia)];exact br rfl X.at_ (by decide+kernel) ⟨_,rfl,_,rfl,_,rfl,n,x,_,_,u,rfl,I,y,v,U,by lia,O,q⟩
def EO(C:Addr)(W:yak):AN:=λo S Q=>∃n x own a j,o=[.loc n,.str x.1,.str x.2.1,.str x.2.2]/\bz C W S n own a j/\x.1∈nms a/\x.2.2∈nms a/\iH x=true/\m6 C W S n own a (yR j x) Q
def Rk(T:Txt K mg C fi G gi)(F:gW K C "drop_tie" "Web.drop_tie" lN Ft):bV P w K mg base 1 C "drop_tie" lN (EO C w):=by
 refine fq F O4 (λds S Q h=>?_) (λf cdv A outer s H E Z=>?_)
 ·let⟨n,x,own,ks,O,rfl,_⟩:=h;rfl
 ·refine⟨_,(Xr (XJ (M.t6 (W:=w) Z (X8 (Xp 0) T.cl T.n_tied) (XA (Xq (Xp 1) (Xq (Xp 2) (Xs (Xp 3))))) M.l8 ⟨rfl,rfl,rfl,rfl⟩)) (Xr (XJ (M.t6 (W:=w) Z (Yd (bU Z) (X8 (Xp 0) T.cl T.n_near) (Xp 1) (λ_ _=>rfl)) (XA (Xq XE (Xq (Xp 2) (Xs (Xp 3))))) M.l8 ⟨rfl,rfl,rfl,rfl⟩)) (Xu (XJ (M.t6 Z (Yd (bU Z) (X8 (Xp 0) T.cl T.n_near) (Xp 3) (λ_ _=>rfl)) (XA (Xq XE (Xq (Xp 2) (Xs (Xp 1))))) M.l8 ⟨rfl,rfl,rfl,rfl⟩))))),λds S Q h=>?_⟩;let⟨n,x,own,ks,O,rfl,⟨m,t,e,cs,rfl,rfl,X⟩,Y,U,ox,q⟩:=h;rw[eB] at Y U;push_cast[true_and];obtain⟨u,a,o⟩:=x;let⟨k1,k2,k3⟩:=nW ox;have I:=X.JJ (ts':=yR O (u,a,o)) (X.tn.sublist zaL) (λt' v=>X.vX t' (kK.mp v).1) (λt' v=>X.tk t' (kK.mp v).1) (zcp (zay ..) X.tb);refine uh (BD X rfl ⟨t,_,_,rfl,X.ti,cK (fX X.vX).good,_,rfl,_,rfl,_,rfl,ySz 3,_,X.ti,good3 ox,cK (fX X.vX).good,by rw[eZ,zbF];have:=X.tb;lia,?_⟩);rw[show(R.dat (D.tup [(R.dat (D.str u)).d,(R.dat (D.str a)).d,(R.dat (D.str o)).d])).d=T3 (u,a,o) from rfl,tG,Hu];change b6 C w (S.set t (some (hN w ((O.filter λi=>decide (i≠(u,a,o))).map T3)))) _ _ _ _ _ _ _ at I;generalize e1:S.set t _=S1 at I⊢;have f1:Fr S S1 (cells n m t e cs) (cells n m t e cs):=by rw[<-e1];exact .set Vx
  let⟨c,hc,hcn,g1,_⟩:=I.ni Y;let⟨js,j1,j2,j3,j4,j5⟩:=I.Bf c hc;have on_:iH (DT a o)=true:=ua (by rfl) k2 k3;have HU:iH (jH a u)=true:=ua (by rfl) k2 k1;refine uh (cI (wX I rfl ⟨_,rfl,_,_,_,_,aA I.ne,rfl,g1,c.nc,_,_,rfl,j1,cK (fX j4).good,_,rfl,_,rfl,ySz 3,_,j1,good3 on_,cK (fX j4).good,by rw[eZ,zbF];lia,?_⟩));rw[show(R.dat (D.tup [(R.dat (D.str "on")).d,(R.dat (D.str a)).d,(R.dat (D.str o)).d])).d=T3 (DT a o) from rfl,tG,Hu];have L:=I.near (N':=λy j=>stp O y j/\¬(y=u/\j=DT a o)) hc (js:=js.filter λi=>decide (i≠DT a o)) (j2.sublist zaL) (zcp (zay ..) j3) (λj hj=>j4 j (zbD.mp hj).1)
   (λj=>⟨λh=>⟨(j5 j).mp (zbD.mp h).1,λz=>(of_decide_eq_true (zbD.mp h).2) z.2⟩,λh=>zbD.mpr ⟨(j5 j).mpr h.1,yDt λz=>h.2 ⟨hcn,z⟩⟩⟩) (λy hy j=>⟨λh=>⟨h,λz=>hy (z.1.trans hcn.symm)⟩,λh=>h.1⟩)
  generalize e2:S1.set c.nc _=S2 at L⊢;have f2:Fr S S2 (cells n m t e cs) (cells n m t e cs):=by rw[<-e2];exact f1.trans (.set (Dt hc))
  let⟨d,hd,hdn,g2,_⟩:=L.ni U;let⟨is,i1,i2,i3,i4,i5⟩:=L.Bf d hd;refine uh (cI (wX L rfl ⟨_,rfl,_,_,_,_,aA L.ne,rfl,g2,d.nc,_,_,rfl,i1,cK (fX i4).good,_,rfl,_,rfl,ySz 3,_,i1,good3 HU,cK (fX i4).good,by rw[eZ,zbF];lia,?_⟩));rw[show(R.dat (D.tup [(R.dat (D.str "back")).d,(R.dat (D.str a)).d,(R.dat (D.str u)).d])).d=T3 (jH a u) from rfl,tG,Hu];have X3:=L.near (N':=λy j=>(stp O y j/\¬(y=u/\j=DT a o))/\¬(y=o/\j=jH a u)) hd (js:=is.filter λi=>decide (i≠jH a u)) (i2.sublist zaL) (zcp (zay ..) i3) (λj hj=>i4 j (zbD.mp hj).1)
   (λj=>⟨λh=>⟨(i5 j).mp (zbD.mp h).1,λz=>(of_decide_eq_true (zbD.mp h).2) z.2⟩,λh=>zbD.mpr ⟨(i5 j).mpr h.1,yDt λz=>h.2 ⟨hdn,z⟩⟩⟩) (λy hy j=>⟨λh=>⟨h,λz=>hy (z.1.trans hdn.symm)⟩,λh=>h.1⟩)
  exact q _ _ ⟨m,t,e,cs,rfl,rfl,X3.Nz λy j=>JM⟩ (f2.trans (.set (Dt hd)))
def Am(C:Addr)(W:yak):AN:=λo S Q=>∃n x own a j,o=[.loc n,.str x.1,.str x.2.1,.str x.2.2]/\bz C W S n own a j/\x.1∈nms a/\x.2.2∈nms a/\x∈j/\iH x=true/\m6 C W S n own a (yR j x) Q
def Lu(T:Txt K mg C fi G gi)(F:gW K C "take_tie" "Web.take_tie" iS yF)(a:bV P w K mg base 1 C "need_knot" dH (iA C w))(o:bV P w K mg base 1 C "has_tie" mR (EM C w))(j:bV P w K mg base 1 C "drop_tie" lN (EO C w)):bV P w K mg base 2 C "take_tie" iS (Am C w):=by
 refine fq F JZ (λY S Q h=>?_) (λf Z A outer s H E L=>?_)
 ·let⟨n,x,own,U,u,rfl,_⟩:=h;rfl
 ·refine⟨_,(Xr (XJ (X9 (Xp 0) T.cl a (L.mono (by decide)) (Xs (Xp 1)))) (Xr (XJ (X9 (Xp 0) T.cl a (L.mono (by decide)) (Xs (Xp 3)))) (Xr (XH (YD (Yr (X9 (Xp 0) T.cl o (L.mono (by decide)) (Xq (Xp 1) (Xq (Xp 2) (Xs (Xp 3))))))) (Xu Yt) XT) (Xu (XJ (X9 (Xp 0) T.cl j (L.mono (by decide)) (Xq (Xp 1) (Xq (Xp 2) (Xs (Xp 3)))))))))),λY S Q h=>?_⟩;let⟨n,x,own,U,u,rfl,I,y,v,W,O,q⟩:=h;let⟨m,t,e,cs,rfl,rfl,X⟩:=id I;refine br rfl X.at_ (by decide+kernel) ⟨_,rfl,n,x.1,_,_,u,rfl,I,y,?_⟩;refine br rfl X.at_ (by decide+kernel) ⟨_,rfl,n,x.2.2,_,_,u,rfl,I,v,?_⟩;refine br rfl X.at_ (by decide+kernel) ⟨_,rfl,_,rfl,_,rfl,n,x,_,_,u,rfl,I,O,?_⟩;refine⟨true,by rw[yDt W];rfl,?_⟩;exact br rfl X.at_ (by decide+kernel) ⟨_,rfl,_,rfl,_,rfl,n,x,_,_,u,rfl,I,y,v,O,q⟩
noncomputable def setM(ks:List Kn)(x:Str)(ms:List Str):List Kn:=ks.map λk=>if k.1=x then(k.1,ms) else k
def Aw{a:List Kc}:(a.map (setC x ms)).map Kc.kn=setM (a.map Kc.kn) x ms:=by
 delta setM;rw[zcn,zcn];refine zaJ λc _=>?_;show Kc.kn (setC x ms c)=if c.nm=x then(c.nm,ms) else c.kn;delta setC;split<;>rfl
def uu(j:(m7 g).Nodup)(q:r∈g)(o:k∈g.map Kc.kn)(e:k.1=r.nm):k=r.kn:=by
 let⟨d,hd,rfl⟩:=zcm.mp o;rw[jO j d hd r q e]
def EA(C:Addr)(W:yak):AN:=λo S Q=>∃n x y own a j,o=[.loc n,.str x.1,.str y]/\bz C W S n own a j/\x∈a/\y ∉ x.2/\x.2.length<5/\dO y=true/\m6 C W S n own (setM a x.1 (x.2++[y])) j Q
def NF(h:S[d]? =some (some (mO ms)))(q:g (.dat (.bl (neg != decide (x∈ms)))) S):uW neg (.str x) (.loc d) S g:=by
 delta uW;rw[aA h];refine⟨.inr x,rfl,?_⟩;rw[xr];exact q
def Q4(T:Txt K mg C fi G gi)(F:gW K C "put_mark" "Web.put_mark" lA E8)(j:bV P w K mg base 1 C "need_knot" dH (iA C w)):bV P w K mg base 2 C "put_mark" lA (EA C w):=by
 refine fq F OU (λds S Q h=>?_) (λf cdv A outer s H E o=>?_)
 ·let⟨n,x,y,own,ks,Z,rfl,_⟩:=h;rfl
 ·refine⟨_,(Xr (XJ (X9 (Xp 0) T.cl j (o.mono (by decide)) (Xs (Xp 1)))) (Xr (XH (XD (M.Gh o) (Xp 2) (Yd (bU o) (X8 (Xp 0) T.cl T.n_marked) (Xp 1) (λ_ _=>rfl)) rfl) (Xu Yt) XT) (Xr (XH (XD M.KO (XW Yi (by rfl) T.len (by rfl) (Xq (Yd (bU o) (X8 (Xp 0) T.cl T.n_marked) (Xp 1) (λ_ _=>rfl)) Xw)) T.qS (aT _)) (Xu Yt) XT) (Xu (M.iF (bU o) (Yd (bU o) (X8 (Xp 0) T.cl T.n_marked) (Xp 1) (λ_ _=>rfl)) (Xp 2) Ym rfl))))),λds S Q h=>?_⟩;let⟨n,x,y,own,ks,Z,rfl,X',hx,O,hl,oy,q⟩:=h;let⟨m,t,e,cs,rfl,rfl,X⟩:=id X';have e0:aO B9 [.loc n,.str x.1,.str y]=[some (.loc n),some (.str x.1),some (.str y)]:=rfl;rw[e0];push_cast[true_and];have I:x.1∈nms (cs.map Kc.kn):=zcm.mpr ⟨x,hx,rfl⟩;have v:=I;rw[eB] at v;let⟨c,u,U,_,W⟩:=X.ni v;have ex:=uu X.kn u hx U.symm;subst ex;have L:=X.Bj c u;refine br rfl X.at_ (by decide+kernel) ⟨_,rfl,n,c.nm,_,_,Z,rfl,X',I,?_⟩;refine cI (iN X rfl ⟨_,rfl,_,_,_,_,aA X.wo,rfl,W,NF L ⟨_,rfl,?_⟩⟩);rw[yDf (show y ∉ c.ml from O),yIn (by decide)];refine cI (iN X rfl ⟨_,rfl,_,_,_,_,aA X.wo,rfl,W,c.ml.length,?_,?_⟩)
  ·rw[e8,aA L];show some (c.ml.map Sum.inr).length=_;simp
  have hl:c.ml.length<5:=hl;rw[yDf (by lia)];refine Ln (cI (iN X rfl ⟨_,rfl,_,_,_,_,aA X.wo,rfl,W,_,rfl,c.mc,_,_,.inr y,rfl,rfl,L,by rw[zbF];lia,?_⟩));rw[PY (show y ∉ c.ml from O)];let⟨Y,ec⟩:=X.marks u (ms:=c.ml++[y]) (by
   refine zbh.mpr ⟨X.mn c u,by simp,λa ha b hb z=>O ?_⟩;have  :=by simpa using hb
   rw[<-this,<-z];exact ha) (λm L=>by
   obtain h|h:=zbE.mp L
   ·exact(X.okn c u).2 m h
   simp_all) (by simp;lia)
  exact q _ (cells n m t e cs) ⟨m,t,e,_,ec.symm,Aw,Y⟩ (.set (LM u))
def An(C:Addr)(W:yak):AN:=λo S Q=>∃n x y own a j,o=[.loc n,.str x.1,.str y]/\bz C W S n own a j/\x∈a/\y∈x.2/\m6 C W S n own (setM a x.1 (x.2.filter λz=>decide (z≠y))) j Q
def Lv(T:Txt K mg C fi G gi)(F:gW K C "take_mark" "Web.take_mark" iT yG)(a:bV P w K mg base 1 C "need_knot" dH (iA C w)):bV P w K mg base 2 C "take_mark" iT (An C w):=by
 refine fq F J0 (λds S Q h=>?_) (λf cdv A outer s H E I=>?_)
 ·let⟨n,x,y,own,ks,O,rfl,_⟩:=h;rfl
 ·refine⟨_,(Xr (XJ (X9 (Xp 0) T.cl a (I.mono (by decide)) (Xs (Xp 1)))) (Xr (XH (XD (M.wc I) (Xp 2) (Yd (bU I) (X8 (Xp 0) T.cl T.n_marked) (Xp 1) (λ_ _=>rfl)) rfl) (Xu Yt) XT) (Xu (XJ (M.Kx (Yd (bU I) (X8 (Xp 0) T.cl T.n_marked) (Xp 1) (λ_ _=>rfl)) (Xp 2) ⟨rfl,rfl,rfl,rfl⟩))))),λds S Q h=>?_⟩;let⟨n,x,y,own,ks,O,rfl,X',W,U,q⟩:=h;let⟨m,t,e,cs,rfl,rfl,X⟩:=id X';have e0:aO xZ [.loc n,.str x.1,.str y]=[some (.loc n),some (.str x.1),some (.str y)]:=rfl;rw[e0];push_cast[true_and];have u:x.1∈nms (cs.map Kc.kn):=zcm.mpr ⟨x,W,rfl⟩;have o:=u;rw[eB] at o;let⟨c,j,L,_,Z⟩:=X.ni o;have ex:=uu X.kn j W L.symm;subst ex;have v:=X.Bj c j;refine br rfl X.at_ (by decide+kernel) ⟨_,rfl,n,c.nm,_,_,O,rfl,X',u,?_⟩;refine cI (iN X rfl ⟨_,rfl,_,_,_,_,aA X.wo,rfl,Z,NF v ⟨_,rfl,?_⟩⟩);rw[yDt (show y∈c.ml from U),yIn (by decide)];refine Lo (cI (iN X rfl ⟨_,rfl,_,_,_,_,aA X.wo,rfl,Z,c.mc,_,_,rfl,v,_,rfl,_,_,.inr y,_,v,rfl,G9 U,?_⟩));rw[Lm];obtain⟨Y,ec⟩:=X.marks j ((X.mn c j).sublist zaL) (λm v=>(X.okn c j).2 m (zbD.mp v).1) (zaV (zay ..) (X.mb c j));exact q _ (cells n m t e cs) ⟨m,t,e,_,ec.symm,Aw,Y⟩ (.set (LM j))
open PySem PySem.Spec L2 M M6 PyProof.Rows
noncomputable abbrev Ph:Stmt:=inClass (top 35) 7
noncomputable abbrev RV:List Str:=["self"]
noncomputable abbrev mL:=RV
def SK:ak RV mL (ah Ph):=L2.bZ
noncomputable abbrev Pg:Stmt:=inClass (top 35) 8
noncomputable abbrev RU:List Str:=["self","knot"]
noncomputable abbrev qA:=RU
def SJ:ak RU qA (ah Pg):=L2.bZ
noncomputable abbrev Pf:Stmt:=inClass (top 35) 10
noncomputable abbrev RT:List Str:=["self","knot"]
noncomputable abbrev qz:=RT
def SI:ak RT qz (ah Pf):=L2.bZ
def BS(h:d δ S λds P o=>gq P g k q ds [] (sO caps δ) o λa j=>r (.new (.lst a)) j):dh caps d g k q δ S r:=h
def qo(h:d δ S λr a=>fQ a g r.d):gQ d δ S g:=h
def zB(h:d δ S λds P j=>jB P g k ds q δ j):gV d g k q δ S:=h
def Ey(C:Addr)(W:yak):AN:=λq S Q=>∃n own j o,q=[.loc n]/\bz C W S n own j o/\∀a:List Str,a.Perm (nms j)->Q (.new (.lst (a.map D.str))) S
def UG(T:Txt K mg C fi G gi)(F:gW K C "knots" "Web.knots" mL Ph):bV P w K mg base 1 C "knots" mL (Ey C w):=by
 refine fq F SK (λy S Q h=>?_) (λf I A outer s H E v=>?_)
 ·let⟨n,own,u,j,rfl,_⟩:=h;rfl
 ·refine⟨_,(Xu (XC (XW (M.pK v) (by rfl) T.sorted (by rfl) (Xq (X8 (Xp 0) T.cl T.n_marked) Xw)))),λy S Q h=>?_⟩;let⟨n,own,u,j,rfl,⟨m,t,e,a,rfl,rfl,X⟩,q⟩:=h;rw[eB] at q;push_cast[true_and];refine iN X rfl ⟨_,a.map (λc=>.loc c.mc),m7 a,rfl,?_,by delta m7;rw[zbF];exact X.kb,λo x L=>?_⟩
  ·rw[e8,aA X.wo];delta kk m7;rw[zcn];rfl
  ·exact q o x
def MW(C:Addr)(W:yak):AN:=λq S Q=>∃n own j o k,q=[.loc n,.str k.1]/\bz C W S n own j o/\k∈j/\∀a:List Str,a.Perm k.2->Q (.new (.lst (a.map D.str))) S
def UE(T:Txt K mg C fi G gi)(F:gW K C "marks" "Web.marks" qA Pg)(a:bV P w K mg base 1 C "need_knot" dH (iA C w)):bV P w K mg base 2 C "marks" qA (MW C w):=by
 refine fq F SJ (λds S Q h=>?_) (λf cdv A outer s H E u=>?_)
 ·let⟨n,own,W,I,k,rfl,_⟩:=h;rfl
 ·refine⟨_,(Xr (XJ (X9 (Xp 0) T.cl a (u.mono (by decide)) (Xs (Xp 1)))) (Xu (XC (XW (M.pK u) (by rfl) T.sorted (by rfl) (Xq (Yd (bU u) (X8 (Xp 0) T.cl T.n_marked) (Xp 1) (λ_ _=>rfl)) Xw))))),λds S Q h=>?_⟩;let⟨n,own,W,I,x,rfl,O,L,q⟩:=h;let⟨m,t,e,cs,rfl,rfl,X⟩:=id O;push_cast[true_and];have o:x.1∈nms (cs.map Kc.kn):=zcm.mpr ⟨x,L,rfl⟩;have j:=o;rw[eB] at j;let⟨c,y,v,_,g1⟩:=X.ni j;have ex:=uu X.kn y L v.symm;subst ex;have Z:=X.Bj c y;refine br rfl X.at_ (by decide+kernel) ⟨_,rfl,n,c.nm,_,_,I,rfl,O,o,?_⟩;refine cI (iN X rfl ⟨_,rfl,_,_,_,_,aA X.wo,rfl,g1,⟨_,c.ml.map (λ_=>.bl true),c.ml,rfl,by rw[e8,aA Z];rfl,X.mb c y,λU Y hs=>?_⟩⟩);exact q U Y
def MV(C:Addr)(W:yak):AN:=λs S Q=>∃n own q o x,s=[.loc n,.str x]/\bz C W S n own q o/\x∈nms q/\o.length<32/\
 ∀a:List Ti,a.Nodup->(∀j,j∈a↔stp o x j)->(∀j∈a,iH j=true)->Q (.new (.lst (a.map T3))) S
def UD(T:Txt K mg C fi G gi)(F:gW K C "steps" "Web.steps" qz Pf)(a:bV P w K mg base 1 C "need_knot" dH (iA C w)):bV P w K mg base 2 C "steps" qz (MV C w):=by
 refine fq F SI (λds S Q h=>?_) (λf cdv A outer s H E v=>?_)
 ·let⟨n,own,ks,L,x,rfl,_⟩:=h;rfl
 ·refine⟨_,(Xr (XJ (X9 (Xp 0) T.cl a (v.mono (by decide)) (Xs (Xp 1)))) (Xu (XC (XW (M.nX v) (by rfl) T.sorted (by rfl) (Xq (Yd (bU v) (X8 (Xp 0) T.cl T.n_near) (Xp 1) (λ_ _=>rfl)) Xw))))),λds S Q h=>?_⟩;let⟨n,own,ks,L,x,rfl,Z,Y,hts,q⟩:=h;let⟨m,t,e,cs,rfl,rfl,X⟩:=id Z;push_cast[true_and];have u:=Y;rw[eB] at u;let⟨c,hc,I,g1,_⟩:=X.ni u;subst I;let⟨js,j1,W,j3,U,O⟩:=X.Bf c hc;refine br rfl X.at_ (by decide+kernel) ⟨_,rfl,n,c.nm,_,_,L,rfl,Z,Y,?_⟩;refine cI (wX X rfl ⟨_,rfl,_,_,_,_,aA X.ne,rfl,g1,⟨_,js.map T3,true,rfl,.inr ⟨c.nc,_,_,rfl,j1,(tF _).symm⟩,(fX U).to,by rw[zbF];have:=j8 W (λj y=>(O j).mp y);lia,λks' hp hu=>?_⟩⟩);let⟨us,o,rfl⟩:=D7 hp;exact q us (o.nodup_iff.mpr W) (λj=>o.mem_iff.trans (O j)) (λj y=>U j (o.mem_iff.mp y))
open PySem L2 M M6
noncomputable abbrev x9:List Str:=["leaf","marks"]
noncomputable abbrev iY:=x9
def J3:ak x9 iY (ah (top 4)):=L2.bZ
noncomputable abbrev Oj:List Str:=["many","moves","near","one","leaf","other"]
noncomputable abbrev xX:=Oj.take 2
def EZ:ak Oj xX (ah (top 12)):=L2.bZ
noncomputable abbrev Ce:List Str:=["machine"]
noncomputable abbrev lG:=Ce
def OY:ak Ce lG (ah (top 15)):=L2.bZ
noncomputable def qN(S:aq)(n:Nat)(g:Nat->Option MO)(d:Option MO):aq:=S++((zcE n).map g++[d])
section
variable {g g':Nat->Option MO}{d d' x:Option MO}
def zN(h:i<n):(qN S n g d)[S.length+i]? =some (g i):=by
 delta qN;rw[zac (by lia),zag (by simp_all)];simp[h]
def HN:(qN S n g d)[S.length+n]? =some d:=by
 delta qN;simp
def BV(h:i<n):(qN S n g d).set (S.length+i) x=qN S n (λj=>if j=i then x else g j) d:=by
 delta qN;refine zbz (by simp) λj h1 h2=>?_
 (simp;grind)
def HM:(qN S n g d).set (S.length+n) x=qN S n g x:=by
 delta qN;simp
def HL:(qN S n g d).take S.length=S:=by delta qN;simp
def mJ(h:∀i,i<n->g i=g' i):qN S n g d=qN S n g' d:=by
 delta qN;simp_all
end
def ki(s:S.length<=m)(e:S'[m]? =some (some d))(a:S'.take S.length=S)(h:jw S.length d=true)(q:g (.new d) S):YF S S' (.dat (.loc m)) g:=by
 refine⟨.new d,?_,λk j u v=>.inl ?_,by rw[a];exact q⟩
 ·simp only[out];simp_all
 grind
noncomputable def kN(n:Nat):List Key:=(zcE n).map λi:Nat=>Sum.inl (i:Int)
noncomputable def pD(m:Mv):D:=.tup [lD m.2.1,.int m.2.2]
noncomputable def fP(a:List Mv)(i:Nat):List D:=(a.filter λm=>decide (m.1=i)).map pD
noncomputable def m8(n:Nat)(a:List Mv):MO:=.dct (kN n) ((zcE n).map λi=>.lst (fP a i))
def LD:gn (kN n) (.inl (i:Int))=decide (i<n):=by
 delta gn kN
 (simp;grind)
def uH(h:i<n):dN (kN n) ((zcE n).map d) (.inl (i:Int))=some (d i):=by
 delta dN kN;have e:((zcE n).map (λi:Nat=>(Sum.inl i:Key))).zip ((zcE n).map d)=(zcE n).map λj:Nat=>((Sum.inl j:Key),d j):=by
  grind
 rw[e,List.find?_map];have:(zcE n).find? ((λp:Key×D=>decide (p.1=Sum.inl (i:Int))) ∘ λj:Nat=>(Sum.inl j,d j))=some i:=by
  rw[List.find?_eq_some_iff_getElem];refine⟨by simp,i,by simp_all,by simp,λj a=>?_⟩;simp;lia
 rw[this];rfl
def LG:nF ((zcE n).map λi:Nat=>(Sum.inl (i:Int),d i))=(kN n,(zcE n).map d):=by
 induction n with
 |zero=>rfl
 |succ n ih=>
  unfold nF at ih⊢;rw[zbN,zbK,List.foldl_append,ih];show sG (kN n,(zcE n).map d) (Sum.inl n,d n)=_;delta sG;rw[yIn (by rw[LD];simp)];simp[kN,zbN]
def yX(a)(r)(i):fP (a++[r]) i=if i=r.1 then fP a i++[pD r] else fP a i:=by
 delta fP
 grind
theorem BA{S:aq}{n:Nat}{f:Nat->List D}:∀(j k:Nat),k+j=n->DP (S.length+n) (kN n) ((zcE n).map λi=>if i<k then D.lst (f i) else .loc (S.length+i)) (qN S n (λi=>if i<k then none else some (.lst (f i))) (some (.dct (kN n) ((zcE n).map λi=>if i<k then D.lst (f i) else .loc (S.length+i)))))
  ((zcE n).map λi=>D.lst (f i)) (qN S n (λ_=>none) (some (.dct (kN n) ((zcE n).map λi=>D.lst (f i)))))
 |0,k,h=>by
  have e:((zcE n).map λi=>if i<k then D.lst (f i) else .loc (S.length+i))=(zcE n).map λi=>D.lst (f i):=zaJ λi a=>by
   simp_all
  rw[e,mJ (g':=λ_=>none) (λi a=>by simp_all)];exact .nil
 |j+1,k,h=>by
  have o:k<n:=by lia
  refine .step (m:=S.length+k) (es:=f k) ?_ (by lia) ?_
  ·rw[zN o,yIn (by lia)]
  ·have s:(((zcE n).map λi=>if i<k then D.lst (f i) else .loc (S.length+i)).map (sb (S.length+k) (.lst (f k))))=(zcE n).map λi=>if i<k+1 then D.lst (f i) else .loc (S.length+i):=by
    rw[zcn];refine zaJ λi a=>?_;show sb (S.length+k) (.lst (f k)) (if i<k then D.lst (f i) else .loc (S.length+i))=_;obtain h|h|h:=Nat.lt_trichotomy i k
    ·rw[yIp h,yIp (by lia)];rfl
    ·subst h;rw[yIn (by lia)];show(if S.length+i=S.length+i then _ else _)=_;simp
    ·rw[yIn (by lia),yIn (by lia)];show(if S.length+i=S.length+k then _ else _)=_;rw[yIn (by lia)]
   rw[s,BV o,HM];have q:=mJ (S:=S) (n:=n) (d:=some (.dct (kN n) ((zcE n).map λi=>if i<k+1 then D.lst (f i) else .loc (S.length+i)))) (g:=λj=>if j=k then none else if j<k then none else some (MO.lst (f j))) (g':=λi=>if i<k+1 then none else some (.lst (f i))) (λi a=>by
    lia)
   rw[q];exact BA j (k+1) (by lia)
theorem AZ:∀{a:List Mv},(∀m∈a,yc d m)->bX (a.map pD)=true
 |[],_=>rfl
 |m::a,h=>by
  have h1:=(Bo (h m (by simp)).2.1).2.2;simp only[zcf,bX,pD,b7,h1,AZ λk j=>h k (zaC _ j),zci]
def xK(h:∀x∈d,yc n x):jw m (m8 n d)=true:=by
 refine cV m _ ?_;generalize zcE n=l
 induction l with
 |nil=>rfl
 |cons i l ih=>
  have h1:bX (fP d i)=true:=AZ λx j=>h x (zbD.mp j).1;simp only[zcf,bX,b7,h1,ih,zci]
def SA:AN:=λj S Q=>∃(n:Nat)(a:List Mv),j=[.int n,.tup (a.map vD)]/\n<=60/\(∀m∈a,yc n m)/\a.length<=60/\Q (.new (m8 n a)) S
def Wy(T:Txt K mg C fi G gi)(F:Src K mg "by_stand" xX (top 12)):Def P w K mg base 1 "by_stand" xX (az K SA):=by
 refine eE F EZ (λds S Q h=>?_) (λf cdv A outer s H E a=>?_)
 ·let⟨n,I,rfl,_⟩:=h;rfl
 ·refine⟨_,(Xr (Xz 2 EZ.nd (XO (Yg (M.kI a) (by rfl) T.dict (by rfl) (Xq (Yj (caps:=[none]) (c9 (by rfl)) (by rfl) (by rfl) rfl (Ys (by rfl) T.range (Xs (Xp 0))) (λ_ _ _ _=>(X6 (i:=0) (by decide+kernel:List.Nodup (["stand"]:List Str)) rfl (Or.inl rfl))) (λ_ _ _ _=>Yn) (λ_ _ _ _=>(XA (Xq (Xp 0) (Xq (XO (XF Xw)) Xw))))) Xw)))) (Xr (Yc PassesOwn.never rfl (XZ (Xp 1)) (Yl rfl (XM (XG 3 EZ.nd) (XM (XG 4 EZ.nd) (XM (XG 5 EZ.nd) Yk)))) (Xu (XJ (Ye PySem.F.plainAttrs_list PySem.F.slot_list_append PySem.F.type_list_append Yq (Yd (bU a) (Xp 2) (Xp 3) (λ_ _=>rfl)) (Xq (XA (Xq (Xp 4) (Xs (Xp 5)))) Xw))))) (Xu (XC (M.Wq (Xp 2)))))),λds S Q h=>?_⟩;let⟨n,I,rfl,n6,W,hl,q⟩:=h;have e0:aO Oj [.int n,.tup (I.map vD)]=[some (.int n),some (.tup (I.map vD)),none,none,none,none]:=rfl;rw[e0];push_cast[dh,qY,bx];refine⟨by omega,by omega,?_⟩;refine kY (λrest O y U=>∃(k:Nat)(v:Option D),k<=n/\rest=((zcE n).drop k).map (λi:Nat=>D.int i)/\O=(zcE k).map (λi:Nat=>D.tup [.int i,.loc (S.length+i)])/\U=S++(zcE k).map (λ_=>some (MO.lst []))/\y=[v]) ?_ ?_ _ [] _ _ ⟨0,none,zcB _,by simp[cQ],rfl,by simp,rfl⟩
  ·intro O y U zx;let⟨k,v,hk,a,rfl,rfl,rfl⟩:=zx;obtain rfl:k=n:=by
    have:=congrArg zcz a;simp at this;grind
   refine⟨trivial,_,(zcE k).map (λi:Nat=>(Sum.inl i,D.loc (S.length+i))),rfl,?_,by simp;lia,?_⟩
   ·rw[zcn];rfl
   ·rw[LG];push_cast[gV,gQ,fQ];have eb:∀o,S++(zcE k).map (λ_=>some (MO.lst []))++[some o]=qN S k (λi=>some (.lst (fP [] i))) (some o):=λo=>by
     delta qN fP;simp
    rw[eb,show zcz (S++(zcE k).map (λ_=>some (MO.lst [])))=S.length+k by simp];refine bE (λrest y U=>∃(j u:List Mv)(v3 Z Y:Option D),rest=u.map vD/\j++u=I/\U=qN S k (λi=>some (.lst (fP j i))) (some (.dct (kN k) ((zcE k).map λi=>.loc (S.length+i))))/\y=[some (.int k),some (.tup (I.map vD)),some (.loc (S.length+k)),v3,Z,Y]) ?_ ?_ _ _ _ ⟨[],I,none,none,none,rfl,rfl,rfl,rfl⟩
    ·intro y U zx;let⟨j,u,v3,Z,Y,a,X,rfl,rfl⟩:=zx;have:u=[]:=by cases u with
      |nil=>rfl
      |cons _ _=>simp at a
     subst this;rw[zbG] at X;subst X;push_cast[Ii];have fz:=BA (S:=S) (n:=k) (f:=fP j) k 0 (by simp);refine⟨_,rfl,_,_,HN,_,_,fz,?_⟩;exact ki (by simp) HN HL (xK W) q
    ·intro x rest y U N' zx L;let⟨j,u,v3,Z,Y,a,X,rfl,rfl⟩:=zx;cases u with
     |nil=>simp at a
     |cons r u=>
      injection a with h1 h2;subst h1;subst h2;have hm:r∈I:=by rw[<-X];simp
      have ok:=W r hm;have hqs  :=by have:=congrArg zcz X;simp at this;omega
      refine⟨trivial,_,rfl,rfl,_,_,rfl,_,_,rfl,_,_,rfl,rfl,?_⟩;have sd:∀g,aX (qN S k g (some (.dct (kN k) ((zcE k).map λi=>D.loc (S.length+i))))) (.loc (S.length+k))=.dct (kN k) ((zcE k).map λi=>.loc (S.length+i)):=λg=>by simp only[aX,HN];rfl
      push_cast[ou,dG];refine⟨_,_,sd _,_,rfl,_,uH ok.1,?_⟩;have sl:aX (qN S k (λi=>some (.lst (fP j i))) (some (.dct (kN k) ((zcE k).map λi=>D.loc (S.length+i))))) (.loc (S.length+r.1))=.lst (fP j r.1):=by simp only[aX,zN ok.1];rfl
      rw[sl];refine⟨rfl,sz rfl,S.length+r.1,_,_,rfl,rfl,zN ok.1,?_,?_⟩
      ·have h1:(fP j r.1).length<=j.length:=by rw[fP,zbF];exact zay ..
       rw[yaf];lia
      ·rw[BV ok.1];refine L _ _ ⟨j++[r],u,_,_,_,rfl,by simp_all,?_,rfl⟩;refine mJ λi hi=>?_;rw[yX];by_cases e:i=r.1
       ·rw[yIp e,yIp e,e];rfl
       simp_all
  ·intro x rest O y U N' zx L;let⟨k,v,hk,a,rfl,rfl,rfl⟩:=zx;have hi:k<n:=by
    obtain h|h:=zct k n
    ·exact h
    ·rw[List.drop_of_length_le (by simp_all)] at a;simp at a
   rw[zai (by simp_all)] at a;injection a with e1 e2;subst e1;subst e2;push_cast[L3,if_true,bx,qv,gu];refine⟨zcB _,sz rfl,by rw[zbF,zbe,yaf];lia,L _ _ _ ⟨k+1,_,hi,rfl,?_,?_,rfl⟩⟩
   ·rw[zbN];simp
   ·rw[zbN,zbK,<-zbd];rfl
def EF:AN:=λo S Q=>∃(n b:Nat)(j:List Nat)(a:List Mv),o=[mD n b j a]/\n<=60/\(∀m∈a,yc n m)/\a.length<=60/\Q (.new (m8 n a)) S
def Q8(T:Txt K mg C fi G gi)(F:Src K mg "moves_near" lG (top 15))(a:Def P w K mg base 1 "by_stand" xX (az K SA)):Def P w K mg base 2 "moves_near" lG (az K EF):=by
 refine eE F OY (λI S Q h=>?_) (λf L A outer s H E v=>?_)
 ·let⟨n,b,u,j,rfl,_⟩:=h;rfl
 ·refine⟨_,(Xu (XC (XQ a v (Xq (Xx (Xp 0)) (Xq (Xx (Xp 0)) Xw))))),λI S Q h=>?_⟩;let⟨n,b,u,j,rfl,n6,o,x,q⟩:=h;have y:aO Ce [mD n b u j]=[some (mD n b u j)]:=rfl;rw[y];push_cast[mD,aG,dF,dY,at2,NZ];refine⟨n,j,rfl,n6,o,x,⟨.new (m8 n j),?_,qh,by rw[zbu];exact q⟩⟩;simp only[out];rw[yIp (xK o)]
def Av:AN:=λa S Q=>∃(l:Lf)(ms:List Str),a=[lD l,.lst (ms.map D.str)]/\Aa l/\texts ms/\Q (.dat (.bl (hold l ms))) S
def LB(T:Txt K mg C fi G gi)(F:Src K mg "holds" iY (top 4)):Def P w K mg base 1 "holds" iY (az K Av):=by
 refine eE F J3 (λL S Q h=>?_) (λf O A outer s H E j=>?_)
 ·let⟨l,ms,rfl,_⟩:=h;rfl
 ·refine⟨_,(Xr (XH (XD (X7 j) (Xx (Xp 0)) XE (aT _)) (Xu (XC (YA (Yy j) (Xx (Xp 0)) (Xp 1) rfl))) XT) (Xr (XH (XD (X7 j) (Xx (Xp 0)) XE (aT _)) (Xu (XC (YA (M.nY j) (Xx (Xp 0)) (Xp 1) rfl))) XT) (Xu (XC (YA (X7 j) (Xx (Xp 0)) XE (aT _)))))),λL S Q h=>?_⟩;let⟨l,ms,rfl,v,u,q⟩:=h;have I:aO x9 [lD l,.lst (ms.map D.str)]=[some (lD l),some (.lst (ms.map D.str))]:=rfl;rw[I];have inl:∀{a:Bool}{m:Str}{o:AK},dO m=true->o (.dat (.bl (a != decide (m∈ms)))) S->sX a (.str m) (.lst (ms.map D.str)) S o:=λ{a m o} h1 y=>
   su (n:=0) h1 (by decide) (zbt.mpr u.2) (by rw[uy];exact y) (by have:=u.1;lia)
  cases l with
  |stay=>
   push_cast[lD,aG,dF,dY,at2];exact q
  |step b x=>
   push_cast[lD,aG,dF,dY,at2];exact q
  |mk b m=>
   push_cast[lD,aG,dF,dY,at2];cases b
   ·rw[yIn (by decide),yIp (by decide)];refine inl (g7 v) (cN rfl ?_);have e:(true != decide (m∈ms))=hold (.mk false m) ms:=by simp only[hold];simp
    rw[e];exact q
   ·rw[yIp (by decide)];refine inl (g7 v) (cN rfl ?_);have e:(false != decide (m∈ms))=hold (.mk true m) ms:=by simp only[hold];simp
    rw[e];exact q
open PySem L2 M M6
noncomputable abbrev Jb:List Str:=[]
noncomputable abbrev iX:List Str:=[]
def J2:ak Jb iX (ah (top 39)):=⟨rfl,rfl,rfl,by simp,rfl,by decide+kernel,by decide+kernel⟩
noncomputable abbrev B8:List Str:=["_law_cell","_law_most","_law_ds","_law_knots_here","_law_marks_here","_law_k","_law_ties","_law_j","_law_one","_law_other"]
noncomputable abbrev lz:=B8.take 2
def gH:ak B8 lz (ah (top 42)):=L2.bZ
section
variable {α:Type}{f:Str×α->D}
noncomputable def dM(l:List (Str×α)):List Key:=l.map λp=>.inr p.1
def zm(l:List (Str×α))(x:Str):gn (dM l) (.inr x)=decide (x∈l.map (·.1)):=by
 delta gn dM
 (simp;grind)
theorem ur:∀{l:List (Str×α)},d∈l.map (·.1)->∃p∈l,p.1=d/\dN (dM l) (l.map f) (.inr d)=some (f p)
 |[],h=>by simp at h
 |p::l,h=>by
  unfold dN dM;rw[zcf,zcf,zaR,zbO];by_cases e:p.1=d
  ·simp_all
  ·have a:d∈l.map (·.1):=by
    grind
   let⟨q,h1,h2,j⟩:=ur a;refine⟨q,zaC _ h1,h2,?_⟩;rw[yDf (λz=>e (by injection z))];exact j
theorem sq:∀(l a),((a++l).map (·.1)).Nodup->(l.map λp=>((.inr p.1:Key),f p)).foldl sG (dM a,a.map f)=(dM (a++l),(a++l).map f)
 |[],a,_=>by simp
 |p::l,a,h=>by
  rw[zcf,zbJ];have j:p.1 ∉ a.map (·.1):=λz=>by
   grind
  have e:sG (dM a,a.map f) ((.inr p.1:Key),f p)=(dM (a++[p]),(a++[p]).map f):=by
   delta sG;rw[zm,yDf j];delta dM;simp
  rw[e,sq l (a++[p]) (by simp_all)];simp
def GQ(h:(d.map (·.1)).Nodup):nF (d.map λp=>((.inr p.1:Key),f p))=(dM d,d.map f):=sq d [] h
end
abbrev lV:=Str×List Str×Nat
noncomputable def d8(a:List lV):List Kn:=a.map λc=>(c.1,c.2.1)
noncomputable def GH(c:lV):D:=.loc c.2.2
def DV(a):nms (d8 a)=a.map (·.1):=by delta nms d8;rw[zcn];rfl
structure DX(S:aq)(a:Nat)(cs:List lV):Prop where
 dc:S[a]? =some (some (.dct (dM cs) (cs.map GH)))
 ml:∀c∈cs,S[c.2.2]? =some (some (.lst (c.2.1.map D.str)))
 nd:(a::cs.map (·.2.2)).Nodup
structure eU(S:aq)(a b:Nat)(cs:List lV)(ts:List Ti):Prop where
 m:DX S a cs
 ti:S[b]? =some (some (.lst (ts.map T3)))
 nb:b ∉ a::cs.map (·.2.2)
noncomputable def jK(a b:Nat):D:=.tup [.loc a,.loc b]
def DX.lt(h:DX S d g):∀k∈d::g.map (·.2.2),k<S.length:=λk j=>by
 obtain rfl|j:=zcd.mp j
 ·exact cu h.dc
 ·let⟨c,q,rfl⟩:=zcm.mp j;exact cu (h.ml c q)
def DX.frame(h:DX S d g)(e:∀k∈d::g.map (·.2.2),S'[k]? =S[k]?):DX S' d g:=
 ⟨(e d (by grind)).trans h.dc,λc o=>(e _ (zaC _ (zcm.mpr ⟨c,o,rfl⟩))).trans (h.ml c o),h.nd⟩
theorem eU.lt(h:eU S d g q r):∀k∈g::d::q.map (·.2.2),k<S.length:=λk j=>by
 obtain rfl|j:=zcd.mp j
 ·exact cu h.ti
 ·exact h.m.lt k j
theorem eU.frame(h:eU S d g q r)(e:∀k∈g::d::q.map (·.2.2),S'[k]? =S[k]?):eU S' d g q r:=
 ⟨h.m.frame λk o=>e k (zaC _ o),(e g (by grind)).trans h.ti,h.nb⟩
def eU.kept(h:eU S d g q r)(e:∀k,k<S.length->S'[k]? =S[k]?):eU S' d g q r:=h.frame λk o=>e k (h.lt k o)
def DX.get(h:DX S d g)(o:x∈nms (d8 g)):∃c∈g,c.1=x/\dN (dM g) (g.map GH) (.inr x)=some (.loc c.2.2):=by
 rw[DV] at o;exact ur o
def QC{c:lV}(h:c.1 ∉ d.map (·.1)):iO (dM d) (d.map GH) (.inr c.1) (.loc c.2.2)=.dct (dM (d++[c])) ((d++[c]).map GH):=by
 have:=uG (dM d,d.map GH) (.inr c.1,.loc c.2.2);unfold sG at this;rw[zm,yDf h] at this;rw[this];delta dM;simp[GH]
def DX.add(h:DX S d g):DX ((S++[some (MO.lst (ms.map D.str))]).set d (some (MO.dct (dM (g++[(x,ms,S.length)])) ((g++[(x,ms,S.length)]).map GH)))) d (g++[(x,ms,S.length)]):=by
 have u:=cu h.dc;refine⟨bR (aM h.dc),λc j=>?_,?_⟩
 ·obtain j|j:=zbE.mp j
  ·have h1:=h.ml c j;rw[au λz=>(zbH.mp h.nd).1 (zcm.mpr ⟨c,j,z⟩)];exact aM h1
  ·obtain rfl:=zaS.mp j;rw[au (show S.length≠d by lia)];exact aL
 ·rw[zbK,<-zbx,zbh];refine⟨h.nd,by simp,λk q l s e=>?_⟩;have:=h.lt k q;simp_all
theorem mH{α:Type}{P:aq->Prop}{t:AT}{e:AE}{Q:List D->aq->Prop}{δ:aV}{S:aq}(g)(c)(f)(u:P S):∀(as:List α)(j)(o),o.set 0 none=δ.set 0 none->
  (∀a∈as,∀Q:Bool->aq->Prop,Q (c a) S->t (δ.set 0 (some (g a))) S Q)->(∀a∈as,∀Q:AK,Q (.dat (f a)) S->e (δ.set 0 (some (g a))) S Q)->j.length+as.length<=yag->Q (j++(as.filter c).map f) S->
  gq P (cS 0) t e (as.map g) j o S Q
 |[],j,o,_,_,_,_,q=>⟨u,by simpa using q⟩
 |a::as,j,o,hd,ht,he,hl,q=>by
  refine⟨u,?_⟩;have e1  :=by
   have:=congrArg (λl=>l.set 0 (some (g a))) hd;simpa[List.set_set] using this
  simp only[cS];rw[e1];simp only[zby] at hl;refine ht a (by simp) _ ?_;cases v:c a with
  |true=>
   refine he a (by simp) _ ⟨by lia,?_⟩;refine mH g c f u as _ _ (by simp) (λx s=>ht x (by simp[s])) (λx s=>he x (by simp[s])) (by simp;lia) ?_;rw[zbr,v] at q;simpa[R.d] using q
  |false=>
   refine mH g c f u as _ _ (by simp) (λx s=>ht x (by simp[s])) (λx s=>he x (by simp[s])) (by lia) ?_;rw[zbr,v] at q;exact q
theorem pP{k o:Kn}:∀{ks:List Kn},(nms ks).Nodup->k∈ks->o∈ks->k.1=o.1->k=o
 |[],_,h,_,_=>by simp at h
 |a::ks,j,h,h',e=>by
  have j:(a.1::nms ks).Nodup:=j;rw[zbH] at j;obtain z|g:=zcd.mp h
  ·simp_all
  ·obtain s|q:=zcd.mp h'
   ·grind
   ·exact pP j.2 g q e
noncomputable def W0:List Nat:=6::(zbW 6 4++6::(zbW 5 [6,3,6]).flatten)
noncomputable def KN:List Str:=["a","ab","on","back","m","knot"]
noncomputable def W3:List Str:=["a","ab","stay"]
structure RO(ks:List Kn)(ts:List Ti):Prop where
 k1:1<=ks.length
 k6:ks.length<=6
 nd:(nms ks).Nodup
 nm:∀k∈ks,k.1∈KN/\k.2.length<=2/\k.2.Nodup/\∀m∈k.2,m∈MK
 tn:ts.Nodup
 tl:ts.length<=9
 tk:∀t∈ts,t.1∈nms ks/\t.2.2∈nms ks/\t.2.1∈W3
def jD(h:x∈KN):dO x=true:=by
 simp only[KN,zcd,zbw,or_false] at h;obtain rfl|rfl|rfl|rfl|rfl|rfl:=h<;>decide+kernel
def rB(h:x∈W3):dO x=true:=by
 simp only[W3,zcd,zbw,or_false] at h;obtain rfl|rfl|rfl:=h<;>decide+kernel
def oR(h:d::g=(cQ 0 m).drop j):j<m/\d=.int (j:Int)/\g=(cQ 0 m).drop (j+1):=by
 have o:j<(cQ 0 m).length:=by
  obtain z|z:=zct j (cQ 0 m).length
  ·exact z
  ·rw[List.drop_eq_nil_of_le z] at h;cases h
 rw[zai o] at h;injection h with h1 h2;have hm  :=by simpa[cQ] using o
 refine⟨hm,?_,h2⟩;rw[h1];simp[cQ]
def Kl(m):(cQ 0 m).length=m:=by simp[cQ]
def ql{l:List Str}(h):ia (l.map D.str) (j:Int)=some (.str l[j]):=dX (by simp[h])
def JO:Dz (.lst ds) d g S k=k (.new (.lst (YI ds d g))) S:=rfl
def Nn{b:Nat}{Q:D->Prop}(h:b<3)(k:∀x∈W3,Q (.str x)):∃e,ia [D.str "a",D.str "ab",D.str "stay"] (b:Int)=some e/\Q e:=by
 rcases(by lia:b=0∨b=1∨b=2) with rfl|rfl|rfl
 ·refine⟨_,dF,k _ (by simp[W3])⟩
 ·refine⟨_,dY,k _ (by simp[W3])⟩
 ·refine⟨_,at2,k _ (by simp[W3])⟩
def Au:AN:=λa S Q=>a=[]/\Q (.new (.lst (KN.map D.str))) S
def LA(T:Txt K mg C fi G gi)(F:Src K mg "_law_knots" iX (top 39)):Def P w K mg base 1 "_law_knots" iX (az K Au):=by
 refine eE F J2 (λa S Q h=>?_) (λf j A outer s H E o=>?_)
 ·let⟨rfl,_⟩:=h;rfl
 ·refine⟨_,(Xu (XC (XF (Xq XE (Xq XE (Xq XE (Xq XE (Xq XE (Xs XE))))))))),λa S Q h=>?_⟩;let⟨rfl,q⟩:=h;exact⟨sz rfl,gJ rfl q⟩
def rw_good{kl:List Str}{ts:List Ti}(a:∀x∈kl,x∈KN)(t3:∀t∈ts,t.1∈kl/\t.2.2∈kl/\t.2.1∈W3):cy (tr (ts.map T3)):=cK λk q=>by
 let⟨t,o,rfl⟩:=zcm.mp q;let⟨k1,k2,j⟩:=t3 t o;refine good3 ?_;delta iH;rw[jD (a _ k1),rB j,jD (a _ k2)];rfl
def Ez:AN:=λs S Q=>∃z:Int,s=[.int z,.int 5]/\∀q a b o j,eU q a b o j->RO (d8 o) j->j.length<=5->Q (.dat (jK a b)) q
def Q0(T:Txt K mg C fi G gi)(F:Src K mg "_law_rows" lz (top 42))(O:Def P w K mg base 1 "_law_draws" d9 (az K kc))(L:Def P w K mg base 1 "_law_knots" iX (az K Au))(v:Def P w K mg base 1 "_law_words" fE (az K nN))(I:Def P w K mg base 1 "_law_marks" fF (az K nO)):Def P w K mg base 2 "_law_rows" lz (az K Ez):=by
 refine QY F gH (λds S Q h=>?_) (λf cdv A outer s H E U=>?_)
 ·let⟨z,rfl,_⟩:=h;rfl
 ·refine⟨_,(Xr (Xz 2 gH.nd (XQ O U (Xq (Xp 0) (Xq (Xy XU (Xy XU (Xy XU (XF (Xs Xv)) (Xy Yh (XF (Xs Xv)) Xv)) (XF (Xq (Xy XU (Xp 1) Xv) Xw))) (Xy Yh (XF (Xq Xv (Xq Xv (Xs Xv)))) (Xp 1))) Xw)))) (Xr (Xz 3 gH.nd (M.gf M.Bd (Yx L (U.mono (by decide)) (by rfl)) M.nU (YE (Xy XU Xv (Xx (Xp 2)))))) (Xr (Xz 4 gH.nd (XO M.gg)) (Xr (Yc PassesOwn.never rfl (Ys (by rfl) T.range (Xq (XW Yi (by rfl) T.len (by rfl) (Xs (Xp 3))) Xw)) (XG 5 gH.nd) (Xu (M.iF (bU U) (Xp 4) (XX (Xp 3) (Xp 5)) (XO (Yj (caps:=[none,some 2,some 5]) (c9 (by decide+kernel)) (by rfl) (by rfl) rfl (Ys (by rfl) T.range (Xs Xv)) (λ_ _ _ _=>(X6 (i:=0) (by decide+kernel:List.Nodup (["_law_j","_law_ds","_law_k"]:List Str)) rfl (Or.inl rfl))) (λ_ _ _ _=>(YB (XD (X7 U) (Xy Yb (Xy YC (XX (Xp 1) (Xy XU Xv (Xp 2))) (Xy XU Xv (Xp 0))) Xv) Xv (aT _)))) (λ_ _ _ _=>(XX (Yx I (U.mono (by decide)) (by rfl)) (Xp 0))))) rfl))) (Xr (Xz 6 gH.nd (XO (Yv))) (Xr (Yc PassesOwn.never rfl (Ys (by rfl) T.range (Xq (Xx (Xp 2)) Xw)) (XG 7 gH.nd) (Xr (Xz 8 gH.nd (XX (Xp 3) (Xy Yb (XX (Xp 2) (Xy XU Xv (Xy Yh Xv (Xp 7)))) (XW Yi (by rfl) T.len (by rfl) (Xs (Xp 3)))))) (Xr (Xz 9 gH.nd (XX (Xp 3) (Xy Yb (XX (Xp 2) (Xy XU Xv (Xy Yh Xv (Xp 7)))) (XW Yi (by rfl) T.len (by rfl) (Xs (Xp 3)))))) (Xu (Yw U (Xp 6) (XA (Xq (Xp 8) (Xq (XX (Yx v (U.mono (by decide)) (by rfl)) (XX (Xp 2) (Xy XU Xv (Xy Yh Xv (Xp 7))))) (Xs (Xp 9))))) Ym rfl))))) (Xu (XC (XA (Xq (Xp 4) (Xq (XO (Yg (M.Be U) (by rfl) T.list (by rfl) (Xs (Xp 6)))) Xw))))))))))),λds S Q h=>?_⟩;let⟨z,rfl,q⟩:=h;have e0:aO B8 [.int z,.int 5]=[some (.int z),some (.int 5),none,none,none,none,none,none,none,none]:=rfl;rw[e0];push_cast[DA,bx,zX,sY];refine⟨sz rfl,sz rfl,by decide,by decide,sz rfl,sz rfl,sz rfl,sz rfl,sz rfl,by decide,by decide,sz rfl,sz rfl,z,W0,rfl,by decide,by decide,λys hl hlt=>?_⟩;have ya:∀i,i<23->∃a,ys[i]? =some a/\∀b,W0[i]? =some b->a<b:=λi Z=>by
   have:i<ys.length:=by rw[hl];exact Z
   exact⟨_,zam this,λb hb=>hlt i _ b (zam this) hb⟩
  let⟨o,hn0,hb0⟩:=ya 0 (by omega);have hb0  :=hb0 6 rfl;refine⟨rfl,?_⟩;refine⟨_,dg hn0,?_⟩;push_cast[true_and];have ek:YI (KN.map D.str) none (some (1+o))=(KN.take (o+1)).map D.str:=by
   rcases(by lia:o=0∨o=1∨o=2∨o=3∨o=4∨o=5) with rfl|rfl|rfl|rfl|rfl|rfl<;>rfl
  rw[JO,ek];have kl1:(KN.take (o+1)).length=o+1:=by rw[zbq];show min _ 6=_;lia
  have kl2:(KN.take (o+1)).Nodup:=(show KN.Nodup by decide+kernel).sublist (List.take_sublist ..);have Y:∀x∈KN.take (o+1),x∈KN:=λx hx=>List.mem_of_mem_take hx;generalize KN.take (o+1)=kl at kl1 kl2 Y;push_cast[gV,qY,Ma];refine⟨o+1,by simp[ie,kl1],by lia,by lia,?_⟩;refine bE (λrest δ S2=>∃(j:Nat)(cs:List lV)(v5:Option D),j<=o+1/\rest=(cQ 0 (o+1)).drop j/\δ=[some (.int z),some (.int 5),some (.lst (nL ys)),some (.lst (kl.map D.str)),some (.loc S.length),v5,none,none,none,none]/\DX S2 S.length cs/\cs.length=j/\cs.map (·.1)=kl.take j/\∀k∈cs,k.2.1.length<=2/\k.2.1.Nodup/\∀m∈k.2.1,m∈MK) ?_ ?_ _ _ _ ⟨0,[],none,zcB _,rfl,rfl,⟨aL,by simp,by simp⟩,rfl,rfl,by simp⟩
  ·intro δ S2 zx;let⟨j,cs,v5,hj,U,rfl,X,g1,g2,g3⟩:=zx;obtain rfl:j=o+1:=by
    have:=congrArg zcz U;rw[List.length_drop,Kl] at this;simp at this;grind
   rw[<-kl1,zbu] at g2;let⟨n7,hn7,hb7⟩:=ya 7 (by simp);have hb7  :=hb7 6 rfl;push_cast[gV,qY,bx,sY,cA];refine⟨_,dg hn7,?_⟩;refine⟨_,rfl,by omega,by omega,?_⟩;refine bE (λrest δ S3=>∃(j:Nat)(W:List Ti)(v7 v8 v9:Option D),j<=n7/\rest=(cQ 0 n7).drop j/\δ=[some (.int z),some (.int 5),some (.lst (nL ys)),some (.lst (kl.map D.str)),some (.loc S.length),v5,some (.loc S2.length),v7,v8,v9]/\S3=S2++[some (hN w (W.map T3))]/\W.length<=j/\W.Nodup/\∀t∈W,t.1∈kl/\t.2.2∈kl/\t.2.1∈W3) ?_ ?_ _ _ _ ⟨0,[],none,none,none,zcB _,rfl,rfl,rfl,zcA _,.nil,by simp⟩
   ·intro δ S3 zx;let⟨j,W,v7,v8,v9,hj,U,rfl,rfl,t1,t2,t3⟩:=zx;push_cast[bx];refine⟨S2.length,_,_,rfl,aL,rw_good Y t3,by rw[eZ,zbF];lia,sz rfl,?_⟩;rw[tF];have hx:∀k∈S.length::cs.map (·.2.2),k<(S2++[some (hN w (W.map T3))]).length:=λk hk=>by have:=X.lt k hk;rw[zaP];lia
    refine q _ S.length _ cs W ⟨X.frame λk hk=>?_,aL,λz=>absurd (hx _ z) (zch _)⟩ ⟨by rw[d8,zbF];simp_all,by rw[d8,zbF];lia,by rw[DV,g2];exact kl2,λk hk=>?_,t2,by lia,λt ht=>?_⟩ (by lia)
    ·rw[aS (hx k hk),aS (X.lt k hk)]
    ·let⟨c,hc,rfl⟩:=zcm.mp hk;exact⟨Y _ (by grind),g3 c hc⟩
    ·rw[DV,g2];exact t3 t ht
   ·intro x rest δ S3 N' zx hN';let⟨j,W,v7,v8,v9,hj,U,rfl,rfl,t1,t2,t3⟩:=zx;let⟨h1,rfl,rfl⟩:=oR U;let⟨a,ha,_⟩:=ya (8+3*j) (by lia);let⟨b,hb,hb3⟩:=ya (9+3*j) (by lia);let⟨c,hc,_⟩:=ya (10+3*j) (by lia);have hb3:b<3:=by
     rcases(by lia:j=0∨j=1∨j=2∨j=3∨j=4) with rfl|rfl|rfl|rfl|rfl<;>exact hb3 3 rfl
    push_cast[DA,qw,cA];have cm:DQ 3 j:=.inl (by decide);have hkl:ie (D.lst (kl.map D.str))=some (o+1):=by simp[ie,kl1]
    have hx:∀u,u % (o+1)<kl.length:=λu=>by rw[kl1];exact zcF _ (by simp)
    refine⟨cm,_,dg ha,_,hkl,?_⟩;push_cast[cA];refine⟨by omega,_,ql (hx a),cm,_,dg hc,_,hkl,?_⟩;push_cast[cA];refine⟨by omega,_,ql (hx c),rfl,cm,_,dg hb,?_⟩;push_cast[cA];refine Nn hb3 λwd hwd=>⟨sz rfl,S2.length,rfl,_,aL,?_⟩
    generalize eA:kl[a % (o+1)]'(hx a)=kA;generalize eC:kl[c % (o+1)]'(hx c)=kC;have mA  :=eA▸zbv _;have mC  :=eC▸zbv _;have okN:iH (kA,wd,kC)=true:=by
     delta iH;rw[jD (Y _ mA),rB hwd,jD (Y _ mC)];rfl
    refine⟨good3 okN,rw_good Y t3,by rw[eZ,zbF];lia,?_⟩
    ·rw[oK];rw[zaz _ _ (zcA _),zcu];by_cases hin:(kA,wd,kC)∈W
     ·have e9:putN (W.map T3) (T3 (kA,wd,kC))=W.map T3:=by
       delta putN;rw[yIp (List.any_eq_true.mpr ⟨T3 (kA,wd,kC),zcm.mpr ⟨_,hin,rfl⟩,yDt rfl⟩)]
      rw[e9];exact hN' _ _ ⟨j+1,W,_,_,_,by assumption,rfl,rfl,rfl,by lia,t2,t3⟩
     ·rw[put3 hin];refine hN' _ _ ⟨j+1,W++[(kA,wd,kC)],_,_,_,by assumption,rfl,rfl,rfl,by simp_all,?_,λt ht=>?_⟩
      ·rw[zbh];exact⟨t2,by simp,λx hx y hy e=>hin (by simp_all)⟩
      ·obtain h|h:=zbE.mp ht
       ·exact t3 t h
       simp_all
  ·intro x rest δ S2 N' zx hN';let⟨j,cs,v5,hj,U,rfl,X,g1,g2,g3⟩:=zx;obtain⟨h1,rfl,rfl⟩:=oR U;obtain⟨y,hy,_⟩:=ya (1+j) (by lia);have hjl:j<kl.length:=by simp_all
   push_cast[qy,bx,dh,qY];refine⟨by decide,by decide,?_⟩;refine mH (α:=Nat) (δ:=[none,some (.lst (nL ys)),some (.int j)]) (λz=>D.int z) (λi=>decide (((y:Int) / (1+i)) % 2=1)) (λi=>D.str (MK.getD i "")) trivial [0,1] [] _ rfl (λi Z Q2 q2=>?_) (λi Z Q' q'=>?_) (by decide) ?_
   ·push_cast[cA];refine⟨_,dg hy,?_⟩;push_cast[true_and];have hi2  :=by simp only[zcd,zbw,or_false] at Z;omega
    exact⟨⟨by lia,by lia⟩,by decide,q2⟩
   ·push_cast[true_and];refine⟨rfl,?_⟩;simp only[zcd,zbw,or_false] at Z;obtain rfl|rfl:=Z
    ·exact⟨_,dF,q'⟩
    ·exact⟨_,dY,q'⟩
   ·have ab:kl[j] ∉ cs.map (·.1):=by
     rw[g2];intro hm;obtain⟨i,Z,e⟩:=zaI hm;rw[zbq] at Z;rw[List.getElem_take] at e;have:=(List.nodup_iff_pairwise_ne.mp kl2 |> zaj.mp) i j (by grind) hjl (by simp_all);exact this e
    generalize hms:([0,1]:List Nat).filter (λi:Nat=>decide (((y:Int) / (1+i)) % 2=1))=is;have hil:is.length<=2:=by rw[<-hms];exact zay ..
    have him:∀i∈is,i<2:=λi Z=>by
     rw[<-hms] at Z;have:=(zbD.mp Z).1;simp only[zcd,zbw,or_false] at this;lia
    refine⟨_,ql hjl,S.length,rfl,dM cs,cs.map GH,.inr kl[j],rfl,aM X.dc,by rw[zbF];lia,?_⟩;rw[show(is.map λi=>D.str (MK.getD i ""))=(is.map λi=>MK.getD i "").map D.str by rw[zcn];rfl];have ep:=QC (c:=(kl[j],is.map λi=>MK.getD i "",S2.length)) ab;rw[ep];refine hN' _ _ ⟨j+1,cs++[(kl[j],is.map λi=>MK.getD i "",S2.length)],_,by assumption,rfl,rfl,X.add,by simp[g1],?_,λk hk=>?_⟩
    ·simp_all
    ·obtain h|h:=zbE.mp hk
     ·exact g3 k h
     ·rw[zaS.mp h];refine⟨by simp_all,?_,λm hm=>?_⟩
      ·rw[<-hms];exact List.Nodup.sublist ((zaL).map _) (by decide+kernel)
      let⟨i,Z,rfl⟩:=zcm.mp hm;rcases(by have:=him i Z;lia:i=0∨i=1) with rfl|rfl<;>simp[MK]
open PySem PySem.Spec L2 M M6 PyProof.Rows
noncomputable abbrev x8:List Str:=["_law_rows_here","_law_web","_law_knot","_law_one","_law_word","_law_other"]
noncomputable abbrev iW:=x8.take 1
def ja:ak x8 iW (ah (top 43)):=L2.bZ
noncomputable abbrev x7:List Str:=["_law_rows_here","_law_knot","_law_found"]
noncomputable abbrev iV:=x7.take 2
def Az:ak x7 iV (ah (top 44)):=L2.bZ
def RO.vX(h:RO d g):∀t∈g,iH t=true:=λt q=>by
 let⟨h1,h2,s⟩:=h.tk t q;let⟨k,k1,k2⟩:=zcm.mp h1;let⟨j,o,a⟩:=zcm.mp h2;delta iH;rw[<-k2,<-a,jD (h.nm k k1).1,rB s,jD (h.nm j o).1];rfl
theorem bA{α:Type}{P:aq->Prop}{C:AG}{t:AT}{e:AE}{Q:List D->aq->Prop}{S:aq}(g)(c)(f)(en:α->aV)(s:aV->Prop)(u:P S)(v:∀a,s (en a)):∀(as:List α)(o)(δ),s δ->
  (∀a∈as,∀δ,s δ->∀Q:aV->aq->Prop,Q (en a) S->C (g a) δ S Q)->(∀a∈as,∀Q:Bool->aq->Prop,Q (c a) S->t (en a) S Q)->(∀a∈as,∀Q:AK,Q (.dat (f a)) S->e (en a) S Q)->o.length+as.length<=yag->Q (o++(as.filter c).map f) S->
  gq P C t e (as.map g) o δ S Q
 |[],o,δ,_,_,_,_,_,q=>⟨u,by simpa using q⟩
 |a::as,o,δ,hd,hg,ht,he,hl,q=>by
  refine⟨u,hg a (by simp) δ hd _ (ht a (by simp) _ ?_)⟩;simp only[zby] at hl;cases y:c a with
  |true=>
   refine he a (by simp) _ ⟨by lia,?_⟩;refine bA g c f en s u v as _ _ (v a) (λx j=>hg x (by simp[j])) (λx j=>ht x (by simp[j])) (λx j=>he x (by simp[j])) (by simp;lia) ?_;rw[zbr,y] at q;simpa[R.d] using q
  |false=>
   refine bA g c f en s u v as _ _ (v a) (λx j=>hg x (by simp[j])) (λx j=>ht x (by simp[j])) (λx j=>he x (by simp[j])) (by lia) ?_;rw[zbr,y] at q;exact q
def In(C:Addr)(W:yak)(S a:aq)(ks:List Kn)(ts:List Ti):Prop:=∃own,bz C W a S.length own ks ts/\(∀c∈own,S.length<=c)/\(∀k,k<S.length->a[k]? =S[k]?)/\S.length<=a.length
def In.go(h1:∀c∈own,S.length<=c)(h2:∀k,k<S.length->S'[k]? =S[k]?)(o:S.length<=S'.length)(X:bz C W d S.length g r F)(f:Fr S' d own g):In C W S d r F:=
 ⟨g,X,λc s=>(f.new c s).elim (h1 c) λz=>zcp o z,λk q=>(f.out k (by lia) λz=>by have:=h1 k z;lia).trans (h2 k q),zcp o f.len⟩
def As(C:Addr)(W:yak):AN:=λs S Q=>∃a b q o,s=[jK a b]/\eU S a b q o/\RO (d8 q) o/\∀j own,bz C W j S.length own (d8 q).reverse o->(∀c∈own,S.length<=c)->(∀k,k<S.length->j[k]? =S[k]?)->S.length<=j.length->Q (.dat (.loc S.length)) j
theorem uv{α:Type}:∀{l:List (Str×α)}{p q:Str×α},(l.map (·.1)).Nodup->p∈l->q∈l->p.1=q.1->p=q
 |x::l,p,q,hn,j,a,e=>by
  rw[zcf,zbH] at hn;obtain z|j:=zcd.mp j
  ·grind
  ·obtain y|a:=zcd.mp a
   ·grind
   ·exact uv hn.2 j a e
def Lz(T:Txt K mg C fi G gi)(F:Src K mg "_law_laid" iW (top 43))(ab:cY P w K mg base lQ 1 fi fdi fS (az K (yv C w)))(ac:Binds K fdi fS [])(o:bV P w K mg base 2 C "put_knot" lC (EB C w))(u:bV P w K mg base 2 C "put_tie" jo (yu C w)):Def P w K mg base 3 "_law_laid" iW (az K (As C w)):=by
 refine QY F ja (λds S Q h=>?_) (λf cdv A outer s H E v=>?_)
 ·let⟨a,b,O,ts,rfl,_⟩:=h;rfl
 ·refine⟨_,(Xr (Xz 1 ja.nd (M.kF T.Bj ab ac (v.mono (by decide)) (by rfl) T.mg_Web)) (Xr (Yc PassesOwn.never rfl (M.F3 (by rfl) T.reversed (Yg (M.uf v) (by rfl) T.list (by rfl) (Xq (Xx (Xp 0)) Xw))) (XG 2 ja.nd) (Xu (XJ (X9 (Xp 1) T.cl o (v.mono (by decide)) (Xq (Xp 2) (Xq (Yg M.we (by rfl) T.list (by rfl) (Xq (Yd (bU v) (Xx (Xp 0)) (Xp 2) (λ_ _=>rfl)) Xw)) Xw)))))) (Xr (Yc PassesOwn.never rfl (XZ (Xx (Xp 0))) (Yl rfl (XM (XG 3 ja.nd) (XM (XG 4 ja.nd) (XM (XG 5 ja.nd) Yk)))) (Xu (XJ (X9 (Xp 1) T.cl u (v.mono (by decide)) (Xq (Xp 3) (Xq (Xp 4) (Xs (Xp 5)))))))) (Xu (XC (Xp 1)))))),λds S Q h=>?_⟩;let⟨a,b,O,ts,rfl,X0,j,q⟩:=h;have e0:aO x8 [jK a b]=[some (jK a b),none,none,none,none,none]:=rfl;rw[e0];push_cast[sW,gV];refine⟨S.length,rfl,by simp,aL,λS1 X1 k1 l1=>⟨rfl,?_⟩⟩;have I1:In C w S S1 [] []:=⟨_,X1,λc hc=>by simp only[zcd,zbw,or_false] at hc;lia,λk hk=>(k1 k hk).trans (aS hk),by simp_all⟩
  have XR:∀{S':aq},(∀k,k<S.length->S'[k]? =S[k]?)->eU S' a b O ts:=λh=>X0.kept h;push_cast[NI,uV,jK,aG,dF];refine⟨_,⟨_,aA (XR λk hk=>(k1 k hk).trans (aS hk)).m.dc⟩,_,rfl,?_⟩;rw[show(dM O).map kD=O.map (λc=>D.str c.1) by delta dM;rw[zcn];rfl,<-List.map_reverse];have hrv:∀r,r∈O.reverse↔r∈O:=λr=>List.mem_reverse;have hnr:(O.reverse.map (·.1)).Nodup:=by rw[List.map_reverse];have:=j.nd;rw[DV] at this;exact List.pairwise_reverse.mpr (this.imp λh=>Ne.symm h)
  have hk6:=j.k6;rw[d8,zbF,<-List.length_reverse] at hk6;rw[show(d8 O).reverse=d8 O.reverse by delta d8;simp] at q;generalize O.reverse=cr at hrv hnr hk6 q;refine bE (λrest W S'=>∃(done U:List lV)(v2:Option D),rest=U.map (λc=>D.str c.1)/\done++U=cr/\W=[some (jK a b),some (.loc S.length),v2,none,none,none]/\In C w S S' (d8 done) []) ?_ ?_ _ _ _ ⟨[],cr,none,rfl,rfl,rfl,I1⟩
  ·rintro W S2 ⟨done,U,v2,L,I,rfl,X2⟩;have:U=[]:=by simp_all
   subst this;rw[zbG] at I;subst I;push_cast[jK,aG,dY,gQ,gV];obtain⟨_,_,_,k2',_⟩:=id X2;refine⟨_,(XR k2').ti,?_⟩;refine bE (λrest W S'=>∃(Z rt:List Ti)(v4 v5 v6:Option D),rest=rt.map T3/\Z++rt=ts/\W=[some (jK a b),some (.loc S.length),v2,v4,v5,v6]/\In C w S S' (d8 done) Z) ?_ ?_ _ _ _ ⟨[],ts,none,none,none,rfl,rfl,rfl,X2⟩
   ·rintro W S3 ⟨Z,rt,v4,v5,v6,L,I,rfl,own,X3,k1,k2,k3⟩;have:rt=[]:=by cases rt with|nil=>rfl|cons _ _=>simp at L
    subst this;rw[zbG] at I;subst I;exact⟨(XR k2).ti,_,rfl,q S3 own X3 k1 k2 k3⟩
   ·intro x xs W S3 N zx hN;obtain⟨Z,rt,v4,v5,v6,L,I,rfl,own,X3,k1,k2,k3⟩:=zx;cases rt with
    |nil=>simp at L
    |cons r rt=>
     injection L with L e3;subst L;subst e3;let⟨m,t,e,cs',_,_,X⟩:=id X3;have v:r∈ts:=by rw[<-I];simp
     have hnd:=j.tn;rw[<-I,zbh] at hnd;have Y  :=λz=>hnd.2.2 r z r (by simp) rfl;have htl:=j.tl;have:Z.length<300:=by have:=congrArg zcz I;rw[zaP] at this;lia
     have nmd:∀y,y∈nms (d8 O)->y∈nms (d8 done):=λy hy=>by
      rw[DV] at hy⊢
      grind
     refine⟨(XR k2).ti,_,rfl,rfl,_,_,rfl,_,_,rfl,_,_,rfl,rfl,?_⟩;exact br rfl X.at_ (by decide+kernel) ⟨_,rfl,_,rfl,_,rfl,S.length,r,own,d8 done,Z,rfl,X3,nmd _ (j.tk r v).1,nmd _ (j.tk r v).2.1,Y,this,j.vX r v,λS4 ae X4 f4=>hN _ _ ⟨Z++[r],rt,_,_,_,rfl,by rw[<-I];simp,rfl,In.go k1 k2 k3 X4 f4⟩⟩
  ·intro x xs W S2 N zx hN;let⟨done,U,v2,L,I,rfl,own,X2,k1,k2,k3⟩:=zx;cases U with
   |nil=>simp at L
   |cons r U=>
    injection L with L e3;subst L;subst e3;let⟨m,t,e,cs',_,_,X⟩:=id X2;have v  :=(hrv r).mp (by rw[<-I];simp);have Y:r.1 ∉ nms (d8 done):=by rw[DV];grind
    have hkl:(d8 done).length<40:=by have:=congrArg zcz I;rw[zaP] at this;rw[d8,zbF];lia
    have hm:=j.nm (r.1,r.2.1) (zcm.mpr ⟨r,v,rfl⟩);let⟨c,hc,hcx,gw⟩:=(XR k2).m.get (by rw[DV];exact zcm.mpr ⟨r,v,rfl⟩);obtain rfl:c=r:=by
     have hn0:=j.nd;rw[DV] at hn0;exact uv hn0 hc v hcx
    refine⟨trivial,?_⟩;refine br rfl X.at_ (by decide+kernel) ?_;push_cast[uU,dG,jK,aG,dF];refine⟨_,_,aA (XR k2).m.dc,_,rfl,_,gw,?_⟩;rw[aA ((XR k2).m.ml c hc)];refine⟨S.length,c.1,_,c.2.1,own,d8 done,[],rfl,.inl rfl,X2,Y,hkl,by have:c.2.1.length<=2:=hm.2.1;lia,hm.2.2.1,jD hm.1,λm hm'=>g7 (hm.2.2.2 m hm'),λS4 ae X4 f4=>hN _ _ ⟨done++[c],U,_,rfl,by simp_all,rfl,by rw[show d8 (done++[c])=d8 done++[(c.1,c.2.1)] by simp[d8]];exact In.go k1 k2 k3 X4 f4⟩⟩
noncomputable def eG(ts:List Ti)(k:Str):List Ti:=(ts.filter λt=>decide (t.1=k)).map (λt=>(("on":Str),t.2.1,t.2.2))++(ts.filter λt=>decide (t.2.2=k)).map (λt=>(("back":Str),t.2.1,t.1))
def Aq:AN:=λs S Q=>∃a b q j k,s=[jK a b,.str k]/\eU S a b q j/\RO (d8 q) j/\dO k=true/\∀o:List Ti,o.Perm (eG j k)->Q (.new (.lst (o.map T3))) S
def Lx(T:Txt K mg C fi G gi)(F:Src K mg "_law_steps" iV (top 44)):Def P w K mg base 1 "_law_steps" iV (az K Aq):=by
 refine QY F Az (λds S Q h=>?_) (λf cdv A outer s H E X=>?_)
 ·let⟨a,b,cs,j,k,rfl,_⟩:=h;rfl
 ·refine⟨_,(Xr (M.ff (i:=2) Az.nd rfl rfl (caps:=[none,none,none,some 1]) (c9 (by decide+kernel)) (by rfl) (by rfl) rfl (XZ (Xx (Xp 0))) (λ_ _ _ _=>(Yl (n:=3) rfl (XM (X6 (i:=0) (by decide+kernel:List.Nodup (["_law_one","_law_word","_law_other","_law_knot"]:List Str)) rfl (Or.inl rfl)) (XM (X6 (i:=1) (by decide+kernel:List.Nodup (["_law_one","_law_word","_law_other","_law_knot"]:List Str)) rfl (Or.inl rfl)) (XM (X6 (i:=2) (by decide+kernel:List.Nodup (["_law_one","_law_word","_law_other","_law_knot"]:List Str)) rfl (Or.inl rfl)) Yk))))) (λ_ _ _ _=>(YB (XD (X7 X) (Xp 0) (Xp 3) (aT _)))) (λ_ _ _ _=>(XA (Xq XE (Xq (Xp 1) (Xs (Xp 2))))))) (Xu (XC (XW (M.nX X) (by rfl) T.sorted (by rfl) (Xq (Xy XU (Xp 2) (Yj (caps:=[none,none,none,some 1]) (c9 (by decide+kernel)) (by rfl) (by rfl) rfl (XZ (Xx (Xp 0))) (λ_ _ _ _=>(Yl (n:=3) rfl (XM (X6 (i:=0) (by decide+kernel:List.Nodup (["_law_one","_law_word","_law_other","_law_knot"]:List Str)) rfl (Or.inl rfl)) (XM (X6 (i:=1) (by decide+kernel:List.Nodup (["_law_one","_law_word","_law_other","_law_knot"]:List Str)) rfl (Or.inl rfl)) (XM (X6 (i:=2) (by decide+kernel:List.Nodup (["_law_one","_law_word","_law_other","_law_knot"]:List Str)) rfl (Or.inl rfl)) Yk))))) (λ_ _ _ _=>(YB (XD (X7 X) (Xp 2) (Xp 3) (aT _)))) (λ_ _ _ _=>(XA (Xq XE (Xq (Xp 1) (Xs (Xp 0)))))))) Xw))))),λds S Q h=>?_⟩;let⟨a,b,cs,j,k,rfl,U,x,ok,q⟩:=h;have e0:aO x7 [jK a b,.str k]=[some (jK a b),some (.str k),none]:=rfl;rw[e0];push_cast[jK,aG,dY,dh,gQ];have htl:=x.tl;have L:∀t I,(∃a b c,I=[a,b,c,some (.str k)])->∀y,y [some (.str t.1),some (.str t.2.1),some (.str t.2.2),some (.str k)] S->xP 3 (jV (cS 0) (jV (cS 1) (jV (cS 2) xQ))) (T3 t) I S y:=by
   intro t _ z y v;let⟨a,b,c,rfl⟩:=z;refine⟨_,rfl,rfl,_,_,rfl,_,_,rfl,_,_,rfl,rfl,v⟩
  refine⟨_,U.ti,?_⟩;refine bA T3 (λt=>decide (t.1=k)) (λt=>T3 ("on",t.2.1,t.2.2)) (λt=>[some (.str t.1),some (.str t.2.1),some (.str t.2.2),some (.str k)]) (λI=>∃a b c,I=[a,b,c,some (.str k)]) U.ti (λt=>⟨_,_,_,rfl⟩) j [] _ ⟨_,_,_,rfl⟩ (λt _=>L t) (λt o y v=>?_) (λt o y v=>?_) (by rw[yaf];show 0+j.length<=_;lia) ?_
  ·push_cast[true_and];exact v
  ·push_cast[true_and];exact⟨sz rfl,v⟩
  refine⟨_,U.ti,?_⟩;refine bA T3 (λt=>decide (t.2.2=k)) (λt=>T3 ("back",t.2.1,t.1)) (λt=>[some (.str t.1),some (.str t.2.1),some (.str t.2.2),some (.str k)]) (λI=>∃a b c,I=[a,b,c,some (.str k)]) U.ti (λt=>⟨_,_,_,rfl⟩) j [] _ ⟨_,_,_,rfl⟩ (λt _=>L t) (λt o y v=>?_) (λt o y v=>?_) (by rw[yaf];show 0+j.length<=_;lia) ?_
  ·push_cast[true_and];exact v
  ·push_cast[true_and];exact⟨sz rfl,v⟩
  rw[zbM,zbM];have l1:=zay (λt=>decide (t.1=k)) j;have l2:=zay (λt=>decide (t.2.2=k)) j;have s1:∀t∈j.filter (λt=>decide (t.1=k)),iH t=true:=λt o=>x.vX t (zbD.mp o).1;have Z:∀t∈j.filter (λt=>decide (t.2.2=k)),iH t=true:=λt o=>x.vX t (zbD.mp o).1;have eq:(j.filter λt=>decide (t.1=k)).map (λt=>T3 ("on",t.2.1,t.2.2))++(j.filter λt=>decide (t.2.2=k)).map (λt=>T3 ("back",t.2.1,t.1))=(eG j k).map T3:=by
   delta eG;rw[zbK,zcn,zcn];rfl
  refine⟨by rw[zbF,zbF,yaf];exact zcp (Nat.add_le_add l1 l2) (by lia),_,(eG j k).map T3,true,rfl,.inl (by rw[eq];rfl),(fX ?_).to,?_,λks' hp O=>?_⟩
  ·intro t o;obtain o|o:=zbE.mp o
   ·let⟨u,O,rfl⟩:=zcm.mp o;have:=s1 u O;unfold iH at this⊢;rw[zbB,zbB] at this⊢;exact⟨⟨show dO "on"=true by rfl,this.1.2⟩,this.2⟩
   ·let⟨u,O,rfl⟩:=zcm.mp o;have:=Z u O;unfold iH at this⊢;rw[zbB,zbB] at this⊢;exact⟨⟨show dO "back"=true by rfl,this.1.2⟩,this.1.1⟩
  ·delta eG;rw[zbF,zaP,zbF,zbF];lia
  ·let⟨Y,W,rfl⟩:=D7 hp;exact q Y W
open PySem PySem.Spec L2 M M6 PyProof.Rows
noncomputable abbrev Cj:List Str:=["steps","found","step","word"]
noncomputable abbrev lM:=Cj.take 1
def tP:ak Cj lM (ah (top 18)):=L2.bZ
abbrev Pr:=(Str×Str)×Ti
abbrev En:=(Str×Str)×List Ti
noncomputable def K2(k:Str×Str):D:=.tup [.str k.1,.str k.2]
def oZ(k):py (K2 k)=.tuple [.str k.1,.str k.2]:=by rfl
def o6(h:py (K2 d)=py (K2 g)):d=g:=by
 let⟨o,j⟩:=d;simp only[oZ] at h;simp_all
def good2(h1:dO k.1=true)(h2:dO k.2=true):cD (K2 k):=by
 refine⟨by rfl,?_,?_,_,rfl⟩
 ·rw[oZ];simp[cG,d7,PyData.canLay0,iI h1,iI h2]
 ·rw[oZ];simp[PyData.depth,PyData.depthAll]
noncomputable abbrev vH(W:yak)(ks vs:List D):MO:=hO W none (ks.zip vs)
def jX{ks vs:List D}(h:∀k∈ks,cD k):cy (ks.zip vs):=λ_ a=>h _ (zbI a).1
def JA(h:kT (d.zip g) k=none)(a:d.length=g.length):gc (d.zip g) k q=(d++[k]).zip (g++[q]):=by
 have:nD (d.zip g) k=false:=by
  delta kT at h;delta nD;simpa using h
 delta gc;rw[this,List.zip_append a];rfl
theorem o8:∀{es:List (D×D)},(∀e∈es,b7 e.1=true/\b7 e.2=true)->bX (inter es)=true
 |[],_=>rfl
 |e::es,h=>by
  let⟨h1,h2⟩:=h e (by simp);have a:=o8 λe j=>h e (zaC _ j);unfold inter;simp only[bX,h1,h2,a,zci]
noncomputable def nB(ps:List Pr)(k:Str×Str):List Ti:=(ps.filter λp=>decide (p.1=k)).map (·.2)
def i9(ps:List Pr)(k a:Str×Str)(j:Ti):nB (ps++[(k,j)]) a=nB ps a++if k=a then [j] else []:=by
 delta nB
 grind
noncomputable def locs(b:Nat):Nat->List D
 |0=>[]
 |n+1=>.loc b::locs (b+1) n
theorem wG:∀(n b),(locs b n).length=n
 |0,_=>rfl
 |n+1,b=>by rw[locs,zby,wG n]
theorem sf:∀(n b),locs b (n+1)=locs b n++[.loc (b+n)]
 |0,b=>rfl
 |n+1,b=>by
  show .loc b::locs (b+1) (n+1)=_;rw[sf n (b+1)];show _=.loc b::(locs (b+1) n++_);lia
theorem Hg:∀(es:List En)(b)(k),(k ∉ es.map (·.1)->sC (es.map λe=>K2 e.1) (locs b es.length) (K2 k)=none)/\(k∈es.map (·.1)->∃(i:Nat)(e:En),es[i]? =some e/\e.1=k/\sC (es.map λe=>K2 e.1) (locs b es.length) (K2 k)=some (.loc (b+i)))
 |[],b,k=>⟨λ_=>rfl,λh=>by simp at h⟩
 |e::es,b,k=>by
  let⟨h1,h2⟩:=Hg es (b+1) k;unfold sC at h1 h2⊢;rw[zby,locs,show(List.map (λe=>K2 e.1) (e::es))=K2 e.1::es.map λe=>K2 e.1 from rfl,zaR,zbO];by_cases h:e.1=k
  ·rw[yDt (show py (K2 e.1)=py (K2 k) by rw[h])];exact⟨λz=>absurd (by grind) z,λ_=>⟨0,e,rfl,h,rfl⟩⟩
  ·rw[yDf (λz=>h (o6 z))];refine⟨λz=>h1 λy=>z (by simp_all),λz=>?_⟩;rw[zcf,zcd] at z;let⟨i,o,q,j,a⟩:=h2 (z.resolve_left λy=>h y.symm);refine⟨i+1,o,by simp_all,j,by rw[a];congr 2;lia⟩
structure DY(ps:List Pr)(es:List En):Prop where
 nd:(es.map (·.1)).Nodup
 is:∀e∈es,e.2=nB ps e.1
 all:∀k,nB ps k≠[]->k∈es.map (·.1)
 ok:∀e∈es,dO e.1.1=true/\dO e.1.2=true
 len:es.length<=ps.length
def DY.new(h:DY d g){j:Ti}(s:k ∉ g.map (·.1))(h1:dO k.1=true)(h2:dO k.2=true):DY (d++[(k,j)]) (g++[(k,[j])]):=by
 have E:nB d k=[]:=by
  cases z:nB d k with
  |nil=>rfl
  |cons a r=>exact absurd (h.all k (by simp_all)) s
 refine⟨?_,λe o=>?_,λu q=>?_,λe o=>?_,by simp;exact h.len⟩
 ·rw[zbK,zbh];refine⟨h.nd,by simp,λx v y C e=>s ((show x=k by simp_all)▸v)⟩
 ·rw[i9];obtain o|o:=zbE.mp o
  ·rw[yIn (λz=>s (by simp_all)),zbG];exact h.is e o
  simp_all
 ·rw[i9] at q;rw[zbK,zbE];by_cases z:k=u
  ·simp[z]
  ·rw[yIn z,zbG] at q;exact .inl (h.all u q)
 ·obtain o|o:=zbE.mp o
  ·exact h.ok e o
  simp_all
def DY.old(h:DY d g){j:Ti}(E:g[i]? =some k):DY (d++[(k.1,j)]) (g.set i (k.1,k.2++[j])):=by
 have hl  :=(zaf.mp E).1;have v:(g.set i (k.1,k.2++[j])).map (·.1)=g.map (·.1):=by
  rw[List.map_set];refine zbz (by simp) λn h1 h2=>?_;rw[List.getElem_set];split
  ·simp_all
  ·rfl
 refine⟨by rw[v];exact h.nd,λx o=>?_,λu a=>?_,λx o=>?_,by simp;have:=h.len;lia⟩
 ·rw[i9];obtain⟨n,C,rfl⟩:=zaI o;rw[List.getElem_set];split
  ·rw[yIp rfl,<-h.is k (by grind)]
  ·next z=>
   rw[zbL] at C;have s:k.1≠g[n].1:=λy=>by
    have:=(zaj.mp h.nd)
    obtain q|q:=Nat.lt_or_gt_of_ne z
    ·exact this i n (by simp_all) (by simp_all) q (by simp_all)
    ·exact this n i (by simp_all) (by simp_all) q (by simp_all)
   rw[yIn s,zbG];exact h.is _ (zbv _)
 ·rw[v];rw[i9] at a;by_cases z:k.1=u
  ·grind
  ·rw[yIn z,zbG] at a;exact h.all u a
 ·obtain o|rfl:=List.mem_or_eq_of_mem_set o
  ·exact h.ok x o
  ·exact h.ok k (by grind)
noncomputable def Qw(es:List En):List (Option MO):=es.map λe=>some (.lst (e.2.map T3))
noncomputable def tu(W:yak)(S:aq)(es:List En):aq:=S++some (vH W (es.map λe=>K2 e.1) (locs (S.length+1) es.length))::Qw es
def Jg:(tu W S d)[S.length]? =some (some (vH W (d.map λe=>K2 e.1) (locs (S.length+1) d.length))):=by
 delta tu;simp
def u5(h:d[i]? =some g):(tu W S d)[S.length+1+i]? =some (some (.lst (g.2.map T3))):=by
 delta tu Qw;rw[zac (by lia),show S.length+1+i - S.length=i+1 by lia,zaq,zbb,h];rfl
def Cn(h:d[i]? =some g):(tu W S d).set (S.length+1+i) (some (.lst (k.map T3)))=tu W S (d.set i (g.1,k)):=by
 have a:(d.set i (g.1,k)).map (λg=>K2 g.1)=d.map λg=>K2 g.1:=by
  rw[List.map_set];refine zbz (by simp) λn h1 h2=>?_;rw[List.getElem_set];split
  ·simp_all
  ·rfl
 delta tu Qw;rw[a,zbL,List.map_set,zaz _ _ (by lia),show S.length+1+i - S.length=i+1 by lia];rfl
def MG:zcG (tu W S d++[some (MO.lst [])]) S.length (some (vH W ((d.map λe:En=>K2 e.1)++[K2 k]) (locs (S.length+1) d.length++[D.loc (tu W S d).length])))=tu W S (d++[(k,[])]):=by
 have a:(tu W S d).length=S.length+1+d.length:=by delta tu Qw;simp;lia
 rw[a,<-sf];delta tu Qw;simp
def J5(m:Nat)(d:D)(L:List (List D)):(L.map D.lst).map (sb m d)=L.map D.lst:=by rw[zcn];rfl
theorem AB:∀(n b),g<b->(locs b n).map (sb g d)=locs b n
 |0,_,_=>rfl
 |n+1,b,h=>by
  show(if b=g then d else .loc b)::(locs (b+1) n).map (sb g d)=_;rw[yIn (by lia),AB n (b+1) (by lia)];rfl
noncomputable def Jz(W:yak)(S:aq)(ks:List D)(a r:List (List D)):aq:=S++some (vH W ks (a.map D.lst++locs (S.length+1+a.length) r.length))::(a.map (λ_=>none)++r.map λl=>some (MO.lst l))
theorem Hj{W:yak}{S:aq}{ks:List D}:∀(r a:List (List D)),Ac W S.length (ks.zip (a.map D.lst++locs (S.length+1+a.length) r.length)) (Jz W S ks a r) (ks.zip ((a++r).map D.lst)) (Jz W S ks (a++r) [])
 |[],a=>by
  have:a.map D.lst++locs (S.length+1+a.length) ([]:List (List D)).length=(a++[]).map D.lst:=by simp[locs]
  rw[this,zbG];exact .nil
 |l::r,a=>by
  have j:=Hj (W:=W) (S:=S) (ks:=ks) r (a++[l]);refine .step (m:=S.length+1+a.length) (l:=l) ?_ (by lia) ?_
  ·delta Jz;rw[zac (by lia),show S.length+1+a.length - S.length=a.length+1 by lia];simp
  ·have q:(a.map D.lst++locs (S.length+1+a.length) (l::r).length).map (sb (S.length+1+a.length) (.lst l))=(a++[l]).map D.lst++locs (S.length+1+(a++[l]).length) r.length:=by
    rw[zbK,J5];show _++(if S.length+1+a.length=S.length+1+a.length then D.lst l else .loc (S.length+1+a.length))::(locs (S.length+1+a.length+1) r.length).map _=_;rw[yIp rfl,AB _ _ (by simp),zbK,zaP,zbd];rfl
   have s:∀vs,((ks.zip vs).map λe=>(e.1,sb (S.length+1+a.length) (.lst l) e.2))=ks.zip (vs.map (sb (S.length+1+a.length) (.lst l))):=λvs=>by rw[List.zip_map_right];rfl
   rw[s,q];have o:((Jz W S ks a (l::r)).set (S.length+1+a.length) none).set S.length (some (vH W ks ((a++[l]).map D.lst++locs (S.length+1+(a++[l]).length) r.length)))=Jz W S ks (a++[l]) r:=by
    delta Jz;rw[zaz _ _ (by lia),show S.length+1+a.length - S.length=a.length+1 by lia];simp
   rw[o];rw[show a++l::r=(a++[l])++r by simp];exact j
def Vc:tu W S d=Jz W S (d.map λe=>K2 e.1) [] (d.map λe=>e.2.map T3):=by
 delta tu Jz Qw;simp
def Lb(h:δ[i]? =some (some (.loc n)))(o:S[n]? =some (some (hO W none d)))(j:Ac W n d S es' g)(q:k (.dat (.loc n)) g):Od W (fy i) δ S k:=⟨_,h,n,d,es',g,rfl,o,j,q⟩
theorem wZ:∀(es:List En)(f)(k),sC (es.map λe=>K2 e.1) (es.map f) (K2 k)=(es.find? λe=>decide (e.1=k)).map f
 |[],_,_=>rfl
 |e::es,f,k=>by
  have a:=wZ es f k;unfold sC at a⊢;rw[zcf,zcf,zaR,zbO,zbO];by_cases h:e.1=k
  ·simp_all
  ·rw[yDf h,yDf (λz=>h (o6 z))];exact a
noncomputable def dB(a:List Ti):List Pr:=(a.map λj=>[((j.1,j.2.1),j),((j.1,("*":Str)),j)]).flatten
noncomputable def sel(a:List Ti)(sd x:Str):List Ti:=a.filter λj=>decide (j.1=sd)&&(decide (j.2.1=x)||decide (x="*"))
theorem ES{sd x:Str}:∀{a:List Ti},(∀j∈a,j.2.1≠"*")->nB (dB a) (sd,x)=sel a sd x
 |[],_=>rfl
 |j::a,h=>by
  have o:=ES (sd:=sd) (x:=x) λi q=>h i (zaC _ q);unfold nB sel dB at o⊢
  grind
def GR(g:DY (dB d) k)(hw:∀j∈d,j.2.1≠"*")(sd x):(sC (k.map λe=>K2 e.1) (k.map λe=>.lst (e.2.map T3)) (K2 (sd,x))).getD (.lst [])=.lst ((sel d sd x).map T3):=by
 rw[wZ,<-ES hw];cases z:k.find? λe=>decide (e.1=(sd,x)) with
 |some e=>
  have h1:=List.mem_of_find?_eq_some z;have h2  :=by simpa using List.find?_some z
  show D.lst (e.2.map T3)=_;rw[g.is e h1,h2]
 |none=>
  have s:nB (dB d) (sd,x)=[]:=by
   cases y:nB (dB d) (sd,x) with
   |nil=>rfl
   |cons a r=>
    let⟨e,q,u⟩:=zcm.mp (g.all (sd,x) (by simp_all))
    grind
  simp_all
def EL(W:yak):AN:=λq S Q=>∃a:List Ti,q=[.lst (a.map T3)]/\a.length<=60/\(∀j∈a,iH j=true)/\∀o,DY (dB a) o->Q (.new (vH W (o.map λe=>K2 e.1) (o.map λe=>.lst (e.2.map T3)))) S
def Rh(T:Txt K mg C fi G gi)(F:Src K mg "steps_by_kind" lM (top 18)):Def P w K mg base 1 "steps_by_kind" lM (az K (EL w)):=by
 refine eE F tP (λds S Q h=>?_) (λf cdv A outer s H E hr=>?_)
 ·let⟨v,rfl,_⟩:=h;rfl
 ·refine⟨_,(Xr (Xz 1 tP.nd (XO (Yv))) (Xr (Yc PassesOwn.never rfl (XZ (Xp 0)) (XG 2 tP.nd) (Xu (Yc PassesOwn.never rfl (XZ (XA (Xq (Xx (Xp 2)) (Xs T.P5)))) (XG 3 tP.nd) (Xu (XJ (Ye PySem.F.plainAttrs_list PySem.F.slot_list_append PySem.F.type_list_append Yq (M.F6 hr (Xp 1) (XA (Xq (Xx (Xp 2)) (Xs (Xp 3)))) (XF Xw) ⟨rfl,rfl,rfl,rfl⟩) (Xs (Xp 2)))))))) (Xu (XC (M.Wo (W:=w) (Xp 1)))))),λds S Q h=>?_⟩;let⟨v,rfl,hu,hok,q⟩:=h;have e0:aO Cj [.lst (v.map T3)]=[some (.lst (v.map T3)),none,none,none]:=rfl;rw[e0];push_cast[bx,sY,gV,gQ,fQ,uX,ou];have one:∀o X j x Q',DY X o->X.length<=200->iH j=true->dO x=true->
    (∀es',DY (X++[((j.1,x),j)]) es'->Q' (.dat .bB) (tu w S es'))->
    ou "list" k9 (uX w (fy 1) (L4 (iR (Jv xU (fy 2) (aC (D.int 0))) (iR (fy 3) gu))) (qv gu)) (iR (fy 2) gu) [some (.lst (v.map T3)),some (.loc S.length),some (T3 j),some (.str x)] (tu w S o) Q':=λo X j x Q' g hl hj hx q'=>by
   have o3:=nW hj;have gl:=g.len;push_cast[ou,uX,L8,aG,dF];have Z:∀k∈o.map (λe=>K2 e.1),cD k:=λk hk=>by
    let⟨e,U,rfl⟩:=zcm.mp hk;exact good2 (g.ok e U).1 (g.ok e U).2
   have Y:(o.map λe=>K2 e.1).length=(locs (S.length+1) o.length).length:=by rw[zbF,wG]
   let⟨g1,g2⟩:=Hg o (S.length+1) (j.1,x);refine⟨S.length,rfl,none,_,Jg,jX Z,sz rfl,zcB _,_,.lst [],rfl,Jg,good2 (k:=(j.1,x)) o3.1 hx,jX Z,by rw[List.length_zip,zbF];grind,λd hd=>?_,λhn=>?_⟩
   ·by_cases u:(j.1,x)∈o.map (·.1)
    ·let⟨i,e,O,i2,i3⟩:=g2 u;have hd:some (D.loc (S.length+1+i))=some d:=by rw[<-i3];exact hd
     cases hd;have U  :=zaF O;have hel:e.2.length<=X.length:=by
      rw[g.is e U];delta nB;rw[zbF];exact zay ..
     rw[aA (u5 O)];refine⟨rfl,S.length+1+i,_,_,rfl,rfl,u5 O,by rw[zbF,yaf];lia,?_⟩;rw[show e.2.map T3++[T3 j]=(e.2++[j]).map T3 by simp,Cn O];refine q' _ ?_;have:=g.old (j:=j) O;rw[i2] at this;rw[i2];exact this
    ·have hd:none=some d:=by rw[<-g1 u];exact hd
     cases hd
   ·have u:(j.1,x) ∉ o.map (·.1):=λu=>by
     let⟨i,e,O,i2,i3⟩:=g2 u;have:none=some (D.loc (S.length+1+i)):=by rw[<-i3];exact hn.symm
     cases this
    have hz:(o++[((j.1,x),([]:List Ti))])[o.length]? =some ((j.1,x),[]):=by simp
    have hl2:(tu w S o).length=S.length+1+o.length:=by delta tu Qw;simp;lia
    rw[show D.tup [D.str j.1,D.str x]=K2 (j.1,x) from rfl,JA (k:=K2 (j.1,x)) hn Y,MG,hl2,aA (u5 hz)];refine⟨rfl,S.length+1+o.length,_,_,rfl,rfl,u5 hz,by show 0<yag;decide,?_⟩;rw[show(([]:List Ti).map T3++[T3 j])=[j].map T3 from rfl,Cn hz];refine q' _ ?_;have:=g.new (j:=j) u o3.1 hx;rw[show(o++[((j.1,x),([]:List Ti))]).set o.length ((j.1,x),[j])=o++[((j.1,x),[j])] by simp];exact this
  refine bE (λrest δ S'=>∃(done I:List Ti)(o:List En)(v2 v3:Option D),rest=I.map T3/\done++I=v/\δ=[some (.lst (v.map T3)),some (.loc S.length),v2,v3]/\S'=tu w S o/\DY (dB done) o) ?_ ?_ _ _ _ ⟨[],v,[],none,none,rfl,rfl,rfl,by rfl,⟨.nil,by simp,λk h=>absurd rfl h,by simp,by simp⟩⟩
  ·intro δ S' zx;let⟨done,I,o,v2,v3,e1,e2,rfl,rfl,g⟩:=zx;have:I=[]:=by simp_all
   subst this;rw[zbG] at e2;subst e2;refine⟨trivial,?_⟩;have fz:=Hj (W:=w) (S:=S) (ks:=o.map λe=>K2 e.1) (o.map λe=>e.2.map T3) [];rw[<-Vc] at fz;refine Lb rfl Jg (by simpa using fz) ?_;have e9:(o.map λe=>e.2.map T3).map D.lst=o.map λe=>D.lst (e.2.map T3):=by simp
   refine ki (zcA _) ?_ ?_ ?_ (q o g)
   ·delta Jz;simp[locs,e9]
   ·delta Jz;rw[List.take_left]
   ·refine cV _ _ (o8 λe U=>?_);let⟨h1,h2⟩:=zbI U;let⟨x,_,h1⟩:=zcm.mp h1;let⟨y,_,h2⟩:=zcm.mp h2;rw[<-h1,<-h2];exact⟨rfl,show bX (y.2.map T3)=true from cO λ_ _=>rfl⟩
  ·intro x xs δ S' N zx hN;let⟨done,I,o,v2,v3,e1,e2,rfl,rfl,g⟩:=zx;cases I with
   |nil=>simp at e1
   |cons r I=>
    injection e1 with e1 e3;subst e1;subst e3;have hr:r∈v:=by rw[<-e2];simp
    have hdl  :=by have:=congrArg zcz e2;rw[zaP] at this;omega
    push_cast[gV,gQ,fQ,aG,dY];refine⟨sz rfl,trivial,?_⟩;have L:=hok r hr;have pl:∀d,(dB d).length=2*d.length:=λd=>by
     delta dB
     induction d with
     |nil=>rfl
     |cons a b ih=>rw[zcf,List.flatten_cons,zaP,ih];simp;lia
    have pa:dB (done++[r])=(dB done++[((r.1,r.2.1),r)])++[((r.1,("*":Str)),r)]:=by delta dB;simp
    have hp:=pl done;refine one o (dB done) r r.2.1 _ g (by lia) L (nW L).2.1 λes1 g1=>⟨trivial,?_⟩
    refine one es1 _ r "*" _ g1 (by rw[zaP];show _+1<=200;lia) L (by rfl) λes2 g2=>⟨trivial,?_⟩
    exact hN _ _ ⟨done++[r],I,es2,_,_,rfl,by simp_all,rfl,rfl,by rw[pa];exact g2⟩
open PySem PySem.Spec L2 M M6 PyProof.Rows
noncomputable abbrev Fp:Stmt:=inClass (top 17) 0
noncomputable abbrev RY:List Str:=["self","web","machine"]
noncomputable abbrev iZ:=RY
def SR:ak RY iZ (ah Fp):=L2.bZ
noncomputable abbrev Px:Stmt:=inClass (top 17) 2
noncomputable abbrev Jd:List Str:=["self","place","marks"]
noncomputable abbrev qH:=Jd.take 2
def Ng:ak Jd qH (ah Px):=L2.bZ
noncomputable abbrev Pz:Stmt:=inClass (top 17) 3
noncomputable abbrev Je:List Str:=["self","place","found","leaf","stand","steps"]
noncomputable abbrev qJ:=Je.take 2
def vA:ak Je qJ (ah Pz):=L2.bZ
noncomputable abbrev Py:Stmt:=inClass (top 17) 4
noncomputable abbrev RX:List Str:=["self","place"]
noncomputable abbrev qI:=RX
def SQ:ak RX qI (ah Py):=L2.bZ
def bM(h:∀N:aV->aq->Prop,(∀j q,g k j q->N j q)->d {k with nx:=N} δ S):uS d g k δ S:=h _ λ_ _ z=>z
noncomputable abbrev gl:List Str:=["near","marked","paths"]
noncomputable def Qx(p:Str×List Str):D:=.lst (p.2.map D.str)
noncomputable def Vu(p:Str×Nat):D:=.loc p.2
def IL(W:yak)(S:aq)(ts:List Ti)(p:Str×Nat):Prop:=∃a o,S[p.2]? =some (some (vH W (o.map λe:En=>K2 e.1) (o.map λe=>.lst (e.2.map T3))))/\DY (dB a) o/\a.Nodup/\∀j,j∈a↔stp ts p.1 j
structure Ji(G:Addr)(W:yak)(S:aq)(g a b c:Nat)(n:Nat)(mv:List Mv)(kr:List Kn)(ts:List Ti)(l1:List (Str×List Str))(l2:List (Str×Nat)):Prop where
 at_:S[g]? =some (some (.ins G gl [.loc a,.loc b,.loc c]))
 ne:S[a]? =some (some (m8 n mv))
 mr:S[b]? =some (some (.dct (dM l1) (l1.map Qx)))
 pt:S[c]? =some (some (.dct (dM l2) (l2.map Vu)))
 k1:(l1.map (·.1)).Perm (nms kr)
 k2:(l2.map (·.1)).Perm (nms kr)
 v1:∀p∈l1,∃k∈kr,k.1=p.1/\p.2.Perm k.2
 v2:∀p∈l2,IL W S ts p
def rA(G:Addr)(W:yak)(S:aq)(g n:Nat)(j:List Mv)(s:List Kn)(ts:List Ti):Prop:=∃a b c q o,Ji G W S g a b c n j s ts q o
def EN(C G:Addr)(W:yak):AN:=λv S Q=>∃g q own s o n b u a,v=[.loc g,.loc q,mD n b u a]/\S.length=g+1/\S[g]? =some (some (.ins G [] []))/\bz C W S q own s o/\g ∉ own/\o.length<30/\n<=60/\(∀m∈a,yc n m)/\a.length<=60/\
 ∀j,rA G W j g n a s o->(∀k,k<g->j[k]? =S[k]?)->g<j.length->Q (.dat .bB) j
def UR(T:Txt K mg C fi G gi)(F:DZ K "__init__" "Ground.__init__" Fp f fd)(o:Def P w K mg base 2 "moves_near" lG (az K EF))(a:Def P w K mg base 1 "steps_by_kind" lM (az K (EL w)))(I:bV P w K mg base 1 C "knots" mL (Ey C w))(lP:bV P w K mg base 2 C "marks" qA (MW C w))(W:bV P w K mg base 2 C "steps" qz (MV C w)):cY P w K mg base lQ 3 f fd iZ (az K (EN C G w)):=by
 refine V8 F SR (λds S Q h=>?_) (λf cdv A outer s H E hr=>?_)
 ·let⟨g,X,own,O,Z,n,b,es,mv,rfl,_⟩:=h;rfl
 ·refine⟨_,(Xr (YH (Xp 0) (XO (XQ o hr (Xs (Xp 2)))) T.clG T.n_nearG) (Xr (YH (Xp 0) (XO (Yg (M.kI hr) (by rfl) T.dict (by rfl) (Xq (Yj (caps:=[none,some 1]) (c9 (by rfl)) (by rfl) (by rfl) rfl (XZ (M.iG (Xp 1) T.cl I (hr.mono (by decide)))) (λ_ _ _ _=>(X6 (i:=0) (by decide+kernel:List.Nodup (["knot","web"]:List Str)) rfl (Or.inl rfl))) (λ_ _ _ _=>Yn) (λ_ _ _ _=>(XA (Xq (Xp 0) (Xq (X9 (Xp 1) T.cl lP (hr.mono (by decide)) (Xs (Xp 0))) Xw))))) Xw))) T.clG T.n_markedG) (Xu (YH (Xp 0) (XO (Yg (M.kI hr) (by rfl) T.dict (by rfl) (Xq (Yj (caps:=[none,some 1]) (c9 (by decide+kernel)) (by rfl) (by rfl) rfl (XZ (M.iG (Xp 1) T.cl I (hr.mono (by decide)))) (λ_ _ _ _=>(X6 (i:=0) (by decide+kernel:List.Nodup (["knot","web"]:List Str)) rfl (Or.inl rfl))) (λ_ _ _ _=>Yn) (λ_ _ _ _=>(XA (Xq (Xp 0) (Xq (XO (XQ a hr (Xq (X9 (Xp 1) T.cl W (hr.mono (by decide)) (Xs (Xp 0))) Xw))) Xw))))) Xw))) T.clG T.n_pathsG)))),λds S Q h=>?_⟩;let⟨g,X,own,O,Z,n,b,es,mv,rfl,hl,hg,X0,hgo,htl,hn,hmv,hml,q⟩:=h;let⟨m0,t0,ee0,cs0,_,hk0,XI⟩:=id X0;have hkn:(nms O).Nodup:=by rw[<-hk0,eB];exact XI.kn
  have hkl:O.length<64:=by rw[<-hk0,zbF];exact XI.kb
  refine uA rfl hg (by decide) (λQ' q'=>⟨_,rfl,n,b,es,mv,rfl,hn,hmv,hml,q'⟩) rfl ?_;generalize e1:(S++[some (m8 n mv)]).set g _=S1;have l1:S1.length=g+2:=by rw[<-e1];simp;lia
  have a1:S1[g]? =some (some (.ins G ["near"] [.loc S.length])):=by rw[<-e1];exact bR (aM hg)
  have b1:S1[S.length]? =some (some (m8 n mv)):=by rw[<-e1,au (by lia)];exact aL
  have X1:bz C w S1 X own O Z:=X0.frame λc hc=>by
   rw[<-e1,au (show c≠g from λz=>hgo (z▸hc)),aS (X0.lt c hc)]
  have k1:∀k,k<g->S1[k]? =S[k]?:=λk hk=>by rw[<-e1,au (by lia),aS (by lia)]
  rw[hl] at a1 b1;have hol:∀c∈own,c<g:=λc hc=>by
   have h1:=X0.lt c hc;have h2:c≠g:=λz=>hgo (z▸hc);lia
  dsimp only;refine bM λN0 hN0=>?_;let⟨m1,t1,ee1,cs1,_,_,XI1⟩:=id X1;delta AF bx aCall iR gu;refine BS (qo (br rfl XI1.at_ (by decide+kernel) ⟨X,own,O,Z,rfl,X1,λss hss=>?_⟩));have hsn  :=hss.nodup_iff.mpr hkn;have hsl:ss.length<64:=by rw[hss.length_eq,zbF];exact hkl
  refine kY (λrest L δ S'=>∃(l rs:List (Str×List Str))(u:List Str)(v:Option D),rest=u.map D.str/\l.map (·.1)++u=ss/\L=l.map (λp=>.tup [.str p.1,Qx p])/\δ=[v,some (.loc X)]/\S1=S'/\∀p∈l,∃k∈O,k.1=p.1/\p.2.Perm k.2) ?_ ?_ _ _ _ _ ⟨[],[],ss,none,rfl,rfl,rfl,rfl,rfl,by simp⟩
  ·intro L δ S' V;let⟨lm,_,u,v,r1,r2,rfl,rfl,rfl,hlm⟩:=V;have:u=[]:=by simp_all
   subst this;rw[zbG] at r2;have hln:(lm.map (·.1)).Nodup:=by rw[r2];exact hsn
   refine⟨trivial,_,lm.map (λp=>((.inr p.1:Key),Qx p)),rfl,?_,?_,?_⟩
   ·simp only[zcn];rfl
   ·have:=congrArg zcz r2;rw[zbF] at this⊢;lia
   ·rw[GQ hln];refine⟨_,rfl,g,_,_,rfl,aM a1,by decide,?_⟩;generalize e2:zcG (S1++[some (MO.dct (dM lm) (lm.map Qx))]) g _=S2;have l2:S2.length=g+3:=by rw[<-e2];simp;lia
    have a2:S2[g]? =some (some (.ins G ["near","marked"] [.loc (g+1),.loc S1.length])):=by rw[<-e2];exact bR (aM a1)
    have b2:S2[g+1]? =some (some (m8 n mv)):=by rw[<-e2,au (by lia)];exact aM b1
    have c2:S2[S1.length]? =some (some (.dct (dM lm) (lm.map Qx))):=by rw[<-e2,au (by lia)];exact aL
    have X2:bz C w S2 X own O Z:=X1.frame λc hc=>by
     have:=hol c hc;rw[<-e2,au (by lia),aS (by lia)]
    have k2:∀k,k<g->S2[k]? =S[k]?:=λk hk=>by rw[<-e2,au (by lia),aS (by lia)];exact k1 k hk
    rw[l1] at a2 c2;let⟨m2,t2,ee2,cs2,_,_,XI2⟩:=id X2;refine hN0 _ _ ?_;delta AF bx aCall iR gu;refine BS (qo (br rfl XI2.at_ (by decide+kernel) ⟨X,own,O,Z,rfl,X2,λs2 hs2=>?_⟩));have Wi  :=hs2.nodup_iff.mpr hkn;have ab:s2.length<64:=by rw[hs2.length_eq,zbF];exact hkl
    refine kY (λrest L δ S'=>∃(l:List (Str×Nat))(u:List Str)(v:Option D)(Y:aq),rest=u.map D.str/\l.map (·.1)++u=s2/\L=l.map (λp=>.tup [.str p.1,Vu p])/\δ=[v,some (.loc X)]/\S'=S2++Y/\∀p∈l,IL w S' Z p) ?_ ?_ _ _ _ _ ⟨[],s2,none,[],rfl,rfl,rfl,rfl,by simp,by simp⟩
    ·intro L δ S' V;let⟨lp,u,v,Y,q1,q2,rfl,rfl,rfl,hlp⟩:=V;have:u=[]:=by cases u with|nil=>rfl|cons _ _=>simp at q1
     subst this;rw[zbG] at q2;have Wm:(lp.map (·.1)).Nodup:=by rw[q2];exact Wi
     refine⟨trivial,_,lp.map (λp=>((.inr p.1:Key),Vu p)),rfl,?_,?_,?_⟩
     ·simp only[zcn];rfl
     ·have:=congrArg zcz q2;rw[zbF] at this⊢;lia
     ·rw[GQ Wm];refine⟨_,rfl,g,_,_,rfl,aM (aM a2),by decide,?_⟩;generalize e3:zcG (S2++Y++[some (MO.dct (dM lp) (lp.map Vu))]) g _=S3;have hlY:(S2++Y).length=g+3+Y.length:=by rw[zaP,l2]
      have old:∀k,k≠g->k<(S2++Y).length->S3[k]? =(S2++Y)[k]?:=λk h1 h2=>by rw[<-e3,au h1,aS h2]
      refine q S3 ⟨g+1,g+2,(S2++Y).length,lm,lp,?_,?_,?_,?_,by rw[r2];exact hss,by rw[q2];exact hs2,hlm,λp U=>?_⟩ (λk hk=>?_) ?_
      ·rw[<-e3];exact bR (aM (aM a2))
      ·rw[old _ (by lia) (by lia)];exact aM b2
      ·rw[old _ (by lia) (by lia)];exact aM c2
      ·rw[<-e3,au (by lia)];exact aL
      ·let⟨us,es,z1,z2⟩:=hlp p U;refine⟨us,es,?_,z2⟩;rw[old _ (λz=>?_) (cu z1)]
       ·exact z1
       ·rw[z,aM a2] at z1;simp[hO] at z1
      ·rw[old _ (by lia) (by lia),aS (by lia)];exact k2 k hk
      ·rw[<-e3,zbL,zaP];lia
    ·intro x xs L δ S' N V hN;let⟨lp,u,v,Y,q1,q2,rfl,rfl,rfl,hlp⟩:=V;cases u with
     |nil=>simp at q1
     |cons y u=>
      injection q1 with q1 q3;subst q1;subst q3;have hy:y∈nms O:=hs2.mem_iff.mp (by grind);have XY:bz C w (S2++Y) X own O Z:=X2.frame λc hc=>aS (X2.lt c hc);let⟨m3,t3,ee3,cs3,_,_,XI3⟩:=id XY;refine⟨trivial,?_⟩;refine⟨_,rfl,br rfl XI3.at_ (by decide+kernel) ⟨_,rfl,X,own,O,Z,y,rfl,XY,hy,by lia,λus hu1 hu2 hu3=>?_⟩⟩;refine⟨us,rfl,by have:=j8 hu1 λj hj=>(hu2 j).mp hj;lia,hu3,λes hes=>?_⟩;refine⟨sz rfl,?_,?_⟩
      ·have:=congrArg zcz q2;rw[zaP,zbF] at this;rw[zbF,yaf];lia
      ·refine hN _ _ _ ⟨lp++[(y,(S2++Y).length)],u,_,Y++[some _],rfl,by rw[<-q2];simp,by rw[zbK];rfl,rfl,by rw[zbd],λp U=>?_⟩;obtain U|U:=zbE.mp U
       ·let⟨us',es',z1,z2⟩:=hlp p U;refine⟨us',es',aM z1,z2⟩
       ·obtain rfl:p=(y,(S2++Y).length):=by grind
        refine⟨us,es,aL,hes,hu1,hu2⟩
  ·intro x xs L δ S' N V hN;let⟨lm,_,u,v,r1,r2,rfl,rfl,rfl,hlm⟩:=V;cases u with
   |nil=>simp at r1
   |cons y u=>
    injection r1 with r1 r3;subst r1;subst r3;have hy:y∈nms O:=hss.mem_iff.mp (by grind);let⟨k,hk,rfl⟩:=zcm.mp hy;refine⟨trivial,?_⟩;refine⟨_,rfl,br rfl XI1.at_ (by decide+kernel) ⟨_,rfl,X,own,O,Z,k,rfl,X1,hk,λms hms=>?_⟩⟩;refine⟨sz rfl,?_,?_⟩
    ·have:=congrArg zcz r2;rw[zaP,zbF] at this;rw[zbF,yaf];lia
    ·refine hN _ _ _ ⟨lm++[(k.1,ms)],[],u,_,rfl,by simp_all,by rw[zbK];rfl,rfl,rfl,λp U=>?_⟩;obtain U|U:=zbE.mp U
     ·exact hlm p U
     ·obtain rfl:p=(k.1,ms):=by simpa using U
      refine⟨k,hk,rfl,hms⟩
open PySem PySem.Spec L2 M M6 PyProof.Rows
noncomputable def PD(p:Str×Int):D:=.tup [.str p.1,.int p.2]
section
variable {W:yak}{g a b c:Nat}{mv:List Mv}{kr:List Kn}{ts:List Ti}{l1:List (Str×List Str)}{l2:List (Str×Nat)}
def NL(X:Ji G W S g a b c n mv kr ts l1 l2)(j:δ[i]? =some (some (.loc g)))(q:d (.dat (.loc a)) S):zW G (fy i) "near" δ S d:=⟨_,j,g,_,_,_,rfl,X.at_,rfl,q⟩
def Um(X:Ji G W S g a b c n mv kr ts l1 l2)(j:δ[i]? =some (some (.loc g)))(q:d (.dat (.loc b)) S):zW G (fy i) "marked" δ S d:=⟨_,j,g,_,_,_,rfl,X.at_,rfl,q⟩
def Uk(X:Ji G W S g a b c n mv kr ts l1 l2)(j:δ[i]? =some (some (.loc g)))(q:d (.dat (.loc c)) S):zW G (fy i) "paths" δ S d:=⟨_,j,g,_,_,_,rfl,X.at_,rfl,q⟩
end
def Led(q:List Kn)(ts:List Ti)(o:List Mv)(x:Str)(s:Nat)(p:Str×Nat):Prop:=∃m∈o,m.1=s/\m.2.2=p.2/\((p.1=x/\∃k∈q,k.1=x/\hold m.2.1 k.2=true)∨∃a wd j,m.2.1=.step a wd/\stp ts x j/\j.1=side a/\(j.2.1=wd∨wd="*")/\p.1=j.2.2)
def Na(G:Addr)(W:yak):AN:=λq S Q=>∃g n a j o x s k,q=[.loc g,PD (x,(s:Nat))]/\rA G W S g n a j o/\s<n/\(nms j).Nodup/\k∈j/\k.1=x/\texts k.2/\(∀m∈a,yc n m)/\a.length<=60/\Q (.new (.lst (((a.filter λm=>decide (m.1=s)).filter λm=>hold m.2.1 k.2).map λm=>.tup [PD (x,(m.2.2:Nat)),.bB]))) S
def UP(T:Txt K mg C fi G gi)(F:gW K G "led_without_step" "Ground.led_without_step" qH Px)(j:Def P w K mg base 1 "holds" iY (az K Av)):bV P w K mg base 2 G "led_without_step" qH (Na G w):=by
 refine fq F Ng (λds S Q h=>?_) (λf cdv A outer s H E U=>?_)
 ·let⟨g,n,I,kr,ts,x,s,k,rfl,_⟩:=h;rfl
 ·refine⟨_,(Xr (Xz 2 Ng.nd (Yd (bU U) (X8 (Xp 0) T.clG T.n_markedG) (Xx (Xp 1)) (λ_ _=>rfl))) (Xu (XC (Yj (caps:=[none,none,some 1,some 2]) (c9 (by decide+kernel)) (by rfl) (by rfl) rfl (XZ (Yd (bU U) (X8 (Xp 0) T.clG T.n_nearG) (Xx (Xp 1)) (λ_ _=>rfl))) (λ_ _ _ _=>(Yl (n:=2) rfl (XM (X6 (i:=0) (by decide+kernel:List.Nodup (["leaf","stand","place","marks"]:List Str)) rfl (Or.inl rfl)) (XM (X6 (i:=1) (by decide+kernel:List.Nodup (["leaf","stand","place","marks"]:List Str)) rfl (Or.inl rfl)) Yk)))) (λ_ _ _ _=>(YB (Yr (XQ j U (Xq (Xp 0) (Xs (Xp 3))))))) (λ_ _ _ _=>(XA (Xq (XA (Xq (Xx (Xp 2)) (Xs (Xp 1)))) (Xs M.l8)))))))),λds S Q h=>?_⟩;let⟨g,n,I,kr,ts,x,s,k,rfl,⟨a,b,c,l1,l2,X⟩,hs,hkn,hk,hkx,u,Y,hml,q⟩:=h;have e0:aO Jd [.loc g,PD (x,s)]=[some (.loc g),some (PD (x,s)),none]:=rfl;rw[e0];push_cast[PD,aG,dF,dY,dG];have hx1  :=X.k1.mem_iff.mpr (zcm.mpr ⟨k,hk,hkx⟩);obtain⟨p,hp,hpx,W⟩:=ur hx1;let⟨L,hk',e1,v⟩:=X.v1 p hp;obtain rfl:L=k:=pP hkn hk' hk (by simp_all);have hh:∀l,hold l p.2=hold l L.2:=λl=>by
   cases l with
   |mk b m=>
    simp only[hold]
    grind
   |_=>rfl
  have ht:texts p.2:=⟨by rw[v.length_eq];exact u.1,λy hy=>u.2 y (v.mem_iff.mp hy)⟩
  refine Um X rfl ⟨_,_,aA X.mr,_,rfl,_,W,?_⟩;push_cast[dh,gQ,dG,aG,dF,dY];refine NL X rfl ⟨_,_,aA X.ne,_,rfl,_,uH hs,?_⟩;refine bA pD (λm=>hold m.2.1 p.2) (λm=>.tup [PD (x,(m.2.2:Nat)),.bB]) (λm=>[some (lD m.2.1),some (.int (m.2.2:Nat)),some (PD (x,s)),some (Qx p)])
   (λδ=>∃v0 v1,δ=[v0,v1,some (PD (x,s)),some (Qx p)]) trivial (λm=>⟨_,_,rfl⟩) (I.filter λm=>decide (m.1=s)) [] _ ⟨none,none,rfl⟩ (λm Z δ O Q' o=>?_) (λm Z Q' o=>?_) (λm Z Q' o=>?_) ?_ ?_
  ·let⟨v0,v1,rfl⟩:=O;exact⟨_,rfl,rfl,_,_,rfl,_,_,rfl,rfl,o⟩
  ·exact⟨_,rfl,_,rfl,m.2.1,p.2,rfl,(Y m (zbD.mp Z).1).2.1,ht,_,rfl,o⟩
  ·push_cast[PD,aG,dF];exact⟨sz rfl,sz rfl,o⟩
  ·have:=zay (λm=>decide (m.1=s)) I;rw[yaf];simp;lia
  ·rw[show(λm:Mv=>hold m.2.1 p.2)=λm=>hold m.2.1 L.2 from funext λm=>hh _];exact q
noncomputable def lo1(a:List Ti)(m:Mv):List ((Str×Nat)×Ti):=match m.2.1 with
 |.step b wd=>(sel a (side b) wd).map λj=>((j.2.2,m.2.2),j)
 |_=>[]
noncomputable def Ol(a:List Ti)(j:List Mv):List ((Str×Nat)×Ti):=(j.map (lo1 a)).flatten
noncomputable def Vq(p:(Str×Nat)×Ti):D:=.tup [PD (p.1.1,(p.1.2:Nat)),T3 p.2]
def Nc(G:Addr)(W:yak):AN:=λv S Q=>∃g n o q a x s,v=[.loc g,PD (x,(s:Nat))]/\rA G W S g n o q a/\s<n/\x∈nms q/\(∀m∈o,yc n m)/\o.length<=60/\a.length<30/\(∀t∈a,t.2.1≠"*")/\∀L:List ((Str×Nat)×Ti),L.length<=3600->
 (∀p,p∈L.map (·.1)↔∃m∈o,m.1=s/\m.2.2=p.2/\∃u wd j,m.2.1=.step u wd/\stp a x j/\j.1=side u/\(j.2.1=wd∨wd="*")/\p.1=j.2.2)->Q (.new (.lst (L.map Vq))) S
def US(T:Txt K mg C fi G gi)(F:gW K G "led_by_step" "Ground.led_by_step" qJ Pz):bV P w K mg base 1 G "led_by_step" qJ (Nc G w):=by
 refine Wv F vA (λds S Q h=>?_) (λf cdv A outer s H E hr=>?_)
 ·let⟨g,n,W,kr,ts,x,s,rfl,_⟩:=h;rfl
 ·refine⟨_,(Xr (Xz 2 vA.nd (XO (XF Xw))) (Xr (Yc PassesOwn.never rfl (XZ (Yd (bU hr) (X8 (Xp 0) T.clG T.n_nearG) (Xx (Xp 1)) (λ_ _=>rfl))) (Yl rfl (XM (XG 3 vA.nd) (XM (XG 4 vA.nd) Yk))) (Xu (XH (XD (X7 hr) (Xx (Xp 3)) XE (aT _)) (Xr (Xz 5 vA.nd (M.kG hr (Yd (bU hr) (X8 (Xp 0) T.clG T.n_pathsG) (Xx (Xp 1)) (λ_ _=>rfl)) (XA (Xq (Xx (Xp 3)) (Xq (Xx (Xp 3)) Xw))) (XF Xw) ⟨rfl,rfl,rfl,rfl⟩)) (Xu (XJ (Ye PySem.F.plainAttrs_list PySem.F.slot_list_extend PySem.F.type_list_extend M.kM (Xp 2) (Xq (Yj (caps:=[none,some 4]) (c9 (by rfl)) (by rfl) (by rfl) rfl (XZ (Xp 5)) (λ_ _ _ _=>(X6 (i:=0) (by decide+kernel:List.Nodup (["step","stand"]:List Str)) rfl (Or.inl rfl))) (λ_ _ _ _=>Yn) (λ_ _ _ _=>(XA (Xq (XA (Xq (Xx (Xp 0)) (Xs (Xp 1)))) (Xs (Xp 0)))))) Xw))))) XT))) (Xu (XC (Xp 2))))),λds S Q h=>?_⟩;let⟨g,n,W,kr,ts,x,s,rfl,⟨a,b,c,l1,l2,X⟩,hs,hx,hmv,hml,htl,htw,q⟩:=h;have e0:aO Je [.loc g,PD (x,s)]=[some (.loc g),some (PD (x,s)),none,none,none,none]:=rfl;rw[e0];push_cast[PD,aG,dF,dY,dG,bx,qv,gu,gV,gQ];obtain⟨p,hp,hpx,hpg⟩:=ur (X.k2.mem_iff.mpr hx);let⟨v,es,z1,g1,hun,O⟩:=X.v2 p hp;subst hpx;have hul:v.length<=60:=by have:=j8 hun λj U=>(O j).mp U;lia
  have huw:∀j∈v,j.2.1≠"*":=λj U=>by
   rcases(O j).mp U with⟨_,h⟩|⟨_,h⟩
   ·exact htw (p.1,j.2.1,j.2.2) h
   ·exact htw (j.2.2,j.2.1,p.1) h
  refine⟨zcB _,?_⟩;have Y:∀o,Ji G w (S++[some o]) g a b c n W kr ts l1 l2:=λo=>⟨aM X.at_,aM X.ne,aM X.mr,aM X.pt,X.k1,X.k2,X.v1,λp hp=>by
   let⟨v,es,z1,z2⟩:=X.v2 p hp;refine⟨v,es,aM z1,z2⟩⟩
  refine NL (Y _) rfl ⟨_,_,aA (Y _).ne,_,rfl,_,uH hs,?_⟩;have hfl:=zay (λm=>decide (m.1=s)) W;have Wj:∀sd wd,(sel v sd wd).length<=60:=λsd wd=>zcp (zay ..) hul;have lof:∀u,(Ol v u).length<=60*u.length:=λu=>by
   delta Ol
   induction u with
   |nil=>simp
   |cons m u ih=>
    rw[zcf,List.flatten_cons,zaP,zby];have:(lo1 v m).length<=60:=by
     delta lo1;split
     ·simp_all
     ·simp
    lia
  refine bE (λrest Z S'=>∃(u I:List Mv)(v3 v4 v5:Option D),rest=I.map pD/\u++I=(W.filter λm=>decide (m.1=s))/\Z=[some (.loc g),some (PD (p.1,s)),some (.loc S.length),v3,v4,v5]/\S'=S++[some (.lst ((Ol v u).map Vq))]) ?_ ?_ _ _ _ ⟨[],_,none,none,none,rfl,rfl,rfl,rfl⟩
  ·intro Z S' zx;let⟨u,I,v3,v4,v5,e1,e2,rfl,rfl⟩:=zx;have:I=[]:=by simp_all
   subst this;rw[zbG] at e2;subst e2;refine⟨trivial,_,rfl,?_⟩;refine nS (zcA _) (cO λ_ _=>rfl) (by simp) (by simp) (q (Ol v (W.filter λm=>decide (m.1=s))) ?_ λpp=>?_)
   ·have:=lof (W.filter λm=>decide (m.1=s));lia
   ·delta Ol;simp only[zcm,List.mem_flatten];constructor
    ·rintro⟨q,⟨_,⟨m,hm,rfl⟩,hq⟩,rfl⟩;let⟨h1,h2⟩:=zbD.mp hm;delta lo1 at hq;split at hq
     ·next L wd y=>
      let⟨j,U,rfl⟩:=zcm.mp hq;let⟨j1,j2⟩:=zbD.mp U;simp only[zbB,zbR,decide_eq_true_eq] at j2 h2;exact⟨m,h1,h2,rfl,L,wd,j,y,(O j).mp j1,j2.1,j2.2,rfl⟩
     ·simp at hq
    ·rintro⟨m,h1,h2,h3,L,wd,j,y,j1,j2,j3,h4⟩;refine⟨((j.2.2,m.2.2),j),⟨_,⟨m,zbD.mpr ⟨h1,by simp[h2]⟩,rfl⟩,?_⟩,by rw[h3,<-h4]⟩;delta lo1;rw[y];exact zcm.mpr ⟨j,zbD.mpr ⟨(O j).mpr j1,by simp[j2,j3]⟩,rfl⟩
  ·intro t rest Z S' N zx hN;let⟨u,I,v3,v4,v5,e1,e2,rfl,rfl⟩:=zx;cases I with
   |nil=>simp at e1
   |cons m I=>
    injection e1 with e1 e3;subst e1;subst e3;have hm  :=(zbD.mp (show m∈(W.filter λm=>decide (m.1=s)) by rw[<-e2];simp)).1;have hql  :=by have:=congrArg zcz e2;rw[zaP] at this;omega
    have hLl:=lof u;refine⟨trivial,_,rfl,rfl,_,_,rfl,_,_,rfl,rfl,?_⟩;have Qv:Ol v (u++[m])=Ol v u++lo1 v m:=by delta Ol;simp
    cases y:m.2.1 with
    |stay=>
     push_cast[lD,aG,dF];exact hN _ _ ⟨u++[m],I,_,_,_,rfl,by simp_all,rfl,by rw[Qv];delta lo1;simp_all⟩
    |mk L mm=>
     push_cast[lD,aG,dF];rw[yIn (by cases L<;>decide)];exact hN _ _ ⟨u++[m],I,_,_,_,rfl,by simp_all,rfl,by rw[Qv];delta lo1;simp_all⟩
    |step L wd=>
     have hwd  :=by have:=(hmv m hm).2.1;rw[y] at this;exact this
     push_cast[lD,aG,dF];rw[yIp (by decide)];push_cast[qx,L8,dG,PD,aG,dF,dY,at2,qv,gu];have hks:∀k∈es.map (λe=>K2 e.1),cD k:=λk hk=>by
      let⟨e,he,rfl⟩:=zcm.mp hk;exact good2 (g1.ok e he).1 (g1.ok e he).2
     have hsd:dO (side L)=true:=by cases L<;>decide+kernel
     refine Uk (Y _) rfl ⟨_,_,aA (Y _).pt,_,rfl,_,hpg,p.2,rfl,none,_,aM z1,jX hks,sz rfl,zcB _,none,_,aM z1,good2 (k:=(side L,wd)) hsd (D5 hwd),jX hks,?_⟩
     erw [GR g1 huw]
     have hsl:=Wj (side L) wd;push_cast[ou,dh,gQ,fQ];rw[aA aL];refine⟨rfl,?_⟩;refine bA T3 (λ_=>true) (λj=>Vq ((j.2.2,m.2.2),j)) (λj=>[some (T3 j),some (.int (m.2.2:Nat))]) (λZ=>∃v0,Z=[v0,some (.int (m.2.2:Nat))]) trivial (λj=>⟨_,rfl⟩) (sel v (side L) wd) [] _ ⟨none,rfl⟩ (λj U Z hδ Q' q'=>?_) (λj U Q' q'=>q') (λj U Q' q'=>?_) ?_ ?_
     ·let⟨v0,rfl⟩:=hδ;exact q'
     ·push_cast[aG,at2];exact⟨sz rfl,sz rfl,q'⟩
     ·rw[yaf];simp;lia
     ·rw[zbM,zaK.mpr (by simp)];refine⟨S.length,_,_,_,rfl,rfl,aL,.inl rfl,?_,?_⟩
      ·rw[zbF,zbF,yaf];lia
      ·refine hN _ _ ⟨u++[m],I,_,_,_,rfl,by simp_all,rfl,?_⟩;rw[zaz _ _ (zcA _),zcu,Qv];delta lo1;rw[y,zbK,zcn];rfl
def p8(a:δ[i]? =some (some (.loc n)))(o:S[n]? =some (some (.ins G gl ds)))(j:d ∉ gl)(h:g δ S λes q=>sp (.loc n::es) q k):xT G d sp (fy i) g δ S k:=⟨_,a,n,_,_,rfl,o,j,h⟩
noncomputable def PN(p:Str×Nat):D:=PD (p.1,(p.2:Nat))
def Nb(G:Addr)(W:yak):AN:=λq S Q=>∃g n j o a x s k,q=[.loc g,PD (x,(s:Nat))]/\rA G W S g n j o a/\s<n/\(nms o).Nodup/\k∈o/\k.1=x/\texts k.2/\(∀m∈j,yc n m)/\j.length<=60/\a.length<30/\(∀t∈a,t.2.1≠"*")/\
 ∀L:List (Str×Nat),L.length<=4000->(∀p,p∈L↔Led o a j x s p)->Q (.new (.lst (L.map PN))) S
def UQ(T:Txt K mg C fi G gi)(F:gW K G "led_to" "Ground.led_to" qI Py)(o:bV P w K mg base 2 G "led_without_step" qH (Na G w))(u:bV P w K mg base 1 G "led_by_step" qJ (Nc G w)):bV P w K mg base 3 G "led_to" qI (Nb G w):=by
 refine fq F SQ (λds S Q h=>?_) (λf cdv A outer s H E hr=>?_)
 ·let⟨g,n,I,kr,ts,x,s,k,rfl,_⟩:=h;rfl
 ·refine⟨_,(Xu (XC (Yj (caps:=[none,none]) (c9 (by rfl)) (by rfl) (by rfl) rfl (XZ (Xy XU (X9 (Xp 0) T.clG o (hr.mono (by decide)) (Xs (Xp 1))) (X9 (Xp 0) T.clG u (hr.mono (by decide)) (Xs (Xp 1))))) (λ_ _ _ _=>(Yl (n:=2) rfl (XM (X6 (i:=0) (by decide+kernel:List.Nodup (["led","step"]:List Str)) rfl (Or.inl rfl)) (XM (X6 (i:=1) (by decide+kernel:List.Nodup (["led","step"]:List Str)) rfl (Or.inl rfl)) Yk)))) (λ_ _ _ _=>Yn) (λ_ _ _ _=>(Xp 0))))),λds S Q h=>?_⟩;let⟨g,n,I,kr,ts,x,s,k,rfl,X0,hs,hkn,hk,hkx,htx,Y,Z,htl,htw,q⟩:=h;let⟨a,b,c,l1,l2,X⟩:=id X0;refine p8 rfl X.at_ (by decide+kernel) ⟨_,rfl,g,n,I,kr,ts,x,s,k,rfl,X0,hs,hkn,hk,hkx,htx,Y,Z,?_⟩;refine p8 rfl X.at_ (by decide+kernel) ⟨_,rfl,g,n,I,kr,ts,x,s,rfl,X0,hs,by grind,Y,Z,htl,htw,λL hL ab=>?_⟩;have hfl:=zay (λm=>decide (m.1=s)) I;have Ui:=zay (λm=>hold m.2.1 k.2) (I.filter λm=>decide (m.1=s));have TZ:∀y,y∈((I.filter λm=>decide (m.1=s)).filter λm=>hold m.2.1 k.2).map (λm=>(x,m.2.2))↔y.1=x/\∃m∈I,m.1=s/\m.2.2=y.2/\hold m.2.1 k.2=true:=λy=>by
   simp only[zcm,zbD,decide_eq_true_eq];constructor
   ·rintro⟨m,⟨⟨h1,h2⟩,v⟩,rfl⟩;refine⟨rfl,m,h1,h2,rfl,v⟩
   ·rintro⟨h0,m,h1,h2,v,O⟩;refine⟨m,⟨⟨h1,h2⟩,O⟩,by rw[v,<-h0]⟩
  obtain⟨U,eA⟩:∃U,U=((I.filter λm=>decide (m.1=s)).filter λm=>hold m.2.1 k.2).map (λm=>(x,m.2.2)):=⟨_,rfl⟩
  rw[<-eA] at TZ;have hA0:U.length<=60:=by rw[eA,zbF];lia
  rw[show((I.filter λm=>decide (m.1=s)).filter λm=>hold m.2.1 k.2).map (λm=>D.tup [PD (x,(m.2.2:Nat)),.bB])=U.map λy=>D.tup [PN y,.bB] by rw[eA,zcn];rfl];refine⟨by rw[zbF,zbF,yaf];lia,?_⟩;have eL:U.map (λy=>D.tup [PN y,.bB])++L.map Vq=(U.map (λy=>(y,D.bB))++L.map λp=>(p.1,T3 p.2)).map λz=>D.tup [PN z.1,z.2]:=by
   rw[zbK,zcn,zcn];rfl
  rw[eL];refine bA (α:=(Str×Nat)×D) (λz=>D.tup [PN z.1,z.2]) (λ_=>true) (λz=>PN z.1) (λz=>[some (PN z.1),some z.2]) (λδ=>∃v0 v1,δ=[v0,v1]) trivial (λj=>⟨_,_,rfl⟩) _ [] _ ⟨none,none,rfl⟩ (λz hz δ hδ Q' W=>?_) (λj hj Q' W=>W) (λj hj Q' W=>⟨_,rfl,W⟩) ?_ ?_
  ·let⟨v0,v1,rfl⟩:=hδ;refine⟨_,rfl,rfl,_,_,rfl,_,_,rfl,rfl,W⟩
  ·rw[yaf];simp;lia
  ·rw[zaK.mpr (by lia)];have e9:(U.map (λy=>(y,D.bB))++L.map λp=>(p.1,T3 p.2)).map (λz=>PN z.1)=(U++L.map (·.1)).map PN:=by
    rw[zbK,zbK,zcn,zcn,zcn];rfl
   rw[e9];refine q _ (by rw[zaP,zbF];lia) λy=>?_;rw[zbE,TZ,ab];constructor
   ·rintro(⟨h0,m,h1,h2,v,O⟩|⟨m,h1,h2,v,O⟩)
    ·refine⟨m,h1,h2,v,.inl ⟨h0,k,hk,hkx,O⟩⟩
    ·refine⟨m,h1,h2,v,.inr O⟩
   ·rintro⟨m,h1,h2,v,⟨h0,k',hk',e',O⟩|O⟩
    ·obtain rfl:k'=k:=pP hkn hk' hk (by simp_all);exact .inl ⟨h0,m,h1,h2,v,O⟩
    ·exact .inr ⟨m,h1,h2,v,O⟩
open PySem L2 M M6
noncomputable abbrev Cf:List Str:=["_law_cell","_law_most","_law_ds","_law_many","_law_ends","_law_moves","_law_j","_law_one","_law_way","_law_number","_law_other"]
noncomputable abbrev lH:=Cf.take 2
def fT:ak Cf lH (ah (top 50)):=L2.bZ
def pR(h:yc n d):cD (vD d):=by
 let⟨h1,h2,a⟩:=Bo h.2.1;refine⟨by simp only[vD,b7,bX,a,zci],?_,?_,_,rfl⟩
 ·simp only[vD,py,gb,cG,d7,h1,zci]
 ·simp only[vD,py,gb,PyData.depth,PyData.depthAll];lia
def PX(j)(m):∃a,putN (j.map vD) (vD m)=a.map vD/\(a=j∨a=j++[m]):=by
 delta putN;split
 ·refine⟨j,rfl,.inl rfl⟩
 ·refine⟨j++[m],by simp,.inr rfl⟩
theorem jc(h:k<=n):HT.tQ n d (some (k:Int))=k:=by
 rw[HT.jc];lia
noncomputable def SS:List Nat:=[4,4,8,12]++(zbW 4 (zbW 3 [4,5,16,4]).flatten).flatten
def SS4:∀j,j<12->SS[4+4*j]? =some 4/\SS[4+4*j+1]? =some 5/\SS[4+4*j+2]? =some 16/\SS[4+4*j+3]? =some 4:=by decide
def UA(h1:ys[i]? =some k)(h2:ys[i+1]? =some r)(q:ys[i+2]? =some z)(o:ys[i+3]? =some d):YI (nL ys) (some (i:Int)) (some ((i+4:Nat):Int))=nL [k,r,z,d]:=by
 have hl  :=(zaf.mp o).1;have g:∀{j x:Nat},ys[j]? =some x->∀h,ys[j]=x:=λ{j x} e h=>by simp_all
 have e:(ys.drop i).take 4=[k,r,z,d]:=by
  rw[zai (by lia),zai (by lia),zai (by lia),zai (by assumption)];simp only[List.take_succ_cons,List.take_zero,g h1,g h2,g q,g o]
 delta YI;rw[jc (by simp[nL];assumption),jc (by simp[nL];lia),show i+4 - i=4 by simp];delta nL;rw[<-List.map_drop,<-List.map_take,e]
def EG:AN:=λo S Q=>∃z:Int,o=[.int z,.int 4]/\∀(n b)(j)(a),1<=n->n<=4->b<n->(∀e∈j,e<n)->j.length<=n->(∀m∈a,yc n m)->a.length<=12->Q (.dat (mD n b j a)) S
def Q9(T:Txt K mg C fi G gi)(F:Src K mg "_law_machine" lH (top 50))(u:Def P w K mg base 1 "_law_draws" d9 (az K kc))(y:Def P w K mg base 2 "_law_leaf" gY (az K tM)):Def P w K mg base 3 "_law_machine" lH (az K EG):=by
 refine eE F fT (λds S Q h=>?_) (λf cdv A outer s H E hr=>?_)
 ·let⟨z,rfl,_⟩:=h;rfl
 ·refine⟨_,(Xr (Xz 2 fT.nd (XQ u hr (Xq (Xp 0) (Xq (Xy XU (XF (Xq (Xp 1) (Xq (Xp 1) (Xq Xv (Xq (Xy Yh Xv (Xp 1)) Xw))))) (Xy Yh (Xy Yh (XF (Xq (Xp 1) (Xq Xv (Xq Xv (Xs (Xp 1)))))) Xv) (Xp 1))) Xw)))) (Xr (Xz 3 fT.nd (Xy XU Xv (Xx (Xp 2)))) (Xr (M.ff (i:=4) fT.nd rfl rfl (caps:=[none,some 2]) (c9 (by rfl)) (by rfl) (by rfl) rfl (Ys (by rfl) T.range (Xs (Xp 3))) (λ_ _ _ _=>(X6 (i:=0) (by decide+kernel:List.Nodup (["_law_stand","_law_ds"]:List Str)) rfl (Or.inl rfl))) (λ_ _ _ _=>(YB (XD (X7 hr) (Xy Yb (Xy YC (Xx (Xp 1)) (XX (XF (Xq Xv (Xq Xv (Xs Xv)))) (Xy Yb (Xp 0) Xv))) Xv) Xv (aT _)))) (λ_ _ _ _=>(Xp 0))) (Xr (Xz 5 fT.nd (XO (Yv))) (Xr (Yc PassesOwn.never rfl (Ys (by rfl) T.range (Xq (Xx (Xp 2)) Xw)) (XG 6 fT.nd) (Xr (M.o9 (M.gf M.Bd (Xp 2) (YE (Xy XU Xv (Xy Yh Xv (Xp 6)))) (YE (Xy XU Xv (Xy Yh Xv (Xp 6))))) (M.tY rfl (XM (XG 7 fT.nd) (XM (XG 8 fT.nd) (XM (XG 9 fT.nd) (XM (XG 10 fT.nd) Yk)))))) (Xu (Yw (W:=w) hr (Xp 5) (XA (Xq (Xy Yb (Xp 7) (Xp 3)) (Xq (XQ y hr (Xq (Xp 8) (Xs (Xp 9)))) (Xq (Xy Yb (Xp 10) (Xp 3)) Xw)))) Ym rfl)))) (Xu (XC (XA (Xq (Xp 3) (Xq (Xy Yb (Xx (Xp 2)) (Xp 3)) (Xq (Yg M.ji (by rfl) T.tuple (by rfl) (Xs (Xp 4))) (Xq (Yg M.ji (by rfl) T.tuple (by rfl) (Xq (XW (M.nX (W:=w) hr) (by rfl) T.sorted (by rfl) (Xs (Xp 5))) Xw)) Xw)))))))))))),λds S Q h=>?_⟩;let⟨z,rfl,q⟩:=h;have e0:aO Cf [.int z,.int 4]=[some (.int z),some (.int 4),none,none,none,none,none,none,none,none,none]:=rfl;rw[e0];push_cast[qv,gu];refine⟨.inl ⟨by decide,by decide⟩,sz rfl,sz rfl,?_⟩;refine⟨⟨by decide,by decide⟩,sz rfl,⟨by decide,by decide⟩,sz rfl,sz rfl,z,SS,rfl,by decide,by decide,λys hl hlt=>?_⟩;have get:∀i b,SS[i]? =some b->∃a,ys[i]? =some a/\a<b:=λi b h=>by
   have hi:i<ys.length:=by rw[hl];exact(zaf.mp h).1
   refine⟨ys[i],zam hi,hlt i _ b (zam hi) h⟩
  let⟨y0,g0,l0⟩:=get 0 4 rfl;let⟨y1,g1,l1⟩:=get 1 4 rfl;let⟨y2,g2,l2⟩:=get 2 8 rfl;let⟨y3,g3,l3⟩:=get 3 12 rfl;have a0  :=dg g0;have a1:ia (nL ys) (1:Int)=some (.int y1):=dg g1;have a2:ia (nL ys) (2:Int)=some (.int y2):=dg g2;have a3  :=dg g3;refine⟨_,a0,?_⟩;push_cast[true_and];rw[show(1:Int)+y0=((1+y0:Nat):Int) by rfl];obtain⟨n,hn⟩:∃n,n=1+y0:=⟨_,rfl⟩
  rw[<-hn];have n1:1<=n:=by simp_all
  have n6:n<=4:=by lia
  push_cast[dh,qY];refine⟨by lia,by lia,?_⟩;refine kY (λrest acc δ S'=>∃(Y:List Nat)(v:Option D),acc=nL Y/\(∀e∈Y,e<n)/\(∀x∈rest,∃k:Nat,k<n/\x=.int k)/\Y.length+rest.length<=n/\S'=S/\δ=[v,some (.lst (nL ys))]) ?_ ?_ _ [] _ _ ⟨[],none,rfl,by simp,λx O=>?_,by simp[cQ],rfl,rfl⟩
  ·intro acc δ S' V;let⟨Y,v,rfl,he,_,hel,rfl,rfl⟩:=V;push_cast[bx,sY,gV,qY];refine⟨_,a3,?_⟩;push_cast[true_and];refine⟨by lia,by lia,?_⟩;refine bE (λrest δ S''=>∃(X:List Mv)(v6 v7 v8 v9 v10:Option D),S''=S'++[some (hN w (X.map vD))]/\(∀m∈X,yc n m)/\(∀x∈rest,∃k:Nat,k<12/\x=.int k)/\X.length+rest.length<=12/\δ=[some (.int z),some (.int 4),some (.lst (nL ys)),some (.int n),some (.lst (nL Y)),some (.loc S'.length),v6,v7,v8,v9,v10]) ?_ ?_ _ _ _ ⟨[],none,none,none,none,none,rfl,by simp,λx O=>?_,by simp[cQ];lia,rfl⟩
   ·intro δ S'' V;let⟨X,v6,v7,v8,v9,v10,rfl,L,_,hml,rfl⟩:=V;push_cast[cA,a1,zcD.injEq,exists_eq_left',qu];refine⟨by lia,_,X.map vD,false,rfl,.inr ⟨S'.length,none,_,rfl,by simp,(tF _).symm⟩,⟨λk hk=>?_,λk hk=>?_,λk hk l hl=>?_⟩,by rw[zbF];lia,λks' hp _=>?_⟩
    ·let⟨m,I,rfl⟩:=zcm.mp hk;exact pR (L m I)
    ·let⟨m,I,rfl⟩:=zcm.mp hk;let⟨p,r,e⟩:=Gq m;refine⟨_,r,.inl ⟨rfl,p,rfl⟩,e⟩
    ·let⟨m,I,rfl⟩:=zcm.mp hk;let⟨m',hm',rfl⟩:=zcm.mp hl;exact Gu m m'
    ·let⟨Z,p1,rfl⟩:=fh hp;have hmv'  :=λm I=>L m (p1.mem_iff.mp I);refine⟨sz rfl,⟨_,t9 (FZ),λk o hk e=>.inl ?_,?_⟩⟩
     ·rw[zag hk] at e;exact e
     ·rw[List.take_left];exact q n (y1 % n) Y Z n1 n6 (zcF _ (by assumption)) he (by simpa using hel) hmv' (by have:=p1.length_eq;simp_all)
   ·intro x rest δ S'' N' V hN';let⟨X,v6,v7,v8,v9,v10,rfl,L,O,hml,rfl⟩:=V;let⟨j,hj,rfl⟩:=O x (by simp);let⟨s1,s2,s3,s4⟩:=SS4 j hj;let⟨b1,f1,m1⟩:=get _ _ s1;let⟨b2,f2,m2⟩:=get _ _ s2;let⟨b3,f3,m3⟩:=get _ _ s3;let⟨b4,f4,m4⟩:=get _ _ s4;push_cast[wm];refine⟨.inl ⟨by decide,by decide⟩,.inl ⟨by decide,by decide⟩,?_⟩;rw[show(4:Int)+4*j=((4+4*j:Nat):Int) by rfl,show(8:Int)+4*j=((4+4*j+4:Nat):Int) by lia];delta Dz;rw[iB];dsimp only;rw[UA f1 f2 f3 f4];refine⟨nL [b1,b2,b3,b4],rfl,rfl,_,_,rfl,_,_,rfl,_,_,rfl,_,_,rfl,rfl,?_⟩;push_cast[qw];refine⟨by lia,b2,b3,rfl,m2,λl hlf=>?_⟩;push_cast[true_and];rw[show(b1 % n)=((b1 % n:Nat):Int) by simp,show(b4 % n)=((b4 % n:Nat):Int) by simp];have ok:yc n (b1 % n,l,b4 % n):=⟨zcF _ (by assumption),hlf,zcF _ (by assumption)⟩
    refine⟨by lia,sz rfl,S'.length,rfl,tr (X.map vD),by simp,pR ok,cK λk hk=>?_,by rw[eZ,zbF];lia,?_⟩
    ·let⟨m,I,rfl⟩:=zcm.mp hk;exact pR (L m I)
    ·let⟨Z,e1,e2⟩:=PX X (b1 % n,l,b4 % n);have e1:putN (X.map vD) (.tup [.int ((b1 % n:Nat):Int),lD l,.int ((b4 % n:Nat):Int)])=Z.map vD:=e1;rw[oK,e1,zaz _ _ (zcA _),zcu];refine hN' _ _ ⟨Z,_,_,_,_,_,rfl,λm I=>?_,λx U=>O x (zaC _ U),?_,rfl⟩
     ·obtain rfl|rfl:=e2
      ·exact L m I
      ·obtain I|I:=zbE.mp I
       ·exact L m I
       ·rw[zaS.mp I];exact ok
     ·simp only[zby] at hml;obtain rfl|rfl:=e2
      ·lia
      ·rw[zaP];show X.length+1+_<=_;lia
   ·simp only[cQ,zcm,zbV] at O;let⟨a,ha,rfl⟩:=O;refine⟨a,by lia,by simp⟩
  ·intro x rest acc δ S' N' V hN';let⟨Y,v,rfl,he,O,hel,rfl,rfl⟩:=V;let⟨j,hj,rfl⟩:=O x (by simp);push_cast[cA,a2,zcD.injEq,exists_eq_left',qv];let⟨e,ea,em⟩:=NY (ds:=[D.int 1,D.int 2,D.int 4]) (by show j % 3<3;grind);refine⟨sz rfl,by decide,e,ea,?_⟩;obtain⟨c,rfl,c0,c1⟩:∃c:Int,e=.int c/\0<c/\c<10:=by
    simp only[zcd,zbw,or_false] at em;obtain rfl|rfl|rfl:=em<;>refine⟨_,rfl,by decide,by decide⟩
   push_cast[true_and];simp only[zby] at hel;refine⟨⟨c0,by lia⟩,by decide,fH (λ_=>⟨?_,hN' _ _ _ ⟨Y++[j],_,by simp[nL],λe he'=>?_,λx U=>O x (zaC _ U),by rw[zaP];show Y.length+1+_<=_;grind,rfl,rfl⟩⟩) (λ_=>hN' _ _ _ ⟨Y,_,rfl,he,λx U=>O x (zaC _ U),by grind,rfl,rfl⟩)⟩
   ·rw[nL,zbF,yaf];lia
   ·obtain he'|he':=zbE.mp he'
    ·exact he e he'
    simp_all
  ·simp only[cQ,zcm,zbV] at O;let⟨a,ha,rfl⟩:=O;refine⟨a,by lia,by simp⟩
open PySem PySem.Spec L2 M M6
def HV(a b):(a&&& b) / 2=(a / 2&&& b / 2):=by
 refine Nat.eq_of_testBit_eq λi=>?_
 grind
def B3(a b):(a&&& b) % 2=1↔a % 2=1/\b % 2=1:=by
 simp
theorem Aj:∀i a b:Nat,(a - (a&&& b)).testBit i=(a.testBit i&& !b.testBit i)
 |0,a,b=>by
  have h1:a&&& b<=a:=Nat.and_le_left;have h2:=B3 a b;rw[Nat.testBit_zero,Nat.testBit_zero,Nat.testBit_zero];by_cases o:a % 2=1<;>by_cases j:b % 2=1<;>simp only[j,and_true,and_false,iff_true,iff_false] at h2⊢ <;>simp<;>grind
 |i+1,a,b=>by
  have h2:=B3 a b;have e:(a - (a&&& b)) / 2=a / 2 - (a / 2&&& b / 2):=by rw[<-HV];lia
  rw[Nat.testBit_succ,Nat.testBit_succ,Nat.testBit_succ,e,Aj i]
def yW(a:Nat):decide (0<= -(a:Int) - 1)=false:=yDf (by lia)
def wk(a:Nat):(-(-(a:Int) - 1) - 1).toNat=a:=by lia
def uN(a b:Nat):Builtin.bitOr (a:Int) (b:Int)=((a|||b:Nat):Int):=by
 delta Builtin.bitOr Builtin.bitAnd Builtin.bitNot;rw[yW,yW];simp only[wk];lia
def HS(a b:Nat):Builtin.bitAnd (a:Int) (Builtin.bitNot (b:Int))=((a - (a&&& b):Nat):Int):=by
 delta Builtin.bitAnd Builtin.bitNot;rw[yW,yDt (show(0:Int)<=a by lia)];simp only[wk,zbk];have h1:a&&& b<=a:=Nat.and_le_left;lia
def HR(a:Nat):Builtin.bitAnd (a:Int) 1=((a&&& 1:Nat):Int):=by
 rfl
section
variable {α:Type}[DecidableEq α]
noncomputable def gv(l:List (α×Nat))(p:α):Nat:=((l.find? λe=>decide (e.1=p)).map (·.2)).getD 0
noncomputable def gh(l:List (α×Nat))(p:α):Bool:=l.any λe=>decide (e.1=p)
noncomputable def gp(l:List (α×Nat))(p:α)(v:Nat):List (α×Nat):=if gh l p=true then l.map (λe=>if e.1=p then(e.1,v) else e) else l++[(p,v)]
def dU(e:α×Nat)(l)(p):gv (e::l) p=if e.1=p then e.2 else gv l p:=by
 delta gv
 grind
def gR{p:α}:gh d p=true↔p∈d.map (·.1):=by
 delta gh
 grind
theorem Bv:∀{l:List (α×Nat)},d ∉ l.map (·.1)->gv l d=0
 |[],_=>rfl
 |e::l,h=>by
  rw[zcf,zcd,not_or] at h;rw[dU,yIn λz=>h.1 z.symm,Bv h.2]
theorem fW{p:α}{v:Nat}:∀{l:List (α×Nat)},(l.map (·.1)).Nodup->(p,v)∈l->gv l p=v
 |e::l,hn,h=>by
  rw[zcf,zbH] at hn;rw[dU];obtain rfl|h:=zcd.mp h
  ·simp
  ·rw[fW hn.2 h]
   grind
theorem sy:∀{l:List (α×Nat)},gv l d≠0->(d,gv l d)∈l
 |[],h=>absurd rfl h
 |e::l,h=>by
  rw[dU] at h⊢;by_cases z:e.1=d
  ·grind
  ·rw[yIn z] at h⊢;exact zaC _ (sy h)
theorem Bu:∀{l:List (α×Nat)},d ∉ l.map (·.1)->gv (l++[(d,g)]) q=if q=d then g else gv l q
 |[],_=>by
  rw[zbM,dU];lia
 |e::l,h=>by
  rw[zcf,zcd,not_or] at h;rw[zbx,dU,dU,Bu h.2];lia
theorem zx:∀{l:List (α×Nat)},d∈l.map (·.1)->gv (l.map λe=>if e.1=d then(e.1,g) else e) q=if q=d then g else gv l q
 |[],h=>by simp at h
 |e::l,h=>by
  rw[zcf,dU,dU];by_cases z:e.1=d
  ·rw[yIp z];by_cases y:e.1=q
   ·simp_all
   ·rw[yIn y,yIn λx=>y (z.trans x.symm),yIn y];by_cases j:d∈l.map (·.1)
    ·rw[zx j,yIn λx=>y (z.trans x.symm)]
    ·rw[show(l.map λe=>if e.1=d then(e.1,g) else e)=l from ?_];refine(zaJ λa o=>?_).trans (List.map_id l)
     grind
  ·have j:d∈l.map (·.1):=by
    grind
   rw[zx j];lia
def G6{p q:α}:gv (gp d p g) q=if q=p then g else gv d q:=by
 delta gp;by_cases h:gh d p=true
 ·rw[yIp h,zx (gR.mp h)]
 ·rw[yIn h,Bu λz=>h (gR.mpr z)]
def Bw{p:α}:(gp d p g).map (·.1)=if gh d p=true then d.map (·.1) else d.map (·.1)++[p]:=by
 delta gp;by_cases h:gh d p=true
 ·rw[yIp h,yIp h,zcn];refine zaJ λe _=>?_;lia
 simp_all
def wR{p:α}(a:(d.map (·.1)).Nodup):((gp d p g).map (·.1)).Nodup:=by
 rw[Bw];by_cases h:gh d p=true
 ·simp_all
 ·rw[yIn h,zbh];refine⟨a,by simp,λx o y j e=>h (gR.mpr (by grind))⟩
def G7{e:α×Nat}(h:e∈gp d g k):e=(g,k)∨e∈d:=by
 delta gp at h
 grind
inductive uY(R:α->α->Prop)(s:α):α->Prop
 |base:uY R s s
 |go {p q:α}:uY R s p->R p q->uY R s q
structure Gs(R:α->α->Prop)(st:Nat->Option α)(bl cl:List (α×Nat)):Prop where
 snd:∀p i,(gv bl p).testBit i=true∨(gv cl p).testBit i=true->∃x,st i=some x/\uY R x p
 lU:∀i x,st i=some x->(gv bl x).testBit i=true∨(gv cl x).testBit i=true
 cls:∀p i q,(gv bl p).testBit i=true->R p q->(gv bl q).testBit i=true∨(gv cl q).testBit i=true
variable {R:α->α->Prop}{st:Nat->Option α}{bl cl bl' fl:List (α×Nat)}
def Gs.step(h:Gs R st bl cl)(h1:∀p,gv bl' p=gv bl p|||gv cl p)(h2:∀q i,(gv fl q).testBit i=true↔∃p,(gv cl p).testBit i=true/\(gv bl p).testBit i=false/\R p q):Gs R st bl' fl:=by
 have a:∀p i,(gv bl' p).testBit i=true↔(gv bl p).testBit i=true∨(gv cl p).testBit i=true:=λp i=>by simp_all
 refine⟨λp i z=>?_,λi x e=>.inl ((a x i).mpr (h.lU i x e)),λp i q z r=>?_⟩
 ·obtain z|z:=z
  ·exact h.snd p i ((a p i).mp z)
  ·let⟨j,o,_,r⟩:=(h2 p i).mp z;let⟨x,e,g⟩:=h.snd j i (.inr o);refine⟨x,e,g.go r⟩
 ·by_cases c:(gv bl p).testBit i=true
  ·exact .inl ((a q i).mpr (h.cls p i q c r))
  ·rcases(a p i).mp z with z|z
   ·exact absurd z c
   ·exact .inr ((h2 q i).mpr ⟨p,z,by simpa using c,r⟩)
def Gs.done(h:Gs R st bl [])(p)(i):(gv bl p).testBit i=true↔∃x,st i=some x/\uY R x p:=by
 have a:∀p,gv ([]:List (α×Nat)) p=0:=λ_=>rfl;refine⟨λz=>h.snd p i (.inl z),λz=>?_⟩;let⟨x,e,g⟩:=z
 induction g with
 |base=>
  obtain z|z:=h.lU i x e
  ·exact z
  simp_all
 |go _ r ih=>
  obtain z|z:=h.cls _ i _ ih r
  ·exact z
  simp_all
noncomputable def miss(U:List (α×Nat))(bl:List (α×Nat)):Nat:=U.countP λx=>!(gv bl x.1).testBit x.2
theorem xA{o:Type}{f g:o->Bool}:∀{l:List o},(∀x∈l,f x=true->g x=true)->l.countP f<=l.countP g/\((∃x∈l,g x=true/\f x=false)->l.countP f<l.countP g)
 |[],_=>⟨zcA _,x1_1 λx h _=>by simp at h⟩
 |a::l,h=>by
  let⟨h1,h2⟩:=xA λx j=>h x (zaC _ j);rw[List.countP_cons,List.countP_cons];refine⟨?_,x1_2 λx j q s=>?_⟩
  ·cases u:f a
   ·simp;lia
   simp_all
  ·obtain rfl|j:=zcd.mp j
   ·rw[q,s];simp;lia
   ·have:=h2 ⟨x,j,q,s⟩;cases u:f a
    ·simp;lia
    simp_all
theorem CZ(h:Gs R st bl cl)(v:∀p i x,st i=some x->uY R x p->(p,i)∈U)(h1:∀p,gv bl' p=gv bl p|||gv cl p)(h2:∀q i,(gv fl q).testBit i=true↔∃p,(gv cl p).testBit i=true/\(gv bl p).testBit i=false/\R p q)(C:∀e∈fl,e.2≠0)(y:(fl.map (·.1)).Nodup):
  miss U bl'+(if fl.isEmpty=true then 0 else 1)<miss U bl+1:=by
 let⟨H,E⟩:=xA (l:=U) (f:=λx=>!(gv bl' x.1).testBit x.2) (g:=λx=>!(gv bl x.1).testBit x.2) λx _ z=>by
  simp_all
 cases fl with
 |nil=>simp;delta miss;lia
 |cons e fl=>
  have a:=C e (by simp);have F:gv (e::fl) e.1=e.2:=fW y (by simp);let⟨i,G⟩:=Nat.exists_testBit_of_ne_zero a;let⟨p,u,s,p3⟩:=(h2 e.1 i).mp (by simp_all);let⟨x,o,j⟩:=h.snd p i (.inr u);have:=E ⟨(p,i),v p i x o j,by simp[s],by simp_all⟩;simp;delta miss;assumption
end
open PySem PySem.Spec L2 M M6 PyProof.Rows
noncomputable abbrev RW:List Str:=["ground","bits","coming","further","place","fresh","led"]
noncomputable abbrev qB:=RW.take 3
def vq:ak RW qB (ah (top 23)):=L2.bZ
def AX(p):py (PD p)=.tuple [.str p.1,.int p.2]:=by rfl
def o5(h:py (PN d)=py (PN g)):d=g:=by
 let⟨s,o⟩:=d;let⟨q,j⟩:=g;simp only[PN,AX,PyData.tuple.injEq,List.cons.injEq,PyData.str.injEq,PyData.int.injEq] at h;rw[h.1,show o=j by lia]
def sA(h1:dO d.1=true):cD (PN d):=by
 refine⟨by rfl,?_,?_,_,rfl⟩
 ·rw[PN,AX];simp[cG,d7,PyData.canLay0,iI h1]
 ·rw[PN,AX];simp[PyData.depth,PyData.depthAll]
abbrev Pl:=Str×Nat
noncomputable def Ll(e:Pl×Nat):D×D:=(PN e.1,.int (e.2:Nat))
noncomputable def enc(l:List (Pl×Nat)):List (D×D):=l.map Ll
def BG(l)(p:Pl):nD (enc l) (PN p)=gh l p:=by
 delta nD enc gh;rw[zcl];congr 1;funext e;show decide (py (PN e.1)=py (PN p))=decide (e.1=p);by_cases h:e.1=p
 ·simp_all
 ·rw[yDf h,yDf λz=>h (o5 z)]
theorem jm:∀(l)(p:Pl),(p∈l.map (·.1)->kT (enc l) (PN p)=some (.int (gv l p:Nat)))/\(kT (enc l) (PN p)).getD (.int 0)=.int (gv l p:Nat)
 |[],p=>⟨λh=>by simp at h,rfl⟩
 |e::l,p=>by
  let⟨h1,h2⟩:=jm l p;unfold kT enc at h1 h2⊢;rw[dU];show(p∈_->Option.map _ (match decide (py (PN e.1)=py (PN p)) with|true=>_|false=>_)=_)/\(Option.map _ (match decide (py (PN e.1)=py (PN p)) with|true=>_|false=>_)).getD _=_;by_cases h:e.1=p
  ·rw[yDt (show py (PN e.1)=py (PN p) by rw[h]),yIp h];exact⟨λ_=>rfl,rfl⟩
  ·rw[yDf λz=>h (o5 z)]
   grind
def n9(l)(p:Pl)(v):gc (enc l) (PN p) (.int (v:Nat))=enc (gp l p v):=by
 delta gc gp;rw[BG];by_cases h:gh l p=true
 ·rw[yIp h,yIp h];delta enc;rw[zcn,zcn];refine zaJ λe _=>?_;show(if py (PN e.1)=py (PN p) then(PN e.1,D.int v) else Ll e)=Ll (if e.1=p then(e.1,v) else e);by_cases z:e.1=p
  ·rw[yIp z,yIp (by rw[z])];rfl
  ·rw[yIn z,yIn λy=>z (o5 y)]
 ·rw[yIn h,yIn h];delta enc;rw[zbK];rfl
def qc(h:∀e∈d,dO e.1.1=true):cy (enc d):=λe j=>by
 let⟨x,a,rfl⟩:=zcm.mp j;exact sA (h x a)
def oh(k:Nat)(W:yak)(po:Option Obj)(l:List (Pl×Nat)):jw k (hO W po (enc l))=true:=by
 refine cV _ _ ?_;delta enc
 induction l with
 |nil=>rfl
 |cons e l ih=>simp only[zcf,inter,bX,ih,Ll,PN,PD,b7,zci]
theorem BH:∀(ps a),((a++ps).map (·.1)).Nodup->Dy (enc ps) (enc a)=enc (a++ps)
 |[],a,_=>by simp[Dy,enc]
 |p::ps,a,h=>by
  have j:gh a p.1=false:=by
   rw[<-Bool.not_eq_true];intro z;rw[gR] at z
   grind
  have e:gc (enc a) (PN p.1) (.int (p.2:Nat))=enc (a++[p]):=by
   rw[n9];delta gp;simp_all
  show Dy (enc ps) (gc (enc a) (PN p.1) (.int (p.2:Nat)))=_;rw[e,BH ps (a++[p]) (by simp_all)];simp
structure yd(n:Nat)(mv:List Mv)(kr:List Kn)(ts:List Ti):Prop where
 nd:(nms kr).Nodup
 tx:∀k∈kr,texts k.2
 mo:∀m∈mv,yc n m
 ml:mv.length<=60
 tl:ts.length<30
 tw:∀t∈ts,t.2.1≠"*"
 n6:n<=60
 kl:kr.length<=40
 ok:∀x∈nms kr,dO x=true
 tk:∀t∈ts,t.1∈nms kr/\t.2.2∈nms kr
abbrev gz(j:List Kn)(ts:List Ti)(a:List Mv)(p q:Pl):Prop:=Led j ts a p.1 p.2 q
def yd.led(c:yd n d g k)(v:r.1∈nms g)(h:gz g k d r q):q.1∈nms g/\q.2<n:=by
 let⟨m,x,_,h2,s⟩:=h;refine⟨?_,by rw[<-h2];exact(c.mo m x).2.2⟩;rcases s with⟨s,_⟩|⟨_,_,j,_,a,_,_,y⟩
 ·rw[s];exact v
 ·rw[y];rcases a with⟨_,a⟩|⟨_,a⟩
  ·exact(c.tk _ a).2
  ·exact(c.tk _ a).1
structure Ent(kr:List Kn)(n:Nat)(l:List (Pl×Nat)):Prop where
 nd:(l.map (·.1)).Nodup
 ok:∀e∈l,e.1.1∈nms kr/\e.1.2<n/\e.2≠0
noncomputable def Dv(a:List Kn)(n:Nat):List Pl:=(nms a).flatMap λx=>(zcE n).map λi=>(x,i)
def kL:g∈Dv d n↔g.1∈nms d/\g.2<n:=by
 delta Dv;rw[List.mem_flatMap];constructor
 ·rintro⟨x,j,h⟩;let⟨i,o,rfl⟩:=zcm.mp h;exact⟨j,zbV.mp o⟩
 ·rintro⟨h1,h2⟩;refine⟨g.1,h1,zcm.mpr ⟨g.2,zbV.mpr h2,rfl⟩⟩
def xO(j)(n):(Dv j n).length=j.length*n:=by
 have o:∀l:List Str,(l.flatMap λx=>(zcE n).map λi=>(x,i)).length=l.length*n:=λl=>by
  induction l with
  |nil=>simp
  |cons a l ih=>rw[List.flatMap_cons,zaP,zbF,zbe,zby,Nat.succ_mul];lia
 delta Dv;rw[o,zbF]
def NS(c:yd n d g k){L:List Pl}(q:L.Nodup)(h:∀p∈L,p.1∈nms g/\p.2<n):L.length<=2400:=by
 have h2:=M8.dD q (λp o=>kL.mpr (h p o));rw[xO] at h2;exact zcp h2 (zbX c.kl c.n6)
def Ent.len(h:Ent g n r)(c:yd n d g k):(enc r).length<=2400:=by
 have:=NS c h.nd λp q=>by
  let⟨e,j,rfl⟩:=zcm.mp q;exact⟨(h.ok e j).1,(h.ok e j).2.1⟩
 delta enc;simp_all
def Ent.good(h:Ent g n q)(c:yd n d g k):cy (enc q):=qc λe o=>c.ok _ (h.ok e o).1
def Ent.put(h:Ent d n g)(h1:k.1∈nms d)(h2:k.2<n)(o:q≠0):Ent d n (gp g k q):=
 ⟨wR h.nd,λe j=>by
  obtain rfl|j:=G7 j
  ·refine⟨h1,h2,o⟩
  ·exact h.ok e j⟩
theorem Ent.nil:Ent d n []:=⟨.nil,λe j=>by simp at j⟩
def rA.frame(X:rA G W S g n d q r)(h:∀k,k<S.length->S'[k]? =S[k]?):rA G W S' g n d q r:=by
 let⟨a,b,c,x,v,X⟩:=X;refine⟨a,b,c,x,v,(h _ (cu X.at_)).trans X.at_,(h _ (cu X.ne)).trans X.ne,(h _ (cu X.mr)).trans X.mr,(h _ (cu X.pt)).trans X.pt,X.k1,X.k2,X.v1,λp y=>?_⟩;let⟨u,C,j,s⟩:=X.v2 p y;refine⟨u,C,(h _ (cu j)).trans j,s⟩
def FH(s:d.length=S.length)(h1:∀k g,k<S.length->d[k]? =some (some g)->S[k]? =some (some g)∨jw S.length g=true)(v:jw S.length g=true)(q:r (.new g) d):YF S (d++[some g]) (.dat (.loc S.length)) r:=by
 refine⟨.new g,?_,λk j u e=>h1 k j u (by rw[aS (by simp_all)] at e;exact e),by rw[List.take_left' s];exact q⟩;simp only[out];simp_all
def MX(G:Addr)(W:yak):AN:=λy S Q=>∃g n v a u s co po bl cl x,y=[.loc g,.loc s,.loc co]/\rA G W (S.take x) g n v a u/\x<=s/\x<=co/\yd n v a u/\S[s]? =some (some (hO W none (enc bl)))/\S[co]? =some (some (hO W po (enc cl)))/\s≠co/\Ent a n bl/\Ent a n cl/\
 ∀j fl o,Ent a n j->Ent a n fl->(∀p,gv j p=gv bl p|||gv cl p)->(∀q i,(gv fl q).testBit i=true↔∃p,(gv cl p).testBit i=true/\(gv bl p).testBit i=false/\gz a u v p q)->Q (.new (hO W none (enc fl))) ((S.set co (some (hO W (some o) (enc cl)))).set s (some (hO W none (enc j))))
def UH(T:Txt K mg C fi G gi)(F:Src K mg "spread" qB (top 23))(X:bV P w K mg base 3 G "led_to" qI (Nb G w)):Def P w K mg base 4 "spread" qB (az K (MX G w)):=by
 refine eE F vq (λds S Q h=>?_) (λf cdv A outer s H E Z=>?_)
 ·let⟨g,n,mv,I,ts,O,co,po,bl,cl,b0,rfl,_⟩:=h;rfl
 ·refine⟨_,(Xr (Xz 3 vq.nd (XO (Yv (W:=w)))) (Xr (Yc PassesOwn.never rfl (M.Nq (W:=w) (Xp 2)) (XG 4 vq.nd) (Xr (Xz 5 vq.nd (Xy M.Gk (M.Ba Z (Xp 2) (Xp 4) (λ_ _=>rfl)) (M.F5 M.TQ (M.kG Z (Xp 1) (Xp 4) Xv ⟨rfl,rfl,rfl,rfl⟩)))) (Xu (XH (Yr (Xp 5)) (Xr (Yw Z (Xp 1) (Xp 4) (Xy M.Gj (M.kG Z (Xp 1) (Xp 4) Xv ⟨rfl,rfl,rfl,rfl⟩) (Xp 5)) rfl) (Xu (Yc PassesOwn.never rfl (XZ (X9 (Xp 0) T.clG X (Z.mono (by decide)) (Xs (Xp 4)))) (XG 6 vq.nd) (Xu (Yw Z (Xp 3) (Xp 6) (Xy M.Gj (M.kG Z (Xp 3) (Xp 6) Xv ⟨rfl,rfl,rfl,rfl⟩) (Xp 5)) rfl))))) XT)))) (Xu (XC (Xp 3))))),λds S Q h=>?_⟩;let⟨g,n,mv,I,ts,O,co,po,bl,cl,b0,rfl,X0,hb1,hb2,c,hb,hc,hne,Eb,Ec,q⟩:=h;refine⟨_,rfl,co,po,enc cl,rfl,aM hc,Ec.good c,λo=>?_⟩;have hco:=cu hc;have hbi:=cu hb;obtain⟨U,hU⟩:∃U:List (Pl×Nat)->aq,U=λa=>(S.set co (some (hO w (some o) (enc cl)))).set O (some (hO w none (enc a))):=⟨_,rfl⟩
  have Ul:∀a,(U a).length=S.length:=λa=>by simp_all
  have Ub:∀a,(U a)[O]? =some (some (hO w none (enc a))):=λa=>by simp_all
  have Uc:∀a,(U a)[co]? =some (some (hO w (some o) (enc cl))):=λa=>by simp_all
  have Us:∀a v,(U a).set O (some (hO w none (enc v)))=U v:=λa v=>by simp_all
  have Ux:∀a Y,rA G w (U a++Y) g n mv I ts:=λa Y=>X0.frame λk hk=>by
   rw[zbq] at hk;rw[aS (by rw[Ul];(clear hb2 hb1;grind)),hU];rw[au (by lia),au (by lia),List.getElem?_take,yIp (by lia)]
  have st0:zcG (S++[some (hO w none [])]) co (some (hO w (some o) (enc cl)))=U bl++[some (hO w none (enc []))]:=by
   rw[hU,List.set_append_left _ _ hco];congr 1;refine(zbf λk=>?_);by_cases hk:k=O
   ·subst hk;rw[bR (by rw[au hne];exact hb),au hne];exact hb
   ·rw[au hk]
  rw[st0];have z0:∀p,gv ([]:List (Pl×Nat)) p=0:=λ_=>rfl;refine bE (λrest δ S'=>∃(j rs a fl:List (Pl×Nat))(v4 v5 v6:Option D),rest=rs.map (λe=>PN e.1)/\j++rs=cl/\δ=[some (.loc g),some (.loc O),some (.loc co),some (.loc S.length),v4,v5,v6]/\S'=U a++[some (hO w none (enc fl))]/\Ent I n a/\Ent I n fl/\(∀q,gv a q=if q∈j.map (·.1) then gv bl q|||gv cl q else gv bl q)/\(∀q i,(gv fl q).testBit i=true↔∃e∈j,e.2.testBit i=true/\(gv bl e.1).testBit i=false/\gz I ts mv e.1 q)) ?_ ?_ _ _ _ ⟨[],cl,bl,[],none,none,none,by delta enc;rw[zcn];rfl,rfl,rfl,rfl,Eb,.nil,λq=>by simp,λq i=>by rw[z0];simp⟩
  ·intro δ S' V;let⟨j,rs,a,fl,v4,v5,v6,e1,e2,rfl,rfl,E1,E2,h1,h2⟩:=V;have:rs=[]:=by simp_all
   subst this;rw[zbG] at e2;subst e2;refine⟨aM (Uc a),?_⟩;push_cast[true_and];refine FH (Ul a) (λk o' hk e=>?_) (oh _ _ _ _) ?_
   ·rw[hU] at e;by_cases k1:k=O
    ·subst k1;rw[bR (by rw[au hne];exact hb)] at e;cases e;exact .inr (oh _ _ _ _)
    ·rw[au k1] at e;by_cases k2:k=co
     ·subst k2;rw[bR hc] at e;cases e;exact .inr (oh _ _ _ _)
     ·rw[au k2] at e;exact .inl e
   ·have q:=q a fl o E1 E2 (λp=>?_) (λq' i=>?_)
    ·rw[hU];exact q
    ·rw[h1];by_cases hp:p∈j.map (·.1)
     ·rw[yIp hp]
     ·rw[yIn hp,Bv hp,Nat.or_zero]
    ·rw[h2];constructor
     ·rintro⟨e,he,g1,g2,g3⟩;refine⟨e.1,by rw[fW Ec.nd he];exact g1,g2,g3⟩
     ·rintro⟨p,g1,g2,g3⟩;have hz:gv j p≠0:=λz=>by grind
      refine⟨_,sy hz,g1,g2,g3⟩
  ·intro x xs δ S' N V hN;let⟨j,rs,a,fl,v4,v5,v6,e1,e2,rfl,rfl,E1,E2,h1,h2⟩:=V;cases rs with
   |nil=>simp at e1
   |cons r rs=>
    injection e1 with e1 e3;subst e1;subst e3;have Z:r∈cl:=by rw[<-e2];simp
    let⟨hp1,hp2,hv0⟩:=Ec.ok r Z;have hv  :=fW Ec.nd Z;have hnd:=Ec.nd;rw[<-e2,zbK,zbh] at hnd;have hno  :=λz=>hnd.2.2 r.1 z r.1 (by simp) rfl;have hb1:gv a r.1=gv bl r.1:=by rw[h1,yIn hno]
    have gk  :=sA (c.ok _ hp1);refine⟨aM (Uc a),?_⟩;refine bM λN1 hN1=>?_;push_cast[Ih,qx,L8,Vy];have gB:∀{a:List (Pl×Nat)},Ent I n a->cy (enc a):=λE=>E.good c;have lB:∀{a:List (Pl×Nat)},Ent I n a->(enc a).length<100000:=λE=>zaV (E.len c) (by decide);refine⟨co,rfl,_,_,aM (Uc a),gk,gB Ec,_,(jm cl r.1).1 (zcm.mpr ⟨r,Z,rfl⟩),O,rfl,none,_,aM (Ub a),gB E1,none,_,aM (Ub a),gk,gB E1,_,(jm a r.1).2,_,_,rfl,rfl,trivial,?_⟩;show N1 [some (.loc g),some (.loc O),some (.loc co),some (.loc S.length),some (PN r.1),some (.int (Builtin.bitAnd (gv cl r.1:Nat) (Builtin.bitNot (gv a r.1:Nat)))),v6] _;rw[HS,hv,hb1];obtain⟨u,hfr⟩:∃u,u=r.2 - (r.2&&& gv bl r.1):=⟨_,rfl⟩
    have frb:∀i,u.testBit i=(r.2.testBit i&& !(gv bl r.1).testBit i):=λi=>by rw[hfr];exact Aj ..
    rw[<-hfr];refine hN1 _ _ ?_;have key:∀q,q∈(j++[r]).map (·.1)↔q∈j.map (·.1)∨q=r.1:=λq=>by simp
    have more:∀q i,(∃e∈j++[r],e.2.testBit i=true/\(gv bl e.1).testBit i=false/\gz I ts mv e.1 q)↔(∃e∈j,e.2.testBit i=true/\(gv bl e.1).testBit i=false/\gz I ts mv e.1 q)∨(u.testBit i=true/\gz I ts mv r.1 q):=λq i=>by
     rw[frb,zbB,Bool.not_eq_true'];constructor
     ·rintro⟨e,he,g1,g2,g3⟩;obtain he|he:=zbE.mp he
      ·exact .inl ⟨e,he,g1,g2,g3⟩
      ·obtain rfl:=zaS.mp he;exact .inr ⟨⟨g1,g2⟩,g3⟩
     ·rintro(⟨e,he,g⟩|⟨⟨g1,g2⟩,g3⟩)
      ·refine⟨e,by simp[he],g⟩
      ·refine⟨r,by simp,g1,g2,g3⟩
    push_cast[k8,uR];refine⟨u != 0,by show some ((u:Int) != 0)=some (u != 0);congr 1;rw[zbQ];simp,fH (λhz=>?_) (λhz=>?_)⟩
    ·push_cast[qw,qx,L8];refine⟨O,rfl,none,_,aM (Ub a),gB E1,none,_,aM (Ub a),gk,gB E1,?_⟩;rw[(jm a r.1).2];refine⟨_,_,rfl,rfl,trivial,O,rfl,_,aM (Ub a),gk,gB E1,lB E1,?_⟩;show gV _ _ _ _ _ (zcG _ O (some (hO w none (gc (enc a) (PN r.1) (.int (Builtin.bitOr (gv a r.1:Nat) u))))));rw[uN,n9,List.set_append_left _ _ (by rw[Ul];exact hbi),Us];obtain⟨v,hb2⟩:∃v,v=gp a r.1 (gv a r.1|||u):=⟨_,rfl⟩
     have hor:gv a r.1|||u≠0:=λz=>by
      grind
     have E3:Ent I n v:=by rw[hb2];exact E1.put hp1 hp2 hor
     have g3:∀q,gv v q=if q∈(j++[r]).map (·.1) then gv bl q|||gv cl q else gv bl q:=λq=>by
      rw[hb2,G6];simp only[key];by_cases hq:q=r.1
      ·subst hq;rw[yIp rfl,yIp (.inr rfl),hb1,hv];refine Nat.eq_of_testBit_eq λi=>?_;rw[Nat.testBit_or,Nat.testBit_or,frb];cases(gv bl r.1).testBit i<;>simp
      grind
     rw[<-hb2];let⟨a3,b3,c3,l13,l23,XI3⟩:=id (Ux v [some (hO w none (enc fl))]);let⟨k,hk,hkx⟩:=zcm.mp hp1;refine p8 rfl XI3.at_ (by decide+kernel) ⟨_,rfl,g,n,mv,I,ts,r.1.1,r.1.2,k,rfl,Ux v _,hp2,c.nd,hk,hkx,c.tx k hk,c.mo,c.ml,c.tl,c.tw,λL hL ab=>?_⟩;refine bE (λrest δ S'=>∃(l1 l2:List Pl)(f2:List (Pl×Nat))(v6:Option D),rest=l2.map PN/\l1++l2=L/\δ=[some (.loc g),some (.loc O),some (.loc co),some (.loc S.length),some (PN r.1),some (.int u),v6]/\S'=U v++[some (hO w none (enc f2))]/\Ent I n f2/\∀q i,(gv f2 q).testBit i=true↔(gv fl q).testBit i=true∨(q∈l1/\u.testBit i=true)) ?_ ?_ _ _ _ ⟨[],L,fl,v6,rfl,rfl,rfl,rfl,E2,by simp⟩
     ·intro δ S' V;let⟨l1,l2,f2,v6,e4,e5,rfl,rfl,E4,h4⟩:=V;have:l2=[]:=by cases l2 with|nil=>rfl|cons _ _=>simp at e4
      subst this;rw[zbG] at e5;subst e5;refine⟨trivial,hN _ _ ⟨j++[r],rs,v,f2,_,_,_,rfl,by rw[<-e2];simp,rfl,rfl,E3,E4,g3,λq i=>?_⟩⟩;rw[h4,h2,more,ab,and_comm]
     ·intro x xs δ S' N3 V hN3;let⟨l1,l2,f2,v6,e4,e5,rfl,rfl,E4,h4⟩:=V;cases l2 with
      |nil=>simp at e4
      |cons y l2=>
       injection e4 with e4 e6;subst e4;subst e6;have hy:=c.led hp1 ((ab y).mp (by rw[<-e5];simp));have gy  :=sA (c.ok _ hy.1);have at5:∀fx,(U v++[some (hO w none (enc fx))])[S.length]? =some (some (hO w none (enc fx))):=λfx=>by rw[<-Ul v];exact aL
       push_cast[qw,qx,L8];refine⟨S.length,rfl,none,_,at5 _,gB E4,none,_,at5 _,gy,gB E4,?_⟩;rw[(jm f2 y).2];refine⟨_,_,rfl,rfl,trivial,S.length,rfl,_,at5 _,gy,gB E4,lB E4,?_⟩;show N3 _ (zcG _ S.length (some (hO w none (gc (enc f2) (PN y) (.int (Builtin.bitOr (gv f2 y:Nat) u))))));rw[uN,n9,zaz _ _ (by rw[Ul];simp),Ul,zcu];have hor:gv f2 y|||u≠0:=λz=>by
        grind
       refine hN3 _ _ ⟨l1++[y],l2,_,_,rfl,by rw[<-e5];simp,rfl,rfl,E4.put hy.1 hy.2 hor,λq i=>?_⟩;rw[G6]
       grind
    ·have hz  :=by simpa using hz
     refine hN _ _ ⟨j++[r],rs,a,fl,_,_,_,rfl,by rw[<-e2];simp,rfl,rfl,E1,E2,λq=>?_,λq i=>?_⟩
     ·rw[h1];simp only[key];by_cases hq:q∈j.map (·.1)
      ·rw[yIp hq,yIp (.inl hq)]
      ·rw[yIn hq];by_cases hq2:q=r.1
       ·refine Nat.eq_of_testBit_eq λi=>?_
        grind
       ·rw[yIn λz=>z.elim hq hq2]
     ·rw[h2,more,hz];simp
open PySem PySem.Spec L2 M M6 PyProof.Rows
noncomputable abbrev Ck:List Str:=["ground","machine","knots","coming","bits","found","ends","place"]
noncomputable abbrev jq:=Ck.take 3
def jJ:ak Ck jq (ah (top 22)):=L2.bZ
noncomputable def qM(p:Str×Nat):D:=.int (p.2:Nat)
theorem zp:∀(l)(y),(dN (dM l) (l.map qM) (.inr y)).getD (.int 0)=.int (gv l y:Nat)/\(y∈l.map (·.1)->dN (dM l) (l.map qM) (.inr y)=some (.int (gv l y:Nat)))
 |[],y=>⟨rfl,λh=>by simp at h⟩
 |e::l,y=>by
  let⟨h1,h2⟩:=zp l y;unfold dN dM at h1 h2⊢;rw[show List.map (λp=>(Sum.inr p.1:Key)) (e::l)=.inr e.1::l.map λp=>.inr p.1 from rfl,show List.map qM (e::l)=qM e::l.map qM from rfl,zaR,zbO,dU];by_cases h:e.1=y
  ·rw[yIp h,yDt (show(Sum.inr e.1:Key)=.inr y by rw[h])];exact⟨rfl,λ_=>rfl⟩
  ·grind
def QK(l)(y)(v):iO (dM l) (l.map qM) (.inr y) (.int (v:Nat))=.dct (dM (gp l y v)) ((gp l y v).map qM):=by
 have:=uG (dM l,l.map qM) (.inr y,.int v);rw[this];delta sG gp;rw[zm];by_cases h:y∈l.map (·.1)
 ·rw[yDt h,yIp (gR.mpr h)];congr 1
  ·delta dM;rw[zcn];refine zaJ λe _=>?_;lia
  ·delta dM;rw[List.zip_map',zcn,zcn];refine zaJ λe _=>?_;show(if(Sum.inr e.1:Key)=.inr y then D.int v else qM e)=qM (if e.1=y then(e.1,v) else e);by_cases z:e.1=y
   ·rw[yIp z,yIp (by rw[z])];rfl
   simp_all
 ·rw[yDf h,yIn λz=>h (gR.mp z)];delta dM;simp[qM]
theorem xx(k):∀(ps:List (Key×D))(a),gn (ps.foldl sG a).1 k=(gn a.1 k||ps.any λp=>decide (p.1=k))
 |[],a=>by simp
 |p::ps,a=>by
  rw[zbJ,xx k ps,zce,<-Bool.or_assoc];delta sG;by_cases h:gn a.1 p.1=true
  ·lia
  ·rw[yIn h];delta gn;simp
noncomputable def MU(a:List Str)(b:Nat)(i:Nat):Option Pl:=(a[i]?).map λx=>(x,b)
noncomputable def lU(a:List Str)(b:Nat):List (Pl×Nat):=a.zipIdx.map λp=>((p.1,b),2 ^ p.2)
def HQ(a:List Str)(b:Nat):(lU a b).map (·.1)=a.map λx=>(x,b):=by
 delta lU;rw[zcn];have:a=a.zipIdx.map (·.1):=by simp
 conv=>rhs;rw[this,zcn]
 rfl
def zR(h:d.Nodup):((lU d g).map (·.1)).Nodup:=by
 rw[HQ];exact(zbg.mpr (h.imp λa e=>a (by injection e)))
def LR(h:d[i]? =some x):((x,g),2 ^ i)∈lU d g:=by
 refine zcm.mpr ⟨(x,i),?_,rfl⟩;exact zab.mpr h
def BY(q:d.Nodup):(gv (lU d g) k).testBit i=true↔MU d g i=some k:=by
 delta MU;constructor
 ·intro h;have hz:gv (lU d g) k≠0:=λz=>by simp_all
  let⟨⟨x,j⟩,s,e⟩:=zcm.mp (sy hz);have u:2 ^ j=gv (lU d g) k:=congrArg (·.2) e
  grind
 ·intro h;cases o:d[i]? with
  |none=>simp_all
  |some x=>
   rw[o] at h;cases h;rw[fW (zR q) (LR o)];simp
def lX(c:yd n d g k)(o:x∈nms g)(q:z<n)(h:uY (gz g k d) (x,z) F):F.1∈nms g/\F.2<n:=by
 induction h with
 |base=>exact⟨o,q⟩
 |go _ r ih=>exact c.led ih.1 r
def i8(h1:∀k,k<S.length->S'[k]? =S[k]?)(h2:S.length<=S'.length):S'.take S.length=S:=by
 refine zbf λk=>?_;rw[List.getElem?_take];split
 ·next h=>exact h1 k h
 simp_all
def yw(G:Addr)(W:yak):AN:=λv S Q=>∃(g n b:Nat)(u:List Nat)(o:List Mv)(j:List Kn)(q:List Ti)(a:List Str),v=[.loc g,mD n b u o,.lst (a.map D.str)]/\rA G W S g n o j q/\yd n o j q/\b<n/\u.length<=100/\a.Nodup/\(∀x∈a,x∈nms j)/\a.length<=40/\
 ∀fs:List (Str×Nat),(fs.map (·.1)).Nodup->(∀e∈fs,e.1∈nms j/\e.2≠0)->(∀y i,(gv fs y).testBit i=true↔∃x,a[i]? =some x/\∃s∈u,uY (gz j q o) (x,b) (y,s))->Q (.new (.dct (dM fs) (fs.map qM))) S
def Rj(T:Txt K mg C fi G gi)(F:Src K mg "ends_reached" jq (top 22))(U:Def P w K mg base 4 "spread" qB (az K (MX G w))):Def P w K mg base 5 "ends_reached" jq (az K (yw G w)):=by
 refine eE F jJ (λds S Q h=>?_) (λf cdv A outer s H E v=>?_)
 ·let⟨g,n,b,L,Y,kr,ts,a,rfl,_⟩:=h;rfl
 ·refine⟨_,(Xr (Xz 3 jJ.nd (XO (Yg (M.KL (W:=w) v) (by rfl) T.dict (by rfl) (Xq (Yj (caps:=[none,none,some 1]) (c9 (by decide+kernel)) (by rfl) (by rfl) rfl (M.vU (by rfl) T.enumerate (Xs (Xp 2))) (λ_ _ _ _=>(Yl (n:=2) rfl (XM (X6 (i:=0) (by decide+kernel:List.Nodup (["number","knot","machine"]:List Str)) rfl (Or.inl rfl)) (XM (X6 (i:=1) (by decide+kernel:List.Nodup (["number","knot","machine"]:List Str)) rfl (Or.inl rfl)) Yk)))) (λ_ _ _ _=>Yn) (λ_ _ _ _=>(XA (Xq (XA (Xq (Xp 1) (Xq (Xx (Xp 2)) Xw))) (Xq (Xy M.TM Xv (Xp 0)) Xw))))) Xw)))) (Xr (Xz 4 jJ.nd (XO (Yv))) (Xr (M.jh PassesOwn.never (M.Ks (Xp 3)) (Xu (Xz 3 jJ.nd (XO (XQ U v (Xq (Xp 0) (Xq (Xp 4) (Xs (Xp 3))))))))) (Xr (Xz 5 jJ.nd (XO M.gg)) (Xr (Xz 6 jJ.nd (Yg (M.kI v) (by rfl) T.dict (by rfl) (Xq (Yj (caps:=[none]) (c9 (by rfl)) (by rfl) (by rfl) rfl (XZ (Xx (Xp 1))) (λ_ _ _ _=>(X6 (i:=0) (by decide+kernel:List.Nodup (["end"]:List Str)) rfl (Or.inl rfl))) (λ_ _ _ _=>Yn) (λ_ _ _ _=>(XA (Xq (Xp 0) (Xs Ym))))) Xw))) (Xr (Yc PassesOwn.never rfl (M.Nq (W:=w) (Xp 4)) (XG 7 jJ.nd) (Xu (XH (XD (M.Gh v) (Xx (Xp 7)) (Xp 6) rfl) (Xu (M.iF (bU v) (Xp 5) (Xx (Xp 7)) (Xy M.Gj (M.pF (bU v) (Xp 5) (Xx (Xp 7)) Xv ⟨rfl,rfl,rfl,rfl⟩) (M.Ba v (Xp 4) (Xp 7) (λ_ _=>rfl))) rfl)) XT))) (Xu (XC (Xp 5))))))))),λds S Q h=>?_⟩;let⟨g,n,b,L,Y,kr,ts,a,rfl,X0,c,hb,hes,hxn,hx,hxl,q⟩:=h;have e0:aO Ck [.loc g,mD n b L Y,.lst (a.map D.str)]=[some (.loc g),some (mD n b L Y),some (.lst (a.map D.str)),none,none,none,none,none]:=rfl;rw[e0];refine bM λN1 hN1=>?_;push_cast[bx,dh,G2];refine⟨_,rfl,?_⟩;rw[show nj (a.map D.str)=a.zipIdx.map λp=>D.tup [.int (p.2:Nat),.str p.1] by delta nj;rw[List.zipIdx_map,zcn];rfl];have hzi:∀p∈a.zipIdx,p.2<a.length:=λp hp=>by
   grind
  refine bA (α:=Str×Nat) (λp=>D.tup [.int (p.2:Nat),.str p.1]) (λ_=>true) (λp=>.tup [PN (p.1,b),.int ((2 ^ p.2:Nat):Int)]) (λp=>[some (.int (p.2:Nat)),some (.str p.1),some (mD n b L Y)]) (λX=>∃v0 v1,X=[v0,v1,some (mD n b L Y)]) trivial (λj=>⟨_,_,rfl⟩) a.zipIdx [] _ ⟨none,none,rfl⟩ (λz hz X hδ Q' Z=>?_) (λj hj Q' Z=>Z) (λj hj Q' Z=>?_) ?_ ?_
  ·let⟨v0,v1,rfl⟩:=hδ;exact⟨_,rfl,rfl,_,_,rfl,_,_,rfl,rfl,Z⟩
  ·have hj:=hzi j hj;push_cast[mD,aG,dY];refine⟨sz rfl,⟨by lia,by lia,by decide⟩,sz rfl,?_⟩;rw[show(1:Int)*2 ^ ((j.2:Nat):Int).toNat=((2 ^ j.2:Nat):Int) by simp];exact Z
  ·rw[yaf];simp;lia
  rw[zaK.mpr (by simp)];have hbl:(lU a b).length=a.length:=by delta lU;simp
  have hEb:Ent kr n (lU a b):=⟨zR hxn,λe he=>by
   let⟨p,hp,rfl⟩:=zcm.mp he;obtain⟨x,i⟩:=p;have hi:=zab.mp hp;exact⟨hx x (zaF hi),hb,zcr (Nat.two_pow_pos i)⟩⟩
  refine⟨_,enc (lU a b),rfl,by delta enc lU;rw[zcn,zcn];rfl,hEb.good c,by delta enc;rw[zbF];lia,?_⟩;rw[show Dy (enc (lU a b)) []=enc (lU a b) from BH (lU a b) [] (zR hxn)];refine hN1 _ _ ?_;refine bM λN2 hN2=>?_;refine hN2 _ _ ?_;refine bM λN3 hN3=>?_;rw[show zcz (S++[some (hO w none (enc (lU a b)))])=S.length+1 by simp];obtain⟨UU,hUU⟩:∃UU:List (Pl×Nat),UU=(Dv kr n).flatMap λp=>(zcE a.length).map λi=>(p,i):=⟨_,rfl⟩
  have hU:∀p i x,MU a b i=some x->uY (gz kr ts Y) x p->(p,i)∈UU:=λp i x e g=>by
   delta MU at e;cases u:a[i]? with
   |none=>simp_all
   |some y=>
    rw[u] at e;cases e;have hv:=lX c (hx y (zaF u)) hb g;rw[hUU];exact List.mem_flatMap.mpr ⟨p,kL.mpr hv,zcm.mpr ⟨i,zbV.mpr (zaf.mp u).1,rfl⟩⟩
  obtain⟨W,hW⟩:∃W:Nat->aV->aq->Prop,W=λμ X S2=>∃(c0:Nat)(po:Option Obj)(bl cl:List (Pl×Nat)),X=[some (.loc g),some (mD n b L Y),some (.lst (a.map D.str)),some (.loc c0),some (.loc (S.length+1)),none,none,none]/\(∀k,k<S.length->S2[k]? =S[k]?)/\S2[c0]? =some (some (hO w po (enc cl)))/\S2[S.length+1]? =some (some (hO w none (enc bl)))/\S.length+1≠c0/\S.length<=c0/\Ent kr n bl/\Ent kr n cl/\Gs (gz kr ts Y) (MU a b) bl cl/\μ=miss UU bl+(if cl.isEmpty=true then 0 else 1):=⟨_,rfl⟩
  have z0:∀p,gv ([]:List (Pl×Nat)) p=0:=λ_=>rfl;have hG0:Gs (gz kr ts Y) (MU a b) [] (lU a b):=by
   refine⟨λp i z=>?_,λi x z=>.inr ((BY hxn).mpr z),λp i q z=>by simp_all⟩;rw[z0,BY hxn] at z;obtain z|z:=z
   ·simp at z
   ·exact⟨p,z,.base⟩
  refine⟨W,⟨_,by rw[hW];refine⟨S.length,none,[],lU a b,rfl,λk hk=>by rw[zbd,aS hk],aM aL,by rw[show S.length+1=(S++[some (hO w none (enc (lU a b)))]).length by simp];exact aL,by lia,zcA _,.nil,hEb,hG0,rfl⟩⟩,?_⟩;intro μ X S2 hw;rw[hW] at hw;let⟨c0,po,bl,cl,rfl,k2,hc0,O,hne,hle,E1,E2,hG,rfl⟩:=hw;push_cast[Ob];refine⟨c0,rfl,po,_,hc0,E2.good c,by have:=E2.len c;lia,?_⟩;rw[show(enc cl).isEmpty=cl.isEmpty by delta enc;simp];refine fH (λhz=>?_) (λhz=>?_)
  ·have hz:cl.isEmpty=false:=by lia
   refine⟨λδ' S3=>∃μ',μ'<miss UU bl+(if cl.isEmpty=true then 0 else 1)/\W μ' δ' S3,λδ' S3 h=>h,?_⟩;push_cast[bx];refine⟨g,n,Y,kr,ts,S.length+1,c0,po,bl,cl,S.length,rfl,X0.frame λk hk=>(by simp_all),by lia,hle,c,O,hc0,hne,E1,E2,λbl' fl o E3 E4 h1 h2=>?_⟩;have hlt:=CZ hG hU h1 h2 (λe he=>(E4.ok e he).2.2) E4.nd;rw[hz];refine⟨_,hlt,?_⟩;rw[hW];have hl3:(zcG (zcG S2 c0 (some (hO w (some o) (enc cl)))) (S.length+1) (some (hO w none (enc bl')))).length=S2.length:=by simp
   have Uh:=cu O;refine⟨_,none,bl',fl,rfl,λk hk=>?_,aL,aM (bR (by rw[au hne];exact O)),by lia,by lia,E3,E4,hG.step h1 h2,rfl⟩;rw[aS (by lia),au (by lia),au (by lia)];exact k2 k hk
  ·have hz  :=by simpa using hz
   subst hz;refine hN3 _ _ ?_;have hD:=hG.done;refine bM λN4 hN4=>?_;refine hN4 _ _ ?_;refine bM λN5 hN5=>?_;push_cast[dh,gQ,mD,aG,at2,fQ];refine bA (α:=Nat) (λe=>D.int e) (λ_=>true) (λe=>.tup [.int e,.bl true]) (λe=>[some (.int e)]) (λX=>∃v0,X=[v0]) trivial (λj=>⟨_,rfl⟩) L [] _ ⟨none,rfl⟩ (λz hz X hδ Q' Z=>?_) (λj hj Q' Z=>Z) (λj hj Q' Z=>?_) ?_ ?_
   ·let⟨v0,rfl⟩:=hδ;exact Z
   ·push_cast[true_and];exact⟨sz rfl,Z⟩
   ·rw[yaf];simp;lia
   rw[zaK.mpr (by simp)];refine⟨_,L.map λe:Nat=>((.inl e:Key),D.bl true),rfl,by rw[zcn];rfl,by rw[zbF];lia,?_⟩;obtain⟨dk,hdk⟩:∃dk,dk=nF (L.map λe:Nat=>((.inl e:Key),D.bl true)):=⟨_,rfl⟩
   have hdh:∀s:Nat,gn dk.1 (.inl s)=decide (s∈L):=λs=>by
    rw[hdk];delta nF;rw[xx,show gn ([]:List Key) (.inl s)=false from rfl,zcl]
    grind
   rw[<-hdk];refine hN5 _ _ ?_;refine bM λN6 hN6=>?_;refine⟨_,rfl,S.length+1,none,enc bl,rfl,aM O,E1.good c,λo=>?_⟩;have Uh:=cu O;obtain⟨V,hV⟩:∃V,V=S2.set (S.length+1) (some (hO w (some o) (enc bl))):=⟨_,rfl⟩
   have Vl:V.length=S2.length:=by simp_all
   have Vb:V[S.length+1]? =some (some (hO w (some o) (enc bl))):=by rw[hV];exact bR O
   have Vk:∀k,k<S.length->V[k]? =S[k]?:=λk hk=>by rw[hV,au (by lia)];exact k2 k hk
   rw[List.set_append_left _ _ Uh,<-hV,<-Vl];have atf:∀fx,(V++[some fx])[V.length]? =some (some fx):=λfx=>aL;refine bE (λrest X S'=>∃(dn rs:List (Pl×Nat))(fs:List (Str×Nat))(v7:Option D),rest=rs.map (λe=>PN e.1)/\dn++rs=bl/\X=[some (.loc g),some (mD n b L Y),some (.lst (a.map D.str)),some (.loc c0),some (.loc (S.length+1)),some (.loc V.length),some (.dct dk.1 dk.2),v7]/\S'=V++[some (.dct (dM fs) (fs.map qM))]/\(fs.map (·.1)).Nodup/\(∀e∈fs,e.1∈nms kr/\e.2≠0)/\∀y i,(gv fs y).testBit i=true↔∃e∈dn,e.1.1=y/\e.1.2∈L/\e.2.testBit i=true) ?_ ?_ _ _ _ ⟨[],bl,[],none,by delta enc;rw[zcn];rfl,rfl,rfl,rfl,by simp,by grind,λy i=>by simp[gv]⟩
   ·intro X S' zx;let⟨dn,rs,fs,v7,e1,e2,rfl,rfl,f1,f2,f3⟩:=zx;have:rs=[]:=by simp_all
    subst this;rw[zbG] at e2;subst e2;refine⟨aM Vb,hN6 _ _ ?_⟩;push_cast[true_and];refine ki (by lia) (atf _) (i8 (λk hk=>by rw[aS (by lia)];exact Vk k hk) (by rw[zaP];lia)) (cV _ _ (cO λ_ _=>rfl)) (q fs f1 f2 λy i=>?_);rw[f3];constructor
    ·rintro⟨e,he,rfl,h1,h2⟩;rw[<-fW E1.nd he,hD] at h2;let⟨p,hp,v⟩:=h2;unfold MU at hp;cases u:a[i]? with
     |none=>rw[u] at hp;cases hp
     |some x=>
      rw[u] at hp;cases hp;exact⟨x,rfl,e.1.2,h1,v⟩
    ·rintro⟨x,u,s,hs,v⟩;have:=(hD (y,s) i).mpr ⟨(x,b),by delta MU;rw[u];rfl,v⟩;have hz:gv dn (y,s)≠0:=λz=>by grind
     exact⟨_,sy hz,rfl,hs,this⟩
   ·intro x xs' X S' N zx hN;let⟨dn,rs,fs,v7,e1,e2,rfl,rfl,f1,f2,f3⟩:=zx;cases rs with
    |nil=>simp at e1
    |cons r rs=>
     injection e1 with e1 e3;subst e1;subst e3;have v:r∈bl:=by rw[<-e2];simp
     let⟨hp1,hp2,hv0⟩:=E1.ok r v;have hv  :=fW E1.nd v;have gk  :=sA (c.ok _ hp1);refine⟨aM Vb,?_⟩;push_cast[k8,uW,PN,PD,aG,dY];refine⟨_,rfl,?_⟩;rw[hdh,zbY];have step:∀I,(I.map (·.1)).Nodup->(∀e∈I,e.1∈nms kr/\e.2≠0)->(∀y i,(gv I y).testBit i=true↔(gv fs y).testBit i=true∨(r.1.1=y/\r.1.2∈L/\r.2.testBit i=true))->N [some (.loc g),some (mD n b L Y),some (.lst (a.map D.str)),some (.loc c0),some (.loc (S.length+1)),some (.loc V.length),some (.dct dk.1 dk.2),some (PN r.1)] (V++[some (.dct (dM I) (I.map qM))]):=λI g1 g2 g3=>
      hN _ _ ⟨dn++[r],rs,I,_,rfl,by simp_all,rfl,rfl,g1,g2,λy i=>by
       simp_all⟩
     refine fH (λhin=>?_) (λhin=>?_)
     ·push_cast[qy,zZ,Ih,aG,dF];have Dd:aX (V++[some (MO.dct (dM fs) (fs.map qM))]) (.loc V.length)=.dct (dM fs) (fs.map qM):=aA (atf _);have hfl  :=by
       have:=M8.dD f1 λx hx=>by
        let⟨e,he,rfl⟩:=zcm.mp hx;exact(f2 e he).1
       rw[zbF,zbF] at this;exact zcp this c.kl
      refine⟨⟨_,_,Dd⟩,_,_,Dd,by delta dM;simp,.inr r.1.1,rfl,S.length+1,rfl,_,_,aM Vb,gk,E1.good c,_,(jm bl r.1).1 (zcm.mpr ⟨r,v,rfl⟩),?_⟩;rw[(zp fs r.1.1).1];refine⟨_,_,rfl,rfl,trivial,V.length,rfl,dM fs,fs.map qM,.inr r.1.1,rfl,atf _,by rw[zbF];lia,?_⟩;show N _ (zcG _ V.length (some (iO (dM fs) (fs.map qM) (.inr r.1.1) (.int (Builtin.bitOr (gv fs r.1.1:Nat) (gv bl r.1:Nat))))));rw[uN,QK,zaz _ _ (zcA _),zcu,hv];have hor:gv fs r.1.1|||r.2≠0:=λz=>by
       simp_all
      refine step _ (wR f1) (λe he=>?_) λy i=>?_
      ·obtain rfl|he:=G7 he
       ·exact⟨hp1,hor⟩
       ·exact f2 e he
      ·rw[G6]
       grind
     ·have hin  :=λz=>hin (yDt z);exact step fs f1 f2 λy i=>⟨.inl,λz=>z.elim id λz=>absurd z.2.1 hin⟩
open PySem PySem.Spec L2 M M6 PyProof.Rows
noncomputable abbrev IS:List Str:=["web","machine","knot"]
noncomputable abbrev qC:=IS
def SM:ak IS qC (ah (top 20)):=L2.bZ
noncomputable abbrev IU:List Str:=["web","machine","knots","found","told","other"]
noncomputable abbrev mP:=IU.take 2
def vv:ak IU mP (ah (top 21)):=L2.bZ
def vF(h1:∀k,k<S.length->S'[k]? =S[k]?)(h2:S.length<=S'.length)(h:bX ds=true)(q:d (.new (.lst ds)) S):YF S S' (.new (.lst ds)) d:=by
 refine⟨.new (.lst ds),?_,λk o a e=>.inl (by rw[<-h1 k a];exact e),by rw[i8 h1 h2];exact q⟩;show(if jw S.length (.lst ds)=true then _ else _)=_;rw[yIp (show jw S.length (.lst ds)=true from cV _ _ h)]
def K0(j:(d.map (·.1)).Nodup)(o:∀e∈d,e.2≠0){y:Str}:y∈d.map (·.1)↔∃i,(gv d y).testBit i=true:=by
 constructor
 ·intro h;let⟨e,a,rfl⟩:=zcm.mp h;rw[fW j a];exact Nat.exists_testBit_of_ne_zero (o e a)
 ·rintro⟨i,q⟩;have hz:gv d y≠0:=λz=>by simp_all
  exact zcm.mpr ⟨_,sy hz,rfl⟩
def um(c:yd n d g k){l:List Str}(o:l.Nodup)(h:∀x∈l,x∈nms g):l.length<=g.length:=by
 have:=M8.dD o h;simp_all
def Rd(n b:Nat)(es:List Nat)(a:List Mv)(j:List Kn)(ts:List Ti)(x y:Str):Prop:=∃s∈es,uY (gz j ts a) (x,b) (y,s)
def SD{l:List (Str×Str)}(h:∀p∈l,dO p.1=true/\dO p.2=true):B7 (l.map K2):=
 ⟨λk a=>by let⟨t,j,rfl⟩:=zcm.mp a;exact good2 (h t j).1 (h t j).2,λk a=>by let⟨t,_,rfl⟩:=zcm.mp a;refine⟨_,_,oZ t⟩,λk a l o=>by let⟨t,_,rfl⟩:=zcm.mp a;let⟨u,_,rfl⟩:=zcm.mp o;rfl⟩
noncomputable def Fd(a:List Str)(j:List (Str×Nat)):List (Str×Str):=j.flatMap λe=>(a.zipIdx.filter λp=>e.2.testBit p.2).map λp=>(p.1,e.1)
def y9:k∈Fd d g↔∃v i,(k.2,v)∈g/\d[i]? =some k.1/\v.testBit i=true:=by
 delta Fd;rw[List.mem_flatMap];constructor
 ·rintro⟨e,o,h⟩;let⟨z,hz,rfl⟩:=zcm.mp h;let⟨h1,h2⟩:=zbD.mp hz;refine⟨e.2,z.2,o,zab.mp h1,h2⟩
 ·rintro⟨v,i,h1,h2,q⟩;refine⟨_,h1,zcm.mpr ⟨(k.1,i),zbD.mpr ⟨zab.mpr h2,q⟩,rfl⟩⟩
theorem zD(a):∀j:List (Str×Nat),(Fd a j).length<=a.length*j.length
 |[]=>by simp[Fd]
 |e::j=>by
  have o:=zD a j;unfold Fd at o⊢;rw[List.flatMap_cons,zaP,zbF,zby,Nat.mul_succ];have:=zay (λp=>e.2.testBit p.2) a.zipIdx;rw[List.length_zipIdx] at this;lia
theorem NT(o:d.Nodup):∀{j:List (Str×Nat)},(j.map (·.1)).Nodup->(Fd d j).Nodup
 |[],_=>.nil
 |e::j,h=>by
  rw[zcf,zbH] at h;show(_++Fd d j).Nodup;rw[zbh];refine⟨?_,NT o h.2,λp u q s z=>?_⟩
  ·refine zbg.mpr ?_;have hz  :=by
    have:(d.zipIdx.map (·.1)).Nodup:=by simp_all
    exact zbg.mp this
   exact(hz.sublist zaL).imp λh e=>h (by injection e)
  ·let⟨v,i,h1,_⟩:=y9.mp s
   grind
def Hs(a:List Str):nj (a.map D.str)=a.zipIdx.map λp:Str×Nat=>D.tup [.int (p.2:Nat),.str p.1]:=by
 delta nj;rw[List.zipIdx_map,zcn];rfl
def MY(C:Addr)(W:yak):AN:=λv S Q=>∃(u:Nat)(own:List Nat)(n b:Nat)(s:List Nat)(q:List Mv)(j:List Kn)(o:List Ti)(x:Str),v=[.loc u,mD n b s q,.str x]/\bz C W S u own j o/\yd n q j o/\b<n/\s.length<=100/\x∈nms j/\
 ∀a:List Str,a.Nodup->sortedS a=true->(∀y,y∈a↔Rd n b s q j o x y)->(∀y∈a,y∈nms j)->Q (.new (.lst (a.map D.str))) S
def UI(T:Txt K mg C fi G gi)(F:Src K mg "reached" qC (top 20))(o:cY P w K mg base lQ 3 gi d iZ (az K (EN C G w)))(u:Binds K d iZ [])(j:bV P w K mg base 1 C "need_knot" dH (iA C w))(a:Def P w K mg base 5 "ends_reached" jq (az K (yw G w))):Def P w K mg base 6 "reached" qC (az K (MY C w)):=by
 refine eE F SM (λds S Q h=>?_) (λf cdv A outer s H E Z=>?_)
 ·let⟨L,own,n,b,I,v,U,O,x,rfl,_⟩:=h;rfl
 ·refine⟨_,(Xr (XJ (X9 (Xp 0) T.cl j (Z.mono (by decide)) (Xs (Xp 2)))) (Xu (XC (XW (M.pK Z) (by rfl) T.sorted (by rfl) (Xq (XQ a Z (Xq (M.nV T.mksG o u (Z.mono (by decide)) (by rfl) T.mg_Ground (Xq (Xp 0) (Xs (Xp 1)))) (Xq (Xp 1) (Xq (XF (Xs (Xp 2))) Xw)))) Xw))))),λds S Q h=>?_⟩;let⟨L,own,n,b,I,v,U,O,x,rfl,Y,c,hb,hes,hx,q⟩:=h;have e0:aO IS [.loc L,mD n b I v,.str x]=[some (.loc L),some (mD n b I v),some (.str x)]:=rfl;rw[e0];let⟨m0,t0,ee0,cs0,_,hk0,XI⟩:=id Y;push_cast[sW];refine br rfl XI.at_ (by decide+kernel) ⟨_,rfl,L,x,own,U,O,rfl,Y,hx,?_⟩;refine⟨S.length,L,own,U,O,n,b,I,v,rfl,by simp,aL,Y.frame λc hc=>aS (Y.lt c hc),λz=>absurd (Y.lt _ z) (zch _),c.tl,c.n6,c.mo,c.ml,λS2 X2 k2 l2=>⟨rfl,sz rfl,?_⟩⟩;refine⟨S.length,n,b,I,v,U,O,[x],rfl,X2,c,hb,hes,by simp,by grind,by simp,λfs f1 f2 f3=>?_⟩;have hfl  :=by
   have:=um c f1 λy hy=>by
    let⟨e,W,rfl⟩:=zcm.mp hy;exact(f2 e W).1
   rw[zbF] at this;exact zcp this c.kl
  refine⟨_,_,fs.map (·.1),rfl,by rw[zcn];rfl,by rw[zbF];lia,λss hp hs=>?_⟩;have hm:∀y,y∈ss↔Rd n b I v U O x y:=λy=>by
   rw[hp.mem_iff,K0 f1 λe W=>(f2 e W).2];simp only[f3];constructor
   ·rintro⟨i,x',hi,h⟩;cases i with
    |zero=>cases hi;exact h
    |succ i=>simp at hi
   ·intro h;refine⟨0,x,rfl,h⟩
  refine vF (λk hk=>by rw[k2 k hk,aS hk]) (by lia) (cO λ_ _=>rfl) (q ss (hp.nodup_iff.mpr f1) hs hm λy hy=>?_);let⟨e,W,rfl⟩:=zcm.mp (hp.mem_iff.mp hy);exact(f2 e W).1
def EC(C:Addr)(W:yak):AN:=λv S Q=>∃(u:Nat)(own:List Nat)(n b:Nat)(s:List Nat)(q:List Mv)(a:List Kn)(o:List Ti),v=[.loc u,mD n b s q]/\bz C W S u own a o/\yd n q a o/\a.length<=7/\b<n/\s.length<=100/\
 ∀j:List (Str×Str),j.Nodup->OB (j.map K2)->(∀p,p∈j↔p.1∈nms a/\Rd n b s q a o p.1 p.2)->Q (.new (.lst (j.map K2))) S
def UJ(T:Txt K mg C fi G gi)(F:Src K mg "pairs" mP (top 21))(U:cY P w K mg base lQ 3 gi fdg iZ (az K (EN C G w)))(X:Binds K fdg iZ [])(Z:bV P w K mg base 1 C "knots" mL (Ey C w))(a:Def P w K mg base 5 "ends_reached" jq (az K (yw G w))):Def P w K mg base 6 "pairs" mP (az K (EC C w)):=by
 refine eE F vv (λds S Q h=>?_) (λf cdv A outer s H E hr=>?_)
 ·let⟨wb,own,n,b,es,mv,kr,ts,rfl,_⟩:=h;rfl
 ·refine⟨_,(Xr (Xz 2 vv.nd (M.iG (Xp 0) T.cl Z (hr.mono (by decide)))) (Xr (Xz 3 vv.nd (XO (XF Xw))) (Xr (Xz 4 vv.nd (XO (XQ a hr (Xq (M.nV T.mksG U X (hr.mono (by decide)) (by rfl) T.mg_Ground (Xq (Xp 0) (Xs (Xp 1)))) (Xq (Xp 1) (Xs (Xp 2))))))) (Xr (Yc PassesOwn.never rfl (M.Kw (P:=P) (W:=w) (Xp 4)) (XG 5 vv.nd) (Xu (XJ (Ye PySem.F.plainAttrs_list PySem.F.slot_list_extend PySem.F.type_list_extend M.kM (Xp 3) (Xq (Yj (caps:=[none,none,some 5,some 4]) (c9 (by decide+kernel)) (by rfl) (by rfl) rfl (M.vU (by rfl) T.enumerate (Xs (Xp 2))) (λ_ _ _ _=>(Yl (n:=2) rfl (XM (X6 (i:=0) (by decide+kernel:List.Nodup (["number","one","other","told"]:List Str)) rfl (Or.inl rfl)) (XM (X6 (i:=1) (by decide+kernel:List.Nodup (["number","one","other","told"]:List Str)) rfl (Or.inl rfl)) Yk)))) (λ_ _ _ _=>(YB (Yr (Xy M.Gk (Xy M.TL (M.F9 (Xp 3) (Xp 2) (λ_ _=>rfl)) (Xp 0)) Xv)))) (λ_ _ _ _=>(XA (Xq (Xp 1) (Xs (Xp 2)))))) Xw))))) (Xu (XC (XW (M.nX hr) (by rfl) T.sorted (by rfl) (Xs (Xp 3))))))))),λds S Q h=>?_⟩;let⟨wb,own,n,b,es,mv,kr,ts,rfl,X0,c,hk7,hb,hes,q⟩:=h;have e0:aO IU [.loc wb,mD n b es mv]=[some (.loc wb),some (mD n b es mv),none,none,none,none]:=rfl;rw[e0];let⟨m0,t0,ee0,cs0,_,hk0,XI⟩:=id X0;refine bM λN1 hN1=>?_;refine br rfl XI.at_ (by decide+kernel) ⟨wb,own,kr,ts,rfl,X0,λI O=>?_⟩;have hxn  :=O.nodup_iff.mpr c.nd;have hxl:I.length<=7:=by rw[O.length_eq,zbF];exact hk7
  refine hN1 _ _ ?_;refine bM λN2 hN2=>?_;refine⟨zcB _,hN2 _ _ ?_⟩;have Xf:bz C w (S++[some (MO.lst [])]) wb own kr ts:=X0.frame λc hc=>aS (X0.lt c hc);refine bM λN3 hN3=>?_;push_cast[bx,sW];have hl1:(S++[some (MO.lst [])]).length=S.length+1:=by simp
  refine⟨S.length+1,wb,own,kr,ts,n,b,es,mv,by rw[hl1],by simp,by rw[<-hl1];exact aL,Xf.frame λc hc=>aS (Xf.lt c hc),λz=>absurd (X0.lt _ z) (by lia),c.tl,c.n6,c.mo,c.ml,λS2 X2 k2 l2=>⟨rfl,?_⟩⟩;refine⟨S.length+1,n,b,es,mv,kr,ts,I,by rw[hl1],X2,c,hb,hes,hxn,λx hx=>O.mem_iff.mp hx,by lia,λfs f1 f2 f3=>?_⟩;have k3:∀k,k<S.length->S2[k]? =S[k]?:=λk hk=>by rw[k2 k (by lia),aS (by lia),aS hk]
  have a3:S2[S.length]? =some (some (.lst [])):=by rw[k2 _ (by lia),aS (by simp)];exact aL
  refine hN3 _ _ ?_;refine bM λN4 hN4=>?_;refine⟨_,rfl,S2.length,dM fs,fs.map qM,rfl,aL,λo=>?_⟩;rw[zaz _ _ (zcA _),zcu,List.set_cons_zero,show(dM fs).map kD=fs.map λp=>D.str p.1 by delta dM;rw[zcn];rfl];obtain⟨V,hV⟩:∃V:List (Str×Str)->aq,V=λL=>S2.set S.length (some (.lst (L.map K2)))++[some (pG P w o (dM fs) (fs.map qM))]:=⟨_,rfl⟩
  have ls2:=cu a3;have Vp:∀L,(V L)[S2.length]? =some (some (pG P w o (dM fs) (fs.map qM))):=λL=>by
   simp_all
  have Va:∀L,(V L)[S.length]? =some (some (.lst (L.map K2))):=λL=>by rw[hV];exact aM (bR a3)
  have Vs:∀L L',(V L).set S.length (some (.lst (L'.map K2)))=V L':=λL L'=>by
   simp_all
  have Vk:∀L k,k<S.length->(V L)[k]? =S[k]?:=λL k hk=>by
   rw[hV];rw[aS (by rw[zbL];lia),au (by lia)];exact k3 k hk
  have Vl:∀L,S.length<=(V L).length:=λL=>by grind
  have st0:S2++[some (pG P w o (dM fs) (fs.map qM))]=V (Fd I []):=by
   rw[hV];congr 1;refine zbf λk=>?_;by_cases hk:k=S.length
   ·subst hk;rw[bR a3];exact a3
   ·rw[au hk]
  rw[st0];have hfl  :=by
   have:=um c f1 λy hy=>by
    grind
   rw[zbF] at this;exact zcp this hk7
  refine bE (λrest δ S'=>∃(Y rs:List (Str×Nat))(v5:Option D),rest=rs.map (λp=>D.str p.1)/\Y++rs=fs/\δ=[some (.loc wb),some (mD n b es mv),some (.lst (I.map D.str)),some (.loc S.length),some (.loc S2.length),v5]/\S'=V (Fd I Y)) ?_ ?_ _ _ _ ⟨[],fs,none,rfl,rfl,rfl,rfl⟩
  ·intro δ S' zz;let⟨Y,rs,v5,e1,e2,rfl,rfl⟩:=zz;have:rs=[]:=by simp_all
   subst this;rw[zbG] at e2;subst e2;refine⟨Vp _,hN4 _ _ ?_⟩;push_cast[true_and];have hln:=zD I Y;have hok:∀p∈Fd I Y,dO p.1=true/\dO p.2=true:=λp hp=>by
    let⟨v,i,h1,h2,_⟩:=y9.mp hp;exact⟨c.ok _ (O.mem_iff.mp (zaF h2)),c.ok _ (f2 _ h1).1⟩
   refine⟨_,_,true,rfl,.inl (aA (Va _)),(SD hok).to,?_,λks' hp hu=>?_⟩
   ·rw[zbF];have  :=zbX hxl hfl;lia
   ·let⟨ps,hp',rfl⟩:=fh hp;refine vF (λk hk=>Vk _ k hk) (Vl _) (cO λ_ _=>rfl) (q ps (hp'.nodup_iff.mpr (NT hxn f1)) hu λp=>?_);rw[hp'.mem_iff,y9];constructor
    ·rintro⟨v,i,h1,h2,h3⟩;refine⟨O.mem_iff.mp (zaF h2),?_⟩;rw[<-fW f1 h1,f3] at h3;let⟨x',g1,g2⟩:=h3;rw[h2] at g1;cases g1;exact g2
    ·rintro⟨h1,h2⟩;let⟨i,hi⟩:=List.getElem?_of_mem (O.mem_iff.mpr h1);have h3:=(f3 p.2 i).mpr ⟨p.1,hi,h2⟩;have hz:gv Y p.2≠0:=λz=>by grind
     refine⟨_,i,sy hz,hi,h3⟩
  ·intro x xs' δ S' N zz hN;let⟨Y,rs,v5,e1,e2,rfl,rfl⟩:=zz;cases rs with
   |nil=>simp at e1
   |cons r rs=>
    injection e1 with e1 e3;subst e1;subst e3;have hr:r∈fs:=by rw[<-e2];simp
    refine⟨Vp _,?_⟩;push_cast[ou,dh,G2];rw[aA (Va _)];refine⟨rfl,_,rfl,?_⟩;rw[Hs];refine bA (α:=Str×Nat) (λp=>D.tup [.int (p.2:Nat),.str p.1]) (λp=>r.2.testBit p.2) (λp=>K2 (p.1,r.1)) (λp=>[some (.int (p.2:Nat)),some (.str p.1),some (.str r.1),some (.loc S2.length)]) (λδ=>∃v0 v1,δ=[v0,v1,some (.str r.1),some (.loc S2.length)]) trivial (λj=>⟨_,_,rfl⟩) I.zipIdx [] _ ⟨none,none,rfl⟩ (λz hz δ hδ Q' q'=>?_) (λj hj Q' q'=>?_) (λj hj Q' q'=>?_) ?_ ?_
    ·let⟨v0,v1,rfl⟩:=hδ;refine⟨_,rfl,rfl,_,_,rfl,_,_,rfl,rfl,q'⟩
    ·push_cast[uR,zY];have hv  :=fW f1 hr;refine⟨S2.length,rfl,o,_,_,Vp _,by delta dM;simp,.inr r.1,rfl,_,(zp fs r.1).2 (zcm.mpr ⟨r,hr,rfl⟩),_,_,rfl,rfl,by lia,?_⟩;rw[hv];refine⟨_,_,rfl,rfl,trivial,r.2.testBit j.2,?_,q'⟩;show some (Builtin.bitAnd ((r.2 / 2 ^ j.2:Nat):Int) 1 != 0)=some (r.2.testBit j.2);rw[HR];congr 1;delta Nat.testBit;rw[Nat.shiftRight_eq_div_pow,Nat.and_comm 1,zbQ];generalize r.2 / 2 ^ j.2=u;generalize u&&& 1=v;simp
    ·push_cast[true_and];exact⟨sz rfl,q'⟩
    ·rw[yaf];simp;lia
    rw[zbM];have hln:=zD I Y;have hdl:Y.length<=7:=by have:=congrArg zcz e2;rw[zaP] at this;lia
    have hmul  :=zbX hxl hdl;have Ui:=zay (λp=>r.2.testBit p.2) I.zipIdx;rw[List.length_zipIdx] at Ui;refine⟨S.length,_,_,_,rfl,rfl,Va _,.inl rfl,by rw[zbF,zbF,yaf];lia,?_⟩;refine hN _ _ ⟨Y++[r],rs,_,rfl,by rw[<-e2];simp,rfl,?_⟩;rw[show(Fd I Y).map K2++(I.zipIdx.filter λp=>r.2.testBit p.2).map (λp=>K2 (p.1,r.1))=(Fd I (Y++[r])).map K2 by delta Fd;simp];exact Vs _ _
open PySem PySem.Spec L2 M M6 PyProof.Rows
noncomputable abbrev I0:List Str:=["_law_rows_here","_law_machine_here","_law_knot","_law_far","_law_line","_law_steps_here","_law_fresh","_law_pair","_law_side","_law_word","_law_there","_law_behind"]
noncomputable abbrev qE:=I0.take 3
def gZ:ak I0 qE (ah (top 51)):=L2.bZ
theorem GL:∀ps:List Pl,(∀p∈ps,dO p.1=true)->PyData.canLayAll0 (gb (ps.map PN))=true/\PyData.depthAll (gb (ps.map PN))<=1
 |[],_=>⟨rfl,by decide⟩
 |p::ps,h=>by
  let⟨h1,h2⟩:=GL ps λx j=>h x (by simp[j]);have a:=dQ (h p (by simp));simp only[zcf,gb,PyData.canLayAll0,PN,AX,h1];refine⟨?_,?_⟩
  ·simp only[PyData.canLay0,PyData.canLayAll0,zcj] at a⊢;exact a
  ·simp only[PyData.depth,PyData.depthAll];simp_all
def QX{ps:List Pl}(h:∀p∈ps,dO p.1=true):fit (.lst (ps.map PN))=true:=by
 let⟨h1,h2⟩:=GL ps h;delta fit PySem.SeqAt.shaped;have a:bX (ps.map PN)=true:=cO λ_ _=>rfl;simp only[b7,a,py,PyData.canLay0,PyData.depth,h1];exact yDt (by lia)
def TY{ps:List Pl}(e:aX S d=.lst (ps.map PN))(h:∀p∈ps,dO p.1=true)(q:g (.dat (.bl (!ps.isEmpty))) S):L7 d (.lst []) S g:=by
 delta L7;rw[e,iB];refine⟨QX h,by rfl,?_⟩;have:PyData.eqv (py (.lst (ps.map PN))) (py (.lst []))=ps.isEmpty:=by
  cases ps<;>simp[py,gb,PyData.eqv,PyData.eqvAll]
 rw[this];exact q
def WM(j:List Kn)(a:List Mv)(p q:Pl):Prop:=∃m∈a,m.1=p.2/\m.2.2=q.2/\q.1=p.1/\∃k∈j,k.1=p.1/\hold m.2.1 k.2=true
def WN(ts:List Ti)(o:List Mv)(p q:Pl):Prop:=∃m∈o,m.1=p.2/\m.2.2=q.2/\∃a wd j,m.2.1=.step a wd/\stp ts p.1 j/\j.1=side a/\(j.2.1=wd∨wd="*")/\q.1=j.2.2
def zk:gz d g k r q↔WM d k r q∨WN g k r q:=by
 constructor
 ·rintro⟨m,h1,h2,j,⟨a,s⟩|a⟩
  ·exact .inl ⟨m,h1,h2,j,a,s⟩
  ·exact .inr ⟨m,h1,h2,j,a⟩
 ·rintro(⟨m,h1,h2,j,a,s⟩|⟨m,h1,h2,j,a⟩)
  ·refine⟨m,h1,h2,j,.inl ⟨a,s⟩⟩
  ·refine⟨m,h1,h2,j,.inr a⟩
def rS{ts:List Ti}(o:k∈d)(q:∀F∈z,uY (gz d ts r) p0 (k.1,F))(h:Reach r k.2 z F):uY (gz d ts r) p0 (k.1,F):=by
 induction h with
 |base h=>exact q _ h
 |go _ hm hh ih=>exact .go ih (zk.mpr (.inl ⟨_,hm,rfl,rfl,rfl,k,o,rfl,hh⟩))
def rR(v:(nms d).Nodup)(y:k∈d)(h:Reach g k.2 r z)(e:WM d g (k.1,z) q):q.1=k.1/\Reach g k.2 r q.2:=by
 obtain⟨m,x,h1,h2,E,u,o,F,C⟩:=e;obtain rfl:u=k:=pP v o y F;refine⟨E,?_⟩;rw[<-h2];exact .go (by rw[h1];exact h) x C
def wA:g∈eG d k↔stp d k g:=by
 delta eG stp;simp only[zbE,zcm,zbD]
 grind
def vh(ts:List Ti)(k:Str):(eG ts k).length<=2*ts.length:=by
 delta eG
 grind
def Ak:WN d g k q↔∃j,stp d k.1 j/\j.2.2=q.1/\WL g [k.2] j.1 j.2.1 q.2:=by
 constructor
 ·rintro⟨m,h1,h2,v,y,wd,j,a,u,E,C,s⟩;refine⟨j,u,s.symm,m,h1,by simp[h2],?_,v⟩;rw[a];simp only[take,zbB,zbR,decide_eq_true_eq];exact⟨E.symm,C.imp Eq.symm id⟩
 ·rintro⟨j,u,s,m,h1,h2,a,v⟩;cases o:m.2.1 with
  |step y wd=>
   rw[o] at a;simp only[take,zbB,zbR,decide_eq_true_eq] at a;refine⟨m,h1,by simpa using h2,v,y,wd,j,o,u,a.1.symm,a.2.imp Eq.symm id,s.symm⟩
  |_=>rw[o] at a;cases a
structure Jw(W:yak)(S S3:aq)(ln fr:Nat)(fl:List (Pl×Nat))(L G:List Pl):Prop where
 k:∀k,k<S.length->S3[k]? =S[k]?
 f:S3[S.length]? =some (some (hO W none (enc fl)))
 l:S3[ln]? =some (some (.lst (L.map PN)))
 g:S3[fr]? =some (some (.lst (G.map PN)))
 o1:S.length<ln
 o2:ln<fr
def Jw.VL{W:yak}{q:aq}{j o:Nat}{fl a:List (Pl×Nat)}{L G:List Pl}(X:Jw W S q j o fl L G):Jw W S (q.set S.length (some (hO W none (enc a)))) j o a L G:=by
 have h1:=X.o1;have h2:=X.o2;refine⟨λk s=>by rw[au (by lia)];exact X.k k s,bR X.f,by rw[au (by lia)];exact X.l,by rw[au (by lia)];exact X.g,h1,h2⟩
def Jw.VJ{W:yak}{o:aq}{j a:Nat}{fl:List (Pl×Nat)}{L G q:List Pl}(X:Jw W S o j a fl L G):Jw W S (o.set a (some (.lst (q.map PN)))) j a fl L q:=by
 have h1:=X.o1;have h2:=X.o2;refine⟨λk s=>by rw[au (by lia)];exact X.k k s,by rw[au (by lia)];exact X.f,by rw[au (by lia)];exact X.l,bR X.g,h1,h2⟩
structure Jy(kr:List Kn)(ts:List Ti)(mv:List Mv)(p0:Pl)(F L:List Pl)(Ex:Pl->Pl->Prop):Prop where
 nd:F.Nodup
 snd:∀p,p∈F∨p∈L->uY (gz kr ts mv) p0 p
 lU:p0∈F∨p0∈L
 st:∀p q,p∈F∨p∈L->WM kr mv p q->q∈F∨q∈L
 sp:∀p q,p∈F->WN ts mv p q->(q∈F∨q∈L)∨Ex p q
section
variable {kr:List Kn}{ts:List Ti}{mv:List Mv}{p0:Pl}{F L G:List Pl}{Ex:Pl->Pl->Prop}{r:Pl}
def Jy.done(h:Jy kr ts mv p0 F [] (λ_ _=>False))(p):p∈F↔uY (gz kr ts mv) p0 p:=by
 refine⟨λz=>h.snd p (.inl z),λz=>?_⟩
 induction z with
 |base=>exact h.lU.elim id λz=>by simp at z
 |go _ e ih=>
  obtain e|e:=zk.mp e
  ·exact(h.st _ _ (.inl ih) e).elim id λz=>by simp at z
  ·exact(h.sp _ _ ih e).elim (λz=>z.elim id λz=>by simp at z) False.elim
def Jy.skip(h:Jy kr ts mv p0 F (r::L++G) Ex)(a:r∈F):Jy kr ts mv p0 F (L++G) Ex:=by
 have m:∀p,(p∈F∨p∈r::L++G)↔(p∈F∨p∈L++G):=λp=>by
  grind
 refine⟨h.nd,λp z=>h.snd p ((m p).mpr z),(m _).mp h.lU,λp q z e=>(m q).mp (h.st p q ((m p).mpr z) e),λp q z e=>(h.sp p q z e).imp (m q).mp id⟩
end
def M0(W:yak):AN:=λv S Q=>∃(a s n b:Nat)(u:List Nat)(q:List Mv)(j:List lV)(o:List Ti)(x:Str),v=[jK a s,mD n b u q,.str x]/\eU S a s j o/\RO (d8 j) o/\yd n q (d8 j) o/\b<n/\x∈nms (d8 j)/\
 ∀fl:List (Pl×Nat),(fl.map (·.1)).Nodup->(∀p,p∈fl.map (·.1)↔uY (gz (d8 j) o q) (x,b) p)->Q (.new (hO W none (enc fl))) S
def UM(T:Txt K mg C fi G gi)(F:Src K mg "_law_spread" qE (top 51))(v:Def P w K mg base 1 "_law_still" iU (az K Ao))(Z:Def P w K mg base 1 "_law_steps" iV (az K Aq))(ac:Def P w K mg base 1 "_law_by" qG (az K M4)):Def P w K mg base 2 "_law_spread" qE (az K (M0 w)):=by
 refine eE F gZ (λds S Q h=>?_) (λf cdv A outer s H E hr=>?_)
 ·let⟨a,a2,n,b,es,mv,cs,ts,x,rfl,_⟩:=h;rfl
 ·refine⟨_,(Xr (Xz 3 gZ.nd (XO (Yv (W:=w)))) (Xr (M.vR (i:=4) gZ.nd rfl rfl (N:=["_law_stand","_law_knot"]) (caps:=[none,some 2]) (c9 (by decide+kernel)) (by rfl) (by rfl) rfl (XZ (XQ v hr (Xq (Xp 1) (Xq (XF (Xq (Xx (Xp 1)) Xw)) (Xq (Yd (bU hr) (Xx (Xp 0)) (Xp 2) (λ_ _=>rfl)) Xw))))) (λ_ _ _ _=>(X6 (i:=0) (by decide+kernel:List.Nodup (["_law_stand","_law_knot"]:List Str)) rfl (Or.inl rfl))) (λ_ _ _ _=>Yn) (λ_ _ _ _=>(XA (Xq (Xp 1) (Xs (Xp 0)))))) (Xr (Xz 5 gZ.nd Xv) (Xr (M.jh PassesOwn.never (XD (YG hr) (Xp 4) (XF Xw) (aT _)) (Xr (Xz 6 gZ.nd (XO (XF Xw))) (Xr (Yc PassesOwn.never rfl (XZ (Xp 4)) (XG 7 gZ.nd) (Xu (XH (XD (M.Gi (W:=w) hr) (Xp 7) (Xp 3) rfl) (Xr (Yw (W:=w) hr (Xp 3) (Xp 7) (Xp 5) rfl) (Xu (Yc PassesOwn.never rfl (XZ (XQ Z hr (Xq (Xp 0) (Xq (Xx (Xp 7)) Xw)))) (Yl (n:=3) rfl (XM (XG 8 gZ.nd) (XM (XG 9 gZ.nd) (XM (XG 10 gZ.nd) Yk)))) (Xr (Xz 11 gZ.nd (XQ ac hr (Xq (Xp 1) (Xq (XF (Xq (Xx (Xp 7)) Xw)) (Xq (Xp 8) (Xs (Xp 9))))))) (Xu (XJ (Ye PySem.F.plainAttrs_list PySem.F.slot_list_extend PySem.F.type_list_extend M.kM (Xp 6) (Xq (M.cm1 ["_law_stand","_law_there"] [none,some 10] (XZ (XQ v hr (Xq (Xp 1) (Xq (Xp 11) (Xq (Yd (bU hr) (Xx (Xp 0)) (Xp 10) (λ_ _=>rfl)) Xw))))) (λ_ _ _ _=>Yn) (λ_ _ _ _=>(XA (Xq (Xp 1) (Xs (Xp 0)))))) Xw)))))))) XT))) (Xr (Xz 4 gZ.nd (XO (Xp 6))) (Xu (Xz 5 gZ.nd (Xy XU (Xp 5) Xv))))))) (Xu (XC (Xp 3))))))),λds S Q h=>?_⟩;let⟨a,a2,n,b,es,mv,cs,ts,x,rfl,X0,hRO,c,hb,hx,q⟩:=h;have e0:aO I0 [jK a a2,mD n b es mv,.str x]=[some (jK a a2),some (mD n b es mv),some (.str x),none,none,none,none,none,none,none,none,none]:=rfl;rw[e0];refine bM λN1 hN1=>?_;push_cast[bx,sY];refine hN1 _ _ ?_;clear hN1;have XR:∀{S':aq},(∀k,k<S.length->S'[k]? =S[k]?)->eU S' a a2 cs ts:=λh=>X0.kept h;have QO:n<=62:=by have:=c.n6;lia
  have hml:mv.length<=62:=by have:=c.ml;lia
  have hnl:∀u:List Nat,u.Nodup->(∀s∈u,s<n)->u.length<=60:=λu h1 h2=>by have:=iK n u h1 h2;have:=c.n6;lia
  refine bM λN2 hN2=>?_;push_cast[bx,dh,gQ,dG,jK,mD,aG,dF,dY];have k1:∀k,k<S.length->(S++[some (hO w none [])])[k]? =S[k]?:=λk hk=>aS hk;let⟨I,hc0,hcx,gw⟩:=(XR k1).m.get hx;subst hcx;have hk0:(I.1,I.2.1)∈d8 cs:=zcm.mpr ⟨I,hc0,rfl⟩;refine⟨sz rfl,_,_,aA (XR k1).m.dc,_,rfl,_,gw,?_⟩;refine⟨n,b,es,mv,[b],I.2.1,I.2.2,rfl,(XR k1).m.ml I hc0,QO,c.mo,hml,by simpa using hb,by simp,c.tx _ hk0,λu hrn hrs=>?_⟩;have hrl:=hnl u hrn λs hs=>((hrs s).mp hs).lt c.mo (by simpa using hb);show gq (λ_=>True) _ _ _ (u.map λs:Nat=>D.int (s:Int)) _ _ _ _;refine bA (α:=Nat) (λs=>D.int (s:Int)) (λ_=>true) (λs=>PN (I.1,s)) (λs=>[some (.int (s:Int)),some (.str I.1)]) (λδ=>∃v0,δ=[v0,some (.str I.1)]) trivial (λj=>⟨_,rfl⟩) u [] _ ⟨none,rfl⟩ (λz hz δ hδ Q' q'=>?_) (λj hj Q' q'=>q') (λj hj Q' q'=>?_) ?_ ?_
  ·let⟨v0,rfl⟩:=hδ;exact q'
  ·push_cast[true_and];exact⟨sz rfl,q'⟩
  ·rw[yaf];simp;lia
  rw[zbM,zaK.mpr (by simp)];refine hN2 _ _ ?_;clear hN2;rw[show u.map (λs=>PN (I.1,s))=(u.map λs=>(I.1,s)).map PN by rw[zcn];rfl];obtain⟨L0,hL0⟩:∃L0:List Pl,L0=u.map λs=>(I.1,s):=⟨_,rfl⟩
  have mL0:∀p,p∈L0↔p.1=I.1/\Reach mv I.2.1 [b] p.2:=λp=>by
   rw[hL0,zcm];constructor
   ·rintro⟨s,hs,rfl⟩;exact⟨rfl,(hrs s).mp hs⟩
   ·rintro⟨h1,h2⟩;refine⟨p.2,(hrs _).mpr h2,by rw[<-h1]⟩
  have lL0:L0.length<=60:=by rw[hL0,zbF];exact hrl
  rw[<-hL0];clear hL0 hrs hrn hrl;refine bM λN3 hN3=>?_;push_cast[true_and];refine hN3 _ _ ?_;clear hN3;refine bM λN4 hN4=>?_;obtain⟨A,hA⟩:∃A,A=(Dv (d8 cs) n).length:=⟨_,rfl⟩
  have fA:∀{F L:List Pl}{Ex:Pl->Pl->Prop},Jy (d8 cs) ts mv (I.1,b) F L Ex->F.length<=A/\F.length<=2400:=λh=>by
   have hv:=λp o=>lX c hx hb (h.snd p (.inl o));exact⟨by rw[hA];exact M8.dD h.nd λp o=>kL.mpr (hv p o),NS c h.nd hv⟩
  obtain⟨W,hW⟩:∃W:Nat->aV->aq->Prop,W=λμ δ S2=>∃(ln sh:Nat)(fl:List (Pl×Nat))(L:List Pl)(v6 v7 v8 v9 U O:Option D),δ=[some (jK a a2),some (mD n b es mv),some (.str I.1),some (.loc S.length),some (.loc ln),some (.int (sh:Nat)),v6,v7,v8,v9,U,O]/\(∀k,k<S.length->S2[k]? =S[k]?)/\S2[S.length]? =some (some (hO w none (enc fl)))/\S2[ln]? =some (some (.lst (L.map PN)))/\S.length<ln/\Jy (d8 cs) ts mv (I.1,b) (fl.map (·.1)) L (λ_ _=>False)/\μ=(A - fl.length)+(if L.isEmpty=true then 0 else 1):=⟨_,rfl⟩
  have hI0:Jy (d8 cs) ts mv (I.1,b) [] L0 (λ_ _=>False):=by
   refine⟨.nil,λp o=>?_,.inr ((mL0 _).mpr ⟨rfl,.base (by simp)⟩),λp q o hq=>?_,λp q o=>by simp at o⟩
   ·obtain o|o:=o
    ·simp at o
    ·let⟨h1,h2⟩:=(mL0 p).mp o;have:=rS (ts:=ts) (p0:=(I.1,b)) hk0 (λs hs=>by rw[zaS.mp hs];exact .base) h2;rw[show p=(I.1,p.2) from Prod.ext h1 rfl];exact this
   ·obtain o|o:=o
    ·simp at o
    ·let⟨h1,h2⟩:=(mL0 p).mp o;exact .inr ((mL0 q).mpr (rR c.nd hk0 h2 (by rw[show((I.1,I.2.1):Kn).1=I.1 from rfl,<-h1];exact hq)))
  refine⟨W,⟨_,by rw[hW];refine⟨S.length+1,0,[],L0,none,none,none,none,none,none,by rw[show(S++[some (hO w none [])]).length=S.length+1 by simp];rfl,λk hk=>by rw[aS (by simp;lia),aS hk],aM aL,by rw[show S.length+1=(S++[some (hO w none [])]).length by simp];exact aL,by lia,hI0,rfl⟩⟩,?_⟩;clear hI0 mL0 lL0;intro μ δ S2 hw;rw[hW] at hw;let⟨ln,sh,fl,L,v6,v7,v8,v9,U,O,rfl,k2,f2,l2,o2,hI,rfl⟩:=hw;have Wl:∀p∈L,dO p.1=true:=λp o=>c.ok _ (lX c hx hb (hI.snd p (.inr o))).1;simp only[aB,Jv,fy,qv,gu,e8,FQ,Bg,zao,zaq,zcD.injEq,exists_eq_left'];refine⟨zcB _,TY (aA l2) Wl ?_⟩;refine⟨_,rfl,fH (λhz=>?_) (λhz=>?_)⟩
  ·have hz:L.isEmpty=false:=by simpa using hz
   refine⟨λδ' S3=>∃μ',μ'<A - fl.length+(if L.isEmpty=true then 0 else 1)/\W μ' δ' S3,λδ' S3 h=>h,?_⟩;have hln:=cu l2;refine bM λN5 hN5=>?_;push_cast[bx];refine⟨zcB _,hN5 _ _ ?_⟩;clear hN5;refine bM λN6 hN6=>?_;refine zB (qo ?_);have XS:Jw w S (S2++[some (.lst ((List.nil (α:=Pl)).map PN))]) ln S2.length fl L []:=⟨λk hk=>by rw[aS (by lia)];exact k2 k hk,aM f2,aM l2,aL,o2,hln⟩
   refine⟨_,rfl,_,XS.l,?_⟩;obtain⟨sL,hsL⟩:∃sL,sL=S2.length:=⟨_,rfl⟩
   rw[<-hsL] at XS⊢;refine bE (λrest δ S3=>∃(dn u:List Pl)(Y:List (Pl×Nat))(G:List Pl)(v7 v8 v9 U O:Option D),rest=u.map PN/\dn++u=L/\δ=[some (jK a a2),some (mD n b es mv),some (.str I.1),some (.loc S.length),some (.loc ln),some (.int (sh:Nat)),some (.loc sL),v7,v8,v9,U,O]/\Jw w S S3 ln sL Y L G/\Jy (d8 cs) ts mv (I.1,b) (Y.map (·.1)) (u++G) (λ_ _=>False)/\fl.length<=Y.length/\(G≠[]->fl.length<Y.length)/\G.length<=1080*Y.length) ?_ ?_ _ _ _ ⟨[],L,fl,[],v7,v8,v9,U,O,rfl,rfl,rfl,XS,by rw[zbG];exact hI,zcA _,λz=>absurd rfl z,by simp⟩
   ·intro δ S3 V;let⟨dn,u,Y,G,v7,v8,v9,U,O,e1,e2,rfl,X3,I3,g1,g2,g3⟩:=V;have:u=[]:=by cases u with|nil=>rfl|cons _ _=>simp at e1
    subst this;refine⟨X3.l,hN6 _ _ ?_⟩;clear hN6;push_cast[bx];rw[hz];rw[zbM] at I3;have hfA:=(fA I3).1;rw[zbF] at hfA;refine⟨(A - Y.length)+(if G.isEmpty=true then 0 else 1),?_,?_⟩
    ·cases G with
     |nil=>simp;grind
     |cons y G=>have:=g2 (by simp);simp;grind
    ·rw[hW];refine⟨sL,sh+1,Y,G,_,_,_,_,_,_,rfl,X3.k,X3.f,X3.g,by have:=X3.o1;have:=X3.o2;lia,I3,rfl⟩
   ·intro z rest δ S3 N V hN;let⟨dn,u,Y,G,v7,v8,v9,U,O,e1,e2,rfl,X3,I3,g1,g2,g3⟩:=V;cases u with
    |nil=>simp at e1
    |cons r u=>
     rw[zcf] at e1;injection e1 with e1 e3;subst e1;subst e3;refine⟨X3.l,?_⟩;have hrR:=I3.snd r (.inr (by simp));have hrv:=lX c hx hb hrR;have gE:cy (enc Y):=qc λe he=>c.ok _ (lX c hx hb (I3.snd e.1 (.inl (zcm.mpr ⟨e,he,rfl⟩)))).1;have lE:=(fA I3).2;rw[zbF] at lE;push_cast[k8,RE];refine⟨S.length,rfl,none,_,X3.f,sA (c.ok _ hrv.1),gE,?_⟩;simp only[BG];refine fH (λX=>?_) (λX=>?_)
     ·have X:r ∉ Y.map (·.1):=λz=>by rw[gR.mpr z] at X;cases X
      simp only[qw,fy,e8,zao,zaq,zcD.injEq,exists_eq_left'];refine⟨S.length,_,rfl,X3.f,sA (c.ok _ hrv.1),gE,by delta enc;rw[zbF];lia,?_⟩;show gV _ _ _ _ _ (zcG S3 S.length (some (hO w none (gc (enc Y) (PN r) (.int (sh:Nat))))));rw[n9];obtain⟨f4,hf4⟩:∃f4,f4=gp Y r sh:=⟨_,rfl⟩
      have kf4:f4.map (·.1)=Y.map (·.1)++[r]:=by rw[hf4,Bw,yIn λz=>X (gR.mp z)]
      have lf4:f4.length=Y.length+1:=by have:=congrArg zcz kf4;simpa using this
      have mv4:∀p,(p∈f4.map (·.1)∨p∈u++G)↔(p∈Y.map (·.1)∨p∈r::u++G):=λp=>by
       rw[kf4,zbE,zaS,zbx,zcd];constructor
       ·rintro((h|h)|h)
        ·exact .inl h
        ·exact .inr (.inl h)
        ·exact .inr (.inr h)
       ·rintro(h|h|h)
        ·exact .inl (.inl h)
        ·exact .inl (.inr h)
        ·exact .inr h
      rw[<-hf4];have X4:Jw w S (S3.set S.length (some (hO w none (enc f4)))) ln sL f4 L G:=X3.VL;clear hf4 X3;generalize S3.set S.length (some (hO w none (enc f4)))=S4 at X4⊢;refine zB (qo ?_);refine⟨_,rfl,_,rfl,⟨_,dF,?_⟩⟩;refine⟨a,a2,cs,ts,r.1,rfl,XR X4.k,hRO,c.ok _ hrv.1,λus hus=>?_⟩;show jB (λ_=>True) _ _ (us.map T3) _ _ _;have hmu:∀j,j∈us↔stp ts r.1 j:=λj=>hus.mem_iff.trans wA;have hul:us.length<=18:=by rw[hus.length_eq];have:=vh ts r.1;have:=hRO.tl;lia
      refine bE (λrest δ S5=>∃(jd js:List Ti)(G1:List Pl)(v8 v9 U O:Option D),rest=js.map T3/\jd++js=us/\δ=[some (jK a a2),some (mD n b es mv),some (.str I.1),some (.loc S.length),some (.loc ln),some (.int (sh:Nat)),some (.loc sL),some (PN r),v8,v9,U,O]/\Jw w S S5 ln sL f4 L G1/\Jy (d8 cs) ts mv (I.1,b) (f4.map (·.1)) (u++G1) (λp q=>p=r/\∃j∈js,j.2.2=q.1/\WL mv [r.2] j.1 j.2.1 q.2)/\G1.length<=1080*Y.length+60*jd.length) ?_ ?_ _ _ _ ⟨[],us,G,v8,v9,U,O,rfl,rfl,rfl,X4,?_,by simpa using g3⟩
      ·intro δ S5 V;let⟨jd,js,G1,v8,v9,U,O,q1,q2,rfl,X5,I5,h5⟩:=V;have:js=[]:=by cases js with|nil=>rfl|cons _ _=>simp at q1
       subst this;rw[zbG] at q2;subst q2;exact⟨trivial,hN _ _ ⟨dn++[r],u,f4,G1,_,_,_,_,_,rfl,by rw[<-e2];simp,rfl,X5,⟨I5.nd,I5.snd,I5.lU,I5.st,λp q o e=>(I5.sp p q o e).imp id λz=>by simp at z⟩,by lia,λ_=>by lia,by lia⟩⟩
      ·intro y ae δ S5 N' V hN';let⟨jd,js,G1,v8,v9,U,O,q1,q2,rfl,X5,I5,h5⟩:=V;cases js with
       |nil=>simp at q1
       |cons j js=>
        rw[zcf] at q1;injection q1 with q1 q3;subst q1;subst q3;have hj:stp ts r.1 j:=(hmu j).mp (by rw[<-q2];simp);have hjk:j.2.2∈nms (d8 cs)/\dO j.2.1=true:=by
         rcases hj with⟨_,h⟩|⟨_,h⟩
         ·exact⟨(hRO.tk _ h).2.1,rB (hRO.tk _ h).2.2⟩
         ·exact⟨(hRO.tk _ h).1,rB (hRO.tk _ h).2.2⟩
        refine⟨trivial,_,rfl,rfl,_,_,rfl,_,_,rfl,_,_,rfl,rfl,?_⟩;refine bM λN7 hN7=>?_;push_cast[PN,PD,aG,dY];refine⟨sz rfl,n,b,es,mv,[r.2],j.1,j.2.1,rfl,QO,c.mo,hml,by simpa using hrv.2,by simp,hjk.2,λbh hbn hbm=>hN7 _ _ ?_⟩;clear hN7;have hbv:∀s∈bh,s<n:=λs hs=>by
         let⟨m,h1,_,_,h4⟩:=(hbm s).mp hs;rw[<-h4];exact(c.mo m h1).2.2
        push_cast[ou,dh,gQ,dG,jK,aG,dF];rw[aA X5.g];refine⟨rfl,?_⟩;let⟨c1,hc1,ab,gw1⟩:=(XR X5.k).m.get hjk.1;have hk1:(c1.1,c1.2.1)∈d8 cs:=zcm.mpr ⟨c1,hc1,rfl⟩;refine⟨_,_,aA (XR X5.k).m.dc,_,rfl,_,gw1,?_⟩;refine⟨n,b,es,mv,bh,c1.2.1,c1.2.2,rfl,(XR X5.k).m.ml c1 hc1,QO,c.mo,hml,hbv,hbn,c.tx _ hk1,λns hnn hnm=>?_⟩;have hnv:∀s∈ns,s<n:=λs hs=>((hnm s).mp hs).lt c.mo hbv;have Ue:=hnl ns hnn hnv;show gq (λ_=>True) _ _ _ (ns.map λs:Nat=>D.int (s:Int)) _ _ _ _;refine bA (α:=Nat) (λs=>D.int (s:Int)) (λ_=>true) (λs=>PN (j.2.2,s)) (λs=>[some (.int (s:Int)),some (.str j.2.2)]) (λδ=>∃v0,δ=[v0,some (.str j.2.2)]) trivial (λj=>⟨_,rfl⟩) ns [] _ ⟨none,rfl⟩ (λz hz δ hδ Q' q'=>?_) (λj hj Q' q'=>q') (λj hj Q' q'=>?_) ?_ ?_
        ·let⟨v0,rfl⟩:=hδ;exact q'
        ·push_cast[true_and];exact⟨sz rfl,q'⟩
        ·rw[yaf];simp;lia
        rw[zbM,zaK.mpr (by simp),show ns.map (λs=>PN (j.2.2,s))=(ns.map λs=>(j.2.2,s)).map PN by rw[zcn];rfl];obtain⟨NG,hNG⟩:∃NG:List Pl,NG=ns.map λs=>(j.2.2,s):=⟨_,rfl⟩
        have lNG:NG.length<=60:=by rw[hNG,zbF];exact Ue
        have mNG:∀p,p∈NG↔p.1=j.2.2/\Reach mv c1.2.1 bh p.2:=λp=>by
         rw[hNG,zcm];constructor
         ·rintro⟨s,hs,rfl⟩;exact⟨rfl,(hnm s).mp hs⟩
         ·rintro⟨h1,h2⟩;refine⟨p.2,(hnm _).mpr h2,by rw[<-h1]⟩
        rw[<-hNG];clear hNG hnm hnn hnv Ue;have hjl:jd.length<=17:=by have:=congrArg zcz q2;rw[zaP] at this;simp at this;lia
        refine⟨sL,_,_,_,rfl,rfl,X5.g,.inl rfl,by rw[zbF,zbF,yaf];lia,?_⟩;rw[<-zbK];have hm5:∀p,(p∈f4.map (·.1)∨p∈u++(G1++NG))↔((p∈f4.map (·.1)∨p∈u++G1)∨p∈NG):=λp=>by
         rw[<-zbd,zbE (s:=u++G1),or_assoc]
        have hrF:r∈f4.map (·.1):=by rw[kf4];grind
        refine hN' _ _ ⟨jd++[j],js,G1++NG,_,_,_,_,rfl,by rw[<-q2];simp,rfl,X5.VJ,⟨I5.nd,λp o=>?_,(hm5 _).mpr (.inl I5.lU),λp q o e=>?_,λp q o e=>?_⟩,by rw[zaP,zaP];show G1.length+NG.length<=1080*Y.length+60*(jd.length+1);lia⟩
        ·rcases(hm5 p).mp o with o|o
         ·exact I5.snd p o
         ·let⟨h1,h2⟩:=(mNG p).mp o;have:=rS (ts:=ts) (p0:=(I.1,b)) hk1 (λs hs=>uY.go (I5.snd r (.inl hrF)) (zk.mpr (.inr (Ak.mpr ⟨j,hj,ab.symm,(hbm s).mp hs⟩)))) h2;rw[show p=(c1.1,p.2) from Prod.ext (h1.trans ab.symm) rfl];exact this
        ·rcases(hm5 p).mp o with o|o
         ·exact(hm5 q).mpr (.inl (I5.st p q o e))
         ·let⟨h1,h2⟩:=(mNG p).mp o;have:=rR c.nd hk1 h2 (by rw[show((c1.1,c1.2.1):Kn).1=p.1 from ab.trans h1.symm];exact e);exact(hm5 q).mpr (.inr ((mNG q).mpr ⟨this.1.trans ab,this.2⟩))
        ·obtain h|⟨h1,j',h2,h3,h4⟩:=I5.sp p q o e
         ·exact .inl ((hm5 q).mpr (.inl h))
         ·obtain rfl|h2:=zcd.mp h2
          ·exact .inl ((hm5 q).mpr (.inr ((mNG q).mpr ⟨h3.symm,.base ((hbm _).mpr h4)⟩)))
          ·exact .inr ⟨h1,j',h2,h3,h4⟩
      ·refine⟨by rw[kf4,zbh];refine⟨I3.nd,by simp,λx hx y hy e=>X (by rw[<-zaS.mp hy,<-e];exact hx)⟩,λp o=>?_,?_,λp q o e=>?_,λp q o e=>?_⟩
       ·exact I3.snd p ((mv4 p).mp o)
       ·exact(mv4 _).mpr I3.lU
       ·exact(mv4 q).mpr (I3.st p q ((mv4 p).mp o) e)
       ·rw[kf4] at o;obtain o|o:=zbE.mp o
        ·exact .inl ((mv4 q).mpr ((I3.sp p q o e).elim id False.elim))
        ·obtain rfl:p=r:=by simpa using o
         let⟨j,h1,h2,h3⟩:=Ak.mp e;exact .inr ⟨rfl,j,(hmu j).mpr h1,h2,h3⟩
     ·have X:r∈Y.map (·.1):=by
       rw[<-gR];cases h:gh Y r
       ·rw[h] at X;exact absurd rfl X
       ·rfl
      exact hN _ _ ⟨dn++[r],u,Y,G,_,_,_,_,_,rfl,by rw[<-e2];simp,rfl,X3,I3.skip X,g1,g2,g3⟩
  ·have hz:L=[]:=by simpa using hz
   subst hz;refine hN4 _ _ ?_;push_cast[true_and];refine ki (zcA _) f2 (i8 k2 (by have:=cu f2;lia)) (oh _ _ _ _) (q fl hI.nd λp=>hI.done p)
open PySem PySem.Spec L2 M M6 PyProof.Rows
noncomputable abbrev Oi:List Str:=["_law_web","_law_rows_here","_law_machine_here","_law_due","_law_knot","_law_far","_law_some","_law_found"]
noncomputable abbrev xW:=Oi.take 3
def vt:ak Oi xW (ah (top 52)):=L2.bZ
abbrev My(a b:Str):Prop:=a.cps.toList<b.cps.toList
def OR(h:¬My d k)(g:¬My k d):d=k:=by
 have e  :=List.le_antisymm (List.not_lt.mp g) (List.not_lt.mp h);obtain⟨d⟩:=d;simp_all
def SU(l:List Str):Prop:=l.Pairwise My
theorem AL:∀(l)(p),risingS p l=true->(p::l).Pairwise λa b=>¬My b a
 |[],p,_=>List.pairwise_singleton ..
 |x::r,p,h=>by
  have h:(!ltCps x.cps.toList p.cps.toList&&risingS x r)=true:=h;rw[zbB] at h;have o:=AL r x h.2;have q:¬My x p:=by
   have:=h.1;rw[ltCps_eq] at this;lia
  refine zaT.mpr ⟨λy j=>?_,o⟩;obtain rfl|j:=zcd.mp j
  ·exact q
  ·have h2  :=(zaT.mp o).1 y j
   grind
def rG(h:sortedS d=true):d.Pairwise λa b=>¬My b a:=by
 cases d with
 |nil=>exact .nil
 |cons x r=>exact AL r x h
def Et(j:d.Nodup)(h:sortedS d=true):SU d:=by
 have h2  :=j;refine((rG h).and h2).imp λ{a b} ⟨h1,h2⟩=>?_;by_cases c:My a b
 ·exact c
 ·exact absurd (OR c h1) h2
theorem MT:∀{l m:List Str},SU l->SU m->(∀y,y∈l↔y∈m)->l=m
 |[],[],_,_,_=>rfl
 |[],y::m,_,_,h=>by have:=(h y).mpr (by simp);simp_all
 |x::l,[],_,_,h=>by have:=(h x).mp (by simp);simp_all
 |x::l,y::m,hl,hm,h=>by
  have h1:=zaT.mp hl;have h2:=zaT.mp hm;have e:x=y:=by
   grind
  subst e;rw[MT h1.2 h2.2 λz=>?_]
  grind
def Xb(p q):fV (py (K2 p)) (py (K2 q))=if p.1=q.1 then decide (My p.2 q.2) else decide (My p.1 q.1):=by
 rw[oZ,oZ];by_cases h:p.1=q.1
 ·by_cases h2:p.2=q.2
  ·simp[fV,cU,h,h2]
  ·simp[fV,cU,h,h2]
 ·simp[fV,cU,h]
theorem oH:∀{l m:List (Str×Str)},l.Nodup->OB (l.map K2)->OB (m.map K2)->m.Perm l->l=m
 |[],m,_,_,_,hp=>by simp_all
 |a::l,[],_,_,_,hp=>by simp_all
 |a::l,b::m,hn,hl,hm,hp=>by
  have o:∀x y,b8 (py (K2 x)) (py (K2 y))=true:=λx y=>by rfl
  have q:∀{x y:Str×Str},x≠y->fV (py (K2 y)) (py (K2 x))=false->fV (py (K2 x)) (py (K2 y))=true:=λ{x y} j h=>by
   obtain z|z:=zd _ _ (o x y) (λe=>j (o6 e))
   ·exact z
   simp_all
  have h1:=zaT.mp (show((a::l).map K2).Pairwise _ from hl);have h2:=zaT.mp (show((b::m).map K2).Pairwise _ from hm);have e:a=b:=by
   grind
  subst e;rw[oH (zbH.mp hn).2 h1.2 h2.2 hp.cons_inv]
theorem pU{α:Type}{f:α->D}:∀l:List α,(∀a∈l,(py (f a)).canLay0=true/\(py (f a)).depth<=1/\PyData.eqv (py (f a)) (py (f a))=true)->PyData.canLayAll0 (gb (l.map f))=true/\PyData.depthAll (gb (l.map f))<=1/\PyData.eqvAll (gb (l.map f)) (gb (l.map f))=true
 |[],_=>⟨rfl,by simp[gb,PyData.depthAll],rfl⟩
 |a::l,h=>by
  let⟨h1,h2,o⟩:=pU l λx j=>h x (by simp[j]);let⟨s,u,q⟩:=h a (by simp);simp only[zcf,gb,PyData.canLayAll0,PyData.depthAll,PyData.eqvAll,h1,o,s,q,zci];refine⟨trivial,by lia,trivial⟩
def jb{α:Type}{f:α->D}{l:List α}(o:∀a∈l,b7 (f a)=true)(h:∀a∈l,(py (f a)).canLay0=true/\(py (f a)).depth<=1/\PyData.eqv (py (f a)) (py (f a))=true)(u:aX S d=.lst (l.map f))(s:aX S g=.lst (l.map f)):(k (.dat (.bl false)) S->L7 d g S k)/\(k (.dat (.bl true)) S->Sa d g S k):=by
 let⟨h1,h2,C⟩:=pU l h;have j:fit (.lst (l.map f))=true:=by
  delta fit PySem.SeqAt.shaped;have o  :=cO o;simp only[b7,o,py,PyData.canLay0,PyData.depth,h1];exact yDt (by lia)
 have v:PyData.eqv (py (.lst (l.map f))) (py (.lst (l.map f)))=true:=by exact C
 refine⟨λq=>?_,λq=>?_⟩
 ·delta L7;rw[u,s];refine⟨j,j,by rw[v];exact q⟩
 ·delta Sa;rw[u,s];refine⟨j,j,by rw[v];exact q⟩
def kP(h:dO x=true):(py (D.str x)).canLay0=true/\(py (D.str x)).depth<=1/\PyData.eqv (py (D.str x)) (py (D.str x))=true:=⟨dQ h,by simp[py,PyData.depth],by simp[py,PyData.eqv]⟩
def QA(h1:dO d.1=true)(h2:dO d.2=true):(py (K2 d)).canLay0=true/\(py (K2 d)).depth<=1/\PyData.eqv (py (K2 d)) (py (K2 d))=true:=by
 rw[oZ];refine⟨?_,by simp[PyData.depth,PyData.depthAll],by simp[PyData.eqv,PyData.eqvAll]⟩;simp only[PyData.canLay0,PyData.canLayAll0,zcj,zbB];exact⟨dQ h1,dQ h2⟩
structure Sm(kr ks:List Kn)(ts ts':List Ti):Prop where
 n:∀x,x∈nms kr↔x∈nms ks
 m:∀k∈kr,∀j∈ks,k.1=j.1->∀y,y∈k.2↔y∈j.2
 t:∀t,t∈ts↔t∈ts'
def K8(h:∀y,y∈g↔y∈k):hold d g=hold d k:=by
 cases d with
 |mk b' m=>
  simp only[hold];simp_all
 |_=>rfl
theorem Sm.symm(h:Sm d g r ts'):Sm g d ts' r:=⟨λx=>(h.n x).symm,λk o j q e y=>(h.m j q k o e.symm y).symm,λt=>(h.t t).symm⟩
def Sm.T6(h:Sm d g r ts')(e:gz d r J O q):gz g ts' J O q:=by
 let⟨m,h1,h2,F,E⟩:=e;refine⟨m,h1,h2,F,E.imp (λ⟨C,k,v,u,y⟩=>?_) λ⟨L,wd,j,I,H,G⟩=>⟨L,wd,j,I,?_,G⟩⟩
 ·let⟨j,x,a⟩:=zcm.mp ((h.n O.1).mp (zcm.mpr ⟨k,v,u⟩));refine⟨C,j,x,a,by rw[<-K8 (h.m k v j x (u.trans a.symm))];exact y⟩
 ·exact H.imp (λz=>⟨z.1,(h.t _).mp z.2⟩) λz=>⟨z.1,(h.t _).mp z.2⟩
def uY.imp{α:Type}[DecidableEq α]{R a:α->α->Prop}(h:∀p q,R p q->a p q){s p:α}(r:uY R s p):uY a s p:=by
 induction r with
 |base=>exact .base
 |go _ e ih=>exact .go ih (h _ _ e)
def Sm.rd(h:Sm d g k ts'):Rd n r z F d k x J↔Rd n r z F g ts' x J:=
 ⟨x1_1 λs h1 h2=>⟨s,h1,h2.imp λp q=>h.T6⟩,x1_1 λs h1 h2=>⟨s,h1,h2.imp λp q=>h.symm.T6⟩⟩
def vG(h1:∀k,k<S.length->S'[k]? =S[k]?)(h2:S.length<=S'.length)(q:d (.dat (.bl b)) S):YF S S' (.dat (.bl b)) d:=
 ⟨.dat (.bl b),rfl,λk o a e=>.inl (by rw[<-h1 k a];exact e),by rw[i8 h1 h2];exact q⟩
theorem vS{α j:Type}(es:List j):∀l:List α,(l.flatMap λx=>es.map λs=>(x,s)).length=l.length*es.length
 |[]=>by simp
 |a::l=>by rw[List.flatMap_cons,zaP,vS es l,zbF,zby,Nat.succ_mul];lia
def OQ(C:Addr)(W:yak):AN:=λE S Q=>∃(v:Nat)(own:List Nat)(a y n b:Nat)(x:List Nat)(u:List Mv)(q:List Kn)(j:List Ti)(s:List lV)(o:List Ti),E=[.loc v,jK a y,mD n b x u]/\bz C W S v own q j/\eU S a y s o/\RO (d8 s) o/\Sm q (d8 s) j o/\yd n u q j/\yd n u (d8 s) o/\q.length<=7/\b<n/\x.length<=8/\Q (.dat (.bl true)) S
def Wx(T:Txt K mg C fi G gi)(F:Src K mg "_law_right" xW (top 52))(I:Def P w K mg base 2 "_law_spread" qE (az K (M0 w)))(X:Def P w K mg base 6 "reached" qC (az K (MY C w)))(W:Def P w K mg base 6 "pairs" mP (az K (EC C w))):Def P w K mg base 7 "_law_right" xW (az K (OQ C w)):=by
 refine eE F vt (λds S Q h=>?_) (λf cdv A outer s H E Z=>?_)
 ·let⟨wb,own,a,a2,n,b,O,Y,kr,U,cs,ts,rfl,_⟩:=h;rfl
 ·refine⟨_,(Xr (Xz 3 vt.nd (XF Xw)) (Xr (Yc PassesOwn.never rfl (XZ (XW M.Gf (by rfl) T.sorted (by rfl) (Xq (Yg (M.uf Z) (by rfl) T.list (by rfl) (Xq (Xx (Xp 1)) Xw)) Xw))) (XG 4 vt.nd) (Xr (Xz 5 vt.nd (XO (XQ I Z (Xq (Xp 1) (Xq (Xp 2) (Xs (Xp 4))))))) (Xr (Xz 6 vt.nd (M.vV rfl (by rfl) T.sorted (by rfl) T.set (Yj (caps:=[none,some 2]) (c9 (by rfl)) (by rfl) (by rfl) rfl (XZ (Yg (M.Be Z) (by rfl) T.list (by rfl) (Xs (Xp 5)))) (λ_ _ _ _=>(X6 (i:=0) (by decide+kernel:List.Nodup (["_law_pair","_law_machine_here"]:List Str)) rfl (Or.inl rfl))) (λ_ _ _ _=>(YB (XD (Yy Z) (Xx (Xp 0)) (Xx (Xp 1)) rfl))) (λ_ _ _ _=>(Xx (Xp 0)))))) (Xr (Xz 7 vt.nd (XO (XQ X Z (Xq (Xp 0) (Xq (Xp 2) (Xs (Xp 4))))))) (Xr (XH (Yu (YW (YD (Yr (XW M.Nt (by rfl) T.isinstance (by rfl) (Xq (Xp 7) (Xq (M.A8 "list" (by rfl) T.list (by rfl)) Xw))))) (YX (XD (YG Z) (Xp 7) (Xp 6) (aT _))))) (Xu (XC Ym)) XT) (Xr (XJ (Ye PySem.F.plainAttrs_list PySem.F.slot_list_append PySem.F.type_list_append Yq (Xp 7) (Xs XE))) (Xu (Xz 3 vt.nd (Xy XU (Xp 3) (Yj (caps:=[none,some 4]) (c9 (by rfl)) (by rfl) (by rfl) rfl (XZ (Xp 6)) (λ_ _ _ _=>(X6 (i:=0) (by decide+kernel:List.Nodup (["_law_other","_law_knot"]:List Str)) rfl (Or.inl rfl))) (λ_ _ _ _=>Yn) (λ_ _ _ _=>(XA (Xq (Xp 1) (Xs (Xp 0))))))))))))))) (Xr (Xz 7 vt.nd (XO (XQ W Z (Xq (Xp 0) (Xs (Xp 2)))))) (Xr (XH (Yu (YW (YD (Yr (XW M.Nt (by rfl) T.isinstance (by rfl) (Xq (Xp 7) (Xq (M.A8 "list" (by rfl) T.list (by rfl)) Xw))))) (YX (XD (YG Z) (Xp 7) (Xp 3) (aT _))))) (Xu (XC Ym)) XT) (Xr (XJ (Ye PySem.F.plainAttrs_list PySem.F.slot_list_append PySem.F.type_list_append Yq (Xp 7) (Xq (XA (Xq XE (Xs XE))) Xw))) (Xu (XC (YA (X7 Z) (XQ W Z (Xq (Xp 0) (Xs (Xp 2)))) (Xp 3) (aT _))))))))),λds S Q h=>?_⟩;let⟨wb,own,a,a2,n,b,O,Y,kr,U,cs,ts,rfl,X0,R0,hRO,hSm,ck,cs',hk7,hb,hes,q⟩:=h;have e0:aO Oi [.loc wb,jK a a2,mD n b O Y]=[some (.loc wb),some (jK a a2),some (mD n b O Y),none,none,none,none,none]:=rfl;rw[e0];have XK:∀{S':aq},(∀k,k<S.length->S'[k]? =S[k]?)->bz C w S' wb own kr U:=λh=>X0.frame λk hk=>h k (X0.lt k hk);have RK:∀{S':aq},(∀k,k<S.length->S'[k]? =S[k]?)->eU S' a a2 cs ts:=λh=>R0.kept h;refine bM λN1 hN1=>?_;refine⟨zcB _,hN1 _ _ ?_⟩;refine bM λN2 hN2=>?_;refine zB (qo ?_);push_cast[uV,jK,aG,dF];have hcn  :=by have:=hRO.nd;rwa [DV] at this
  have hcl  :=by have:=hRO.k6;rwa [d8,zbF] at this
  refine⟨dM cs,⟨_,aA R0.m.dc⟩,?_⟩;refine⟨_,rfl,.inl ⟨cs.map (·.1),by delta dM;rw[zcn,zcn];rfl,by rw[zbF];lia,λsk L hs=>?_⟩⟩;have hsn  :=L.nodup_iff.mpr hcn;have hsu:=Et hsn hs;have hsm:∀x,x∈sk↔x∈nms (d8 cs):=λx=>by rw[DV];exact L.mem_iff
  have hsl:sk.length<=6:=by rw[L.length_eq,zbF];exact hcl
  refine bE (λrest δ S'=>∃(dn rs:List Str)(DU:List (Str×Str))(v4 v5 v6 v7:Option D),rest=rs.map D.str/\dn++rs=sk/\δ=[some (.loc wb),some (jK a a2),some (mD n b O Y),some (.lst (DU.map K2)),v4,v5,v6,v7]/\(∀k,k<S.length->S'[k]? =S[k]?)/\S.length<=S'.length/\DU.Nodup/\OB (DU.map K2)/\(∀p,p∈DU↔p.1∈dn/\Rd n b O Y kr U p.1 p.2)/\(∀p∈DU,p.1∈nms kr/\p.2∈nms kr)/\DU.length<=100*dn.length) ?_ ?_ _ _ _ ⟨[],sk,[],none,none,none,none,rfl,rfl,rfl,λk hk=>rfl,zcA _,.nil,.nil,by simp,by grind,by simp⟩
  ·intro δ S1 zx;let⟨dn,rs,DU,v4,v5,v6,v7,e1,e2,rfl,k1,l1,g1,g2,g3,g4,g5⟩:=zx;have:rs=[]:=by simp_all
   subst this;rw[zbG] at e2;subst e2;refine⟨trivial,hN2 _ _ ?_⟩;have hok  :=λp L=>QA (ck.ok _ (g4 p L).1) (ck.ok _ (g4 p L).2);have same:∀ps,ps.Nodup->OB (ps.map K2)->(∀p,p∈ps↔p.1∈nms kr/\Rd n b O Y kr U p.1 p.2)->ps=DU:=λps h1 h2 h3=>by
    refine oH h1 h2 g2 ((zad g1 h1).mpr λp=>?_);rw[g3,h3,hsm,hSm.n]
   refine bM λN3 hN3=>?_;push_cast[bx];refine⟨wb,own,n,b,O,Y,kr,U,rfl,XK k1,ck,hk7,hb,by lia,λps h1 h2 h3=>hN3 _ _ ?_⟩;obtain rfl:=same ps h1 h2 h3;refine bM λN4 hN4=>?_;push_cast[k8,R9,zV,uR,Mb];refine⟨true,by rw[aA aL];rfl,?_⟩;rw[yIn (by decide)];refine(jb (λ_ _=>rfl) hok (aA aL) rfl).1 ⟨_,rfl,?_⟩;refine hN4 _ _ ?_;refine bM λN5 hN5=>?_;push_cast[ou];rw[aA aL];refine⟨rfl,sz rfl,S1.length,_,_,rfl,rfl,aL,by rw[zbF,yaf];lia,hN5 _ _ ?_⟩;rw[zaz _ _ (zcA _),zcu];push_cast[true_and];have k2:∀o k,k<S.length->(S1++[o])[k]? =S[k]?:=λo k hk=>by rw[aS (by lia)];exact k1 k hk
   refine⟨wb,own,n,b,O,Y,kr,U,rfl,XK (k2 _),ck,hk7,hb,by lia,λqs h4 h5 h6=>?_⟩;obtain rfl:qs=ps:=oH h4 h5 h2 ((zad h1 h4).mpr λp=>by rw[h3,h6]);exact(jb (λ_ _=>rfl) hok rfl rfl).2 (vG (k2 _) (by rw[zaP];lia) q)
  ·intro y xs δ S1 N zx hN;let⟨dn,rs,DU,v4,v5,v6,v7,e1,e2,rfl,k1,l1,g1,g2,g3,g4,g5⟩:=zx;cases rs with
   |nil=>simp at e1
   |cons r rs=>
    injection e1 with e1 e3;subst e1;subst e3;have hrk  :=(hsm r).mp (by rw[<-e2];simp);refine⟨trivial,?_⟩;refine bM λN3 hN3=>?_;push_cast[bx];refine⟨a,a2,n,b,O,Y,cs,ts,r,rfl,RK k1,hRO,cs',hb,hrk,λfl f1 f2=>hN3 _ _ ?_⟩;have fv  :=λp L=>lX cs' hrk hb ((f2 p).mp L);have gE  :=qc λe he=>cs'.ok _ (fv e.1 (zcm.mpr ⟨e,he,rfl⟩)).1;have lE:(enc fl).length<=360:=by
     have h:=M8.dD f1 (λp L=>kL.mpr (fv p L));rw[xO,zbF] at h;have  :=zbX hRO.k6 cs'.n6;delta enc;rw[zbF];lia
    refine bM λN4 hN4=>?_;push_cast[xR,dh,gQ,fQ];refine⟨S1.length,none,enc fl,rfl,aL,gE,by omega,?_⟩;obtain⟨ks,hks⟩:∃ks,ks=fl.map (·.1):=⟨_,rfl⟩
    rw[show(enc fl).map (·.1)=ks.map PN by rw[hks];delta enc;rw[zcn,zcn];rfl];rw[<-hks] at f1 f2 fv;refine bA PN (λp=>decide (p.2∈O)) (λp=>.str p.1) (λp=>[some (PN p),some (mD n b O Y)]) (λδ=>∃v0,δ=[v0,some (mD n b O Y)]) trivial (λj=>⟨_,rfl⟩) ks [] _ ⟨none,rfl⟩ (λz hz δ hδ Q' q'=>?_) (λj hj Q' q'=>?_) (λj hj Q' q'=>?_) ?_ ?_
    ·let⟨v0,rfl⟩:=hδ;exact q'
    ·push_cast[PN,PD,mD,aG,dY,at2];refine ux (.inr rfl) (by lia) ⟨_,rfl,?_⟩;rw[zbY];exact q'
    ·push_cast[PN,PD,aG,dF];exact q'
    ·have:=congrArg zcz hks;delta enc at lE;rw[zbF] at lE this;rw[yaf];simp;lia
    have hfl:(ks.filter λp=>decide (p.2∈O)).length<=48:=by
     have h:=M8.dD (f1.sublist (zaL (p:=λp:Pl=>decide (p.2∈O)))) (m:=(nms (d8 cs)).flatMap λx=>O.map λs=>(x,s)) λp L=>by
      grind
     rw[vS,zbF] at h;have  :=zbX hRO.k6 hes;lia
    refine⟨(ks.filter λp=>decide (p.2∈O)).map (·.1),.inr (by rw[zcn];rfl),by rw[zbF];lia,λso h1 h2 h3=>hN4 _ _ ?_⟩;have som:∀y,y∈so↔Rd n b O Y kr U r y:=λy=>by
     rw[h2,hSm.rd,zcm];constructor
     ·rintro⟨p,L,rfl⟩;let⟨g1,g2⟩:=zbD.mp L;exact⟨p.2,of_decide_eq_true g2,(f2 p).mp g1⟩
     ·rintro⟨s,hs,Z⟩;exact⟨(y,s),zbD.mpr ⟨(f2 _).mpr Z,yDt hs⟩,rfl⟩
    have k2:∀o k,k<S.length->(S1++[o])[k]? =S[k]?:=λo k hk=>by rw[aS (by lia)];exact k1 k hk
    have k3:∀o o' k,k<S.length->(S1++[o]++[o'])[k]? =S[k]?:=λo o' k hk=>by rw[aS (by simp;lia)];exact k2 o k hk
    refine bM λN5 hN5=>?_;push_cast[bx];refine⟨wb,own,n,b,O,Y,kr,U,r,rfl,XK (k2 _),ck,hb,by lia,(hSm.n r).mpr hrk,λss t1 t2 t3 t4=>hN5 _ _ ?_⟩;obtain rfl:ss=so:=MT (Et t1 t2) (Et h1 h3) λy=>(t3 y).trans (som y).symm;have sok  :=λy hy=>ck.ok _ (t4 y hy);have ssl  :=zcp (um ck t1 t4) ck.kl;generalize hO w none (enc fl)=og at*;refine bM λN6 hN6=>?_;push_cast[k8,R9,zV,uR,Mb];refine⟨true,by rw[aA aL];rfl,?_⟩;rw[yIn (by decide)];refine(jb (λ_ _=>rfl) (λy hy=>kP (sok y hy)) (aA aL) rfl).1 ⟨_,rfl,?_⟩;refine hN6 _ _ ?_;refine bM λN7 hN7=>?_;push_cast[ou];rw[aA aL];refine⟨rfl,(S1++[some og]).length,_,_,rfl,rfl,aL,by rw[zbF,yaf];lia,hN7 _ _ ?_⟩;rw[zaz _ _ (zcA _),zcu];push_cast[dh,gQ,fQ];refine bA D.str (λ_=>true) (λy=>K2 (r,y)) (λy=>[some (.str y),some (.str r)]) (λδ=>∃v0,δ=[v0,some (.str r)]) trivial (λj=>⟨_,rfl⟩) ss [] _ ⟨none,rfl⟩ (λz hz δ hδ Q' q'=>?_) (λj hj Q' q'=>q') (λj hj Q' q'=>?_) ?_ ?_
    ·let⟨v0,rfl⟩:=hδ;exact q'
    ·push_cast[true_and];exact⟨sz rfl,q'⟩
    ·rw[yaf];simp;lia
    rw[zbM,zaK.mpr (by simp)];have hdl  :=by have:=congrArg zcz e2;rw[zaP,zby] at this;omega
    refine⟨by rw[zbF,zbF,yaf];lia,?_⟩;rw[show DU.map K2++ss.map (λy=>K2 (r,y))=(DU++ss.map λy=>(r,y)).map K2 by simp];have hnr  :=λx hx=>by
     have:=hsu;rw[<-e2] at this;exact(zaG.mp this).2.2 x hx r (by simp)
    refine hN _ _ ⟨dn++[r],rs,_,_,_,_,_,rfl,by simp_all,rfl,k3 _ _,by simp;lia,?_,?_,λp=>?_,λp L=>?_,by rw[zaP,zbF,zaP];show _<=100*(dn.length+1);lia⟩
    ·grind
    ·rw[zbK];refine zaG.mpr ⟨g2,?_,λx hx y hy=>?_⟩
     ·rw[zcn];refine zbg.mpr ((rG t2).imp λ{u v} h=>?_);show fV (py (K2 (r,v))) (py (K2 (r,u)))=false;rw[Xb,yIp rfl];exact yDf h
     ·let⟨p,L,rfl⟩:=zcm.mp hx;let⟨q,hq,rfl⟩:=zcm.mp hy;rw[Xb]
      (clear hy hrk hsn hcn;grind)
    ·grind
    ·obtain L|L:=zbE.mp L
     ·exact g4 p L
     ·let⟨y,hy,rfl⟩:=zcm.mp L;exact⟨(hSm.n r).mpr hrk,t4 y hy⟩
open PySem PySem.Spec L2 M M6 PyProof.Rows
noncomputable abbrev yK:Stmt:=top 53
noncomputable abbrev IZ:List Str:=["_law_script","_law_cell","_law_machine_here","_law_rows_here","_law_web","_law_k","_law_ds","_law_knots_here","_law_one","_law_tie","_law_mark"]
noncomputable abbrev uZ:=IZ.take 1
def f7:ak IZ uZ (ah yK):=L2.bZ
def qa{α:Type}{f:α->D}{l:List α}(j:∀a∈l,b7 (f a)=true)(h:∀a∈l,(py (f a)).canLay0=true/\(py (f a)).depth<=1/\PyData.eqv (py (f a)) (py (f a))=true):fit (.lst (l.map f))=true:=by
 let⟨h1,h2,o⟩:=pU l h;delta fit PySem.SeqAt.shaped;have j  :=cO j;simp only[b7,j,py,PyData.canLay0,PyData.depth,h1];exact yDt (by lia)
def BE(a:b7 d=true)(h:(py d).canLay0=true/\(py d).depth<=1):fit d=true:=by
 delta fit PySem.SeqAt.shaped;lia
def rN{α:Type}{f:α->D}{l:List α}{x:α}(C:S[d]? =some (some (.lst (l.map f))))(s:∀y∈l,b7 (f y)=true)(h:∀y∈l,(py (f y)).canLay0=true/\(py (f y)).depth<=1/\PyData.eqv (py (f y)) (py (f y))=true)(E:l.Nodup)(j:x∈l)(G:∀y∈l,y≠x->PyData.eqv (py (f y)) (py (f x))=false)(q:∀o:List α,o.Nodup->(∀y,y∈o↔y∈l/\y≠x)->o.length<=l.length->g (.dat .bB) (S.set d (some (.lst (o.map f))))):B5 (.loc d) [f x] S g:=by
 let⟨u,v,rfl⟩:=List.append_of_mem j;refine⟨d,_,f x,u.length,f x,rfl,rfl,C,BE (s x j) ⟨(h x j).1,(h x j).2.1⟩,qa s h,?_,(h x j).2.2,λm H F e=>?_,?_⟩
 ·simp
 ·grind
 ·have e:((u++x::v).map f).eraseIdx u.length=(u++v).map f:=by
   rw[zbK,List.eraseIdx_append_of_length_le (by simp)];simp
  rw[e];refine q (u++v) ?_ (λy=>?_) (by simp)
  ·grind
  grind
def Bt(k)(h:∀Q:Bool->aq->Prop,Q k S->d δ S Q)(j:k=true->g r δ S)(o:k=false->q r δ S):k8 d g q r δ S:=h _ (by
 cases k
 ·exact o rfl
 ·exact j rfl)
def ne_nil{α:Type}{f:α->D}{l:List α}(j:aX S d=.lst (l.map f))(o:∀a∈l,b7 (f a)=true)(h:∀a∈l,(py (f a)).canLay0=true/\(py (f a)).depth<=1/\PyData.eqv (py (f a)) (py (f a))=true)(q:g (.dat (.bl (!l.isEmpty))) S):L7 d (.lst []) S g:=by
 delta L7;rw[j,iB];refine⟨qa o h,by rfl,?_⟩;have:PyData.eqv (py (.lst (l.map f))) (py (.lst []))=l.isEmpty:=by
  cases l<;>simp[py,gb,PyData.eqv,PyData.eqvAll]
 rw[this];exact q
def in_list{α:Type}[DecidableEq α]{f:α->D}{l:List α}{x:α}{y:D}{Q:AK}(o:aX S y=.lst (l.map f))(j:∀a,b7 (f a)=true)(h:∀a∈l,(py (f a)).canLay0=true/\(py (f a)).depth<=1/\PyData.eqv (py (f a)) (py (f a))=true)(s:(py (f x)).canLay0=true/\(py (f x)).depth<=1)(u:aX S (f x)=f x)(v:∀a b,PyData.eqv (py (f a)) (py (f b))=decide (a=b))(q:Q (.dat (.bl (neg != decide (x∈l)))) S):sX neg (f x) y S Q:=by
 delta sX;rw[o,u];refine⟨BE (j x) s,qa (λa _=>j a) h,?_⟩;have:inD (f x) (l.map f)=decide (x∈l):=by
  delta inD
  grind
 rw[this];exact q
def T8(e:aX S g=.lst ds)(h:ia ds k=some d)(q:r (.dat d) S):xU g (.int k) S r:=by
 delta xU;rw[e];refine⟨_,h,q⟩
def zl(h:iH d=true):(py (T3 d)).canLay0=true/\(py (T3 d)).depth<=1/\PyData.eqv (py (T3 d)) (py (T3 d))=true:=by
 have:=nW h;rw[oY];refine⟨?_,by simp[PyData.depth,PyData.depthAll],by simp[PyData.eqv,PyData.eqvAll]⟩;simp only[PyData.canLay0,PyData.canLayAll0,zcj,zbB];refine⟨dQ this.1,dQ this.2.1,dQ this.2.2⟩
def Hq(a b:Ti):PyData.eqv (py (T3 a)) (py (T3 b))=decide (a=b):=by
 let⟨x,v,u⟩:=a;let⟨s,q,o⟩:=b;rw[oY,oY];by_cases h1:x=s<;>by_cases h2:v=q<;>by_cases j:u=o<;>simp[PyData.eqv,PyData.eqvAll,h1,h2,j]
def NU(a b):PyData.eqv (py (.str a)) (py (.str b))=decide (a=b):=by
 rfl
def eU.JS(h:eU S d g r F):eU (S.set g (some (.lst (J.map T3)))) d g r J:=
 ⟨h.m.frame λk q=>au λz=>h.nb (z▸q),bR h.ti,h.nb⟩
noncomputable def fZ(a:List lV)(x:Str)(ms:List Str):List lV:=a.map λd=>if d.1=x then(d.1,ms,d.2.2) else d
def kg(a)(x)(ms):d8 (fZ a x ms)=setM (d8 a) x ms:=by
 delta d8 fZ setM;rw[zcn,zcn];refine zaJ λd _=>?_;lia
theorem Bm:∀{l:List lV}{p q:lV},(l.map (·.2.2)).Nodup->p∈l->q∈l->p.2.2=q.2.2->p=q
 |x::l,p,q,hn,j,a,e=>by
  rw[zcf,zbH] at hn;obtain z|j:=zcd.mp j
  ·grind
  ·obtain y|a:=zcd.mp a
   ·grind
   ·exact Bm hn.2 j a e
def eU.setM(h:eU S g k r F)(y:(r.map (·.1)).Nodup)(u:J∈r):eU (S.set J.2.2 (some (.lst (ms.map D.str)))) g k (fZ r J.1 ms) F:=by
 have x:(fZ r J.1 ms).map (·.2.2)=r.map (·.2.2):=by
  delta fZ;rw[zcn];refine zaJ λd _=>?_;lia
 have C:dM (fZ r J.1 ms)=dM r:=by
  delta fZ dM;rw[zcn];refine zaJ λd _=>?_;lia
 have el:(fZ r J.1 ms).map GH=r.map GH:=by
  delta fZ;rw[zcn];refine zaJ λd _=>?_;show GH (if d.1=J.1 then(d.1,ms,d.2.2) else d:lV)=_;split<;>rfl
 have s:J.2.2∈r.map (·.2.2):=zcm.mpr ⟨J,u,rfl⟩;have q:=zbH.mp h.m.nd;refine⟨⟨by rw[C,el,au (show g≠J.2.2 from λz=>q.1 (by rw[z];exact s))];exact h.m.dc,λd hd=>?_,by rw[x];exact h.m.nd⟩,by rw[au (show k≠J.2.2 from λz=>h.nb (by rw[z];exact zaC _ s))];exact h.ti,by rw[x];exact h.nb⟩;let⟨v,o,rfl⟩:=zcm.mp hd;by_cases e:v.1=J.1
 ·obtain rfl:=uv y o u e;rw[yIp rfl];exact bR (h.m.ml v u)
 ·rw[yIn e,au λz=>?_]
  ·exact h.m.ml v o
  ·exact e (by rw[Bm q.2 o u z])
def kJ(ks)(x)(ms):nms (setM ks x ms)=nms ks:=by
 delta nms setM;rw[zcn];refine zaJ λk _=>?_;lia
def Sm.marks(h:Sm d g r ts')(e:∀y,y∈z↔y∈F):Sm (setM d x z) (setM g x F) r ts':=by
 refine⟨λy=>by rw[kJ,kJ];exact h.n y,λk C j E a y=>?_,h.t⟩;let⟨u,o,rfl⟩:=zcm.mp C;let⟨v,q,rfl⟩:=zcm.mp E;by_cases h1:u.1=x
 ·grind
 ·rw[yIn h1] at a⊢;by_cases h2:v.1=x
  ·simp_all
  ·rw[yIn h2] at a⊢;exact h.m u o v q a y
def RO.marks(h:RO d g)(u:ms.length<=2)(q:ms.Nodup)(s:∀m∈ms,m∈MK):RO (setM d x ms) g:=by
 refine⟨by delta setM;rw[zbF];exact h.k1,by delta setM;rw[zbF];exact h.k6,by rw[kJ];exact h.nd,λk v=>?_,h.tn,h.tl,λt o=>by rw[kJ];exact h.tk t o⟩;let⟨j,a,rfl⟩:=zcm.mp v;have:=h.nm j a;by_cases e:j.1=x
 ·rw[yIp e];refine⟨this.1,u,q,s⟩
 ·rw[yIn e];exact this
def yZ(a:ms.Nodup)(j:∀m∈ms,m∈MK):ms.length<=2:=M8.dD a j
def MF(n:Nat)(a:List Mv):Prop:=n<=60/\(∀m∈a,yc n m)/\a.length<=60
def HG(h:RO d g)(m:MF n r):yd n r d g:=by
 refine⟨h.nd,λk j=>⟨by have:=(h.nm k j).2.1;lia,λy q=>g7 ((h.nm k j).2.2.2 y q)⟩,m.2.1,m.2.2,by have:=h.tl;lia,λt a e=>?_,m.1,by have:=h.k6;lia,λx s=>?_,λt a=>⟨(h.tk t a).1,(h.tk t a).2.1⟩⟩
 ·have:=(h.tk t a).2.2;rw[e] at this;exact absurd this (by decide+kernel)
 ·let⟨k,j,rfl⟩:=zcm.mp s;exact jD (h.nm k j).1
def LI(X:bz C W S wb own q ts')(h:RO g r)(s:Sm q g ts' r)(m:MF n z):yd n z q ts'/\q.length<=6:=by
 have c:=HG h m;let⟨_,_,_,L,_,rfl,X⟩:=X;have o:(nms (L.map Kc.kn)).Nodup:=by rw[eB];exact X.kn
 have E:(L.map Kc.kn).length<=6:=by
  have:=M8.dD o λx v=>(s.n x).mp v;exact zcp (by simp_all) h.k6
 have htl  :=zcp (M8.dD X.tn λt a=>(s.t t).mp a) h.tl;refine⟨⟨o,λk F=>?_,m.2.1,m.2.2,by lia,λt a=>c.tw t ((s.t t).mp a),m.1,by lia,λx v=>c.ok x ((s.n x).mp v),λt a=>?_⟩,E⟩
 ·let⟨d,hd,rfl⟩:=zcm.mp F;let⟨j,I,G⟩:=zcm.mp ((s.n d.kn.1).mp (zcm.mpr ⟨_,F,rfl⟩));have hm  :=λy u=>(h.nm j I).2.2.2 y ((s.m _ F j I G.symm y).mp u);exact⟨by have:=yZ (X.mn d hd) hm;show d.ml.length<=50;lia,λy u=>g7 (hm y u)⟩
 ·have:=c.tk t ((s.t t).mp a);exact⟨(s.n _).mpr this.1,(s.n _).mpr this.2⟩
def wg(h:d.Nodup)(a:x ∉ d):(d++[x]).Nodup:=by
 grind
def rJ(a)(x)(ms):(fZ a x ms).map (·.2.2)=a.map (·.2.2):=by
 delta fZ;rw[zcn];refine zaJ λd _=>?_;lia
def Cs(X:bz C W S wb own g ts')(h:RO r z)(s:Sm g r ts' z)(o:k∈g):k.2.length<=2:=by
 let⟨_,_,_,x,_,rfl,X⟩:=X;let⟨d,hd,rfl⟩:=zcm.mp o;let⟨j,u,q⟩:=zcm.mp ((s.n d.kn.1).mp (zcm.mpr ⟨_,o,rfl⟩));exact yZ (X.mn d hd) λy v=>(h.nm j u).2.2.2 y ((s.m _ o j u q.symm y).mp v)
def D4(X:bz C W S wb own d ts')(h:RO g k)(s:Sm d g ts' k):ts'.length<=9:=by
 let⟨_,_,_,o,_,rfl,X⟩:=X;exact zcp (M8.dD X.tn λt j=>(s.t t).mp j) h.tl
def RZ(C:Addr)(W:yak)(S:aq)(s a b:Nat)(m:Nat):Prop:=∃own u j q o,bz C W S s own u j/\eU S a b q o/\RO (d8 q) o/\Sm u (d8 q) j o/\(∀k∈b::a::q.map (·.2.2),k<s)/\(∀c∈own,s<=c)/\o.length<=m
def LJ(m:MF n d):yd n d [] []:=⟨.nil,by simp,m.2.1,m.2.2,by simp,by simp,m.1,by simp,by simp,by simp⟩
theorem RZ.kept(h:RZ C W S wb d g m)(e:∀k,k<S.length->S'[k]? =S[k]?):RZ C W S' wb d g m:=by
 let⟨own,q,j,u,o,X,R,r⟩:=h;refine⟨own,q,j,u,o,X.frame λk s=>e k (X.lt k s),R.kept e,r⟩
noncomputable def strOf:yai->Option Str
 |.str x _=>some x
 |_=>none
theorem rF:∀{vs:List yai}{ss:List Str},vs.map strOf=ss.map some->Vals (ss.map V.str) vs
 |[],[],_=>.nil
 |v::vs,s::ss,h=>by
  have h1:=List.cons.inj h;refine .cons ?_ (rF h1.2);cases v<;>simp[strOf] at h1;let⟨rfl,_⟩:=h1;exact⟨_,rfl⟩
def Ew(l:K.lookup a=some ⟨.type "tuple",d,.seq its n,sl⟩)(q:(its.toList.map strOf==ss.map some)=true)(h:ss.length<=100)(H):fR K H a (ss.map V.str):=by
 have v:=rF (eq_of_beq q);refine .inr ⟨_,its,n,l,rfl,rfl,?_,v⟩;have:=v.length;rw[zbF] at this;rw[yaf,<-zaN];lia
def CF(q:d (.dat (.bl b)) []):YF [] S' (.dat (.bl b)) d:=vG (λk a=>absurd a (zbP _)) (zcB _) q
def Nj(h:RZ C w S wb d g m)(v:MF n z)(G:k<n)(F:r.length<=8)(q:J (.dat (.bl true)) S):OQ C w [.loc wb,jK d g,mD n k r z] S J:=by
 let⟨own,E,o,H,y,X,R,j,x,_⟩:=h;let⟨I,L⟩:=LI X j x v;refine⟨wb,own,d,g,n,k,r,z,E,o,H,y,rfl,X,R,j,x,I,HG j v,by lia,G,F,q⟩
def EJ:AN:=λa S Q=>∃ns:List Int,a=[.mZ ns]/\S=[]/\Q (.dat (.bl true)) []
def Rf(T:Txt K mg C fi G gi)(F:DZ K "law" "law" yK f fd)(L:Def P w K mg base 1 "_law_cell_at" lO (az K ER))(ab:Def P w K mg base 3 "_law_machine" lH (az K EG))(Z:Def P w K mg base 6 "_law_pattern" lF (az K ED))(ac:Def P w K mg base 4 "machine_of" qD (az K MZ))(aw:Def P w K mg base 2 "_law_rows" lz (az K Ez))(ax:Def P w K mg base 3 "_law_laid" iW (az K (As C w)))(a3:cY P w K mg base lQ 1 fi fdi fS (az K (yv C w)))(a4:Binds K fdi fS [])(a1:Def P w K mg base 6 "pairs" mP (az K (EC C w)))(U:Def P w K mg base 7 "_law_right" xW (az K (OQ C w)))(an:Def P w K mg base 1 "_law_draws" d9 (az K kc))(ag:Def P w K mg base 1 "_law_words" fE (az K nN))(am:Def P w K mg base 1 "_law_marks" fF (az K nO))(ap:bV P w K mg base 2 C "take_tie" iS (Am C w))(ae:bV P w K mg base 2 C "take_mark" iT (An C w))(ar:bV P w K mg base 2 C "put_mark" lA (EA C w))(ay:bV P w K mg base 2 C "put_tie" jo (yu C w)):cY P w K mg base lQ 8 f fd uZ (az K EJ):=by
 refine W6 F f7 (λds S Q h=>?_) (λf cdv A outer s H E O=>?_)
 ·let⟨ns,rfl,_⟩:=h;rfl
 ·refine⟨_,(Xr (Xz 1 f7.nd (XQ L O (Xq (Xp 0) (Xs Xv)))) (Xr (Xz 2 f7.nd (XQ ab O (Xq (Xy YC (Xp 1) Xv) (Xs Xv)))) (Xr (XH (XD (X7 O) (Xy Yb (Xp 1) Xv) Xv (aT _)) (Xu (Xz 2 f7.nd (XQ ac O (Xq (XQ Z O (Xq (Xy YC (Xp 1) Xv) (Xs Xv))) Xw)))) XT) (Xr (Xz 3 f7.nd (XQ aw O (Xq (XQ L O (Xq (Xp 0) (Xs Xv))) (Xs Xv)))) (Xr (Xz 4 f7.nd (XQ ax O (Xs (Xp 3)))) (Xr (XH (Yu (YW (XD (YG O) (XQ a1 O (Xq (M.kF T.Bj a3 a4 (O.mono (by decide)) (by rfl) T.mg_Web) (Xs (Xp 2)))) (XF Xw) (aT _)) (YX (YD (Yr (XQ U O (Xq (Xp 4) (Xq (Xp 3) (Xs (Xp 2)))))))))) (Xu (XC Ym)) XT) (Xr (Yc PassesOwn.never rfl (Ys (by rfl) T.range (Xq (Xy XU Xv (XW Yi (by rfl) T.len (by rfl) (Xq (M.gf M.Bd (Xp 0) (YE Xv) (YE Xv)) Xw))) Xw)) (XG 5 f7.nd) (Xr (Xz 6 f7.nd (XQ an O (Xq (XQ L O (Xq (Xp 0) (Xq (Xy XU Xv (Xp 5)) Xw))) (Xq (XF (Xq Xv (Xq Xv (Xq Xv (Xq Xv (Xq Xv (Xs Xv))))))) Xw)))) (Xr (Xz 7 f7.nd (Yg (M.uf O) (by rfl) T.list (by rfl) (Xq (Xx (Xp 3)) Xw))) (Xr (Xz 8 f7.nd (XX (Xp 7) (Xy Yb (Xx (Xp 6)) (XW Yi (by rfl) T.len (by rfl) (Xs (Xp 7)))))) (Xr (Xz 9 f7.nd (XA (Xq (Xp 8) (Xq (XX (Yx ag (O.mono (by decide)) (by rfl)) (Xx (Xp 6))) (Xq (XX (Xp 7) (Xy Yb (Xx (Xp 6)) (XW Yi (by rfl) T.len (by rfl) (Xs (Xp 7))))) Xw))))) (Xr (Xz 10 f7.nd (XX (Yx am (O.mono (by decide)) (by rfl)) (Xx (Xp 6)))) (Xr (XH (Yu (Yz (XD (X7 O) (Xx (Xp 6)) Xv (aT _)) (YV (XD (YG O) (Xx (Xp 3)) (XF Xw) (aT _))))) (Xr (Xz 9 f7.nd (XX (Xx (Xp 3)) (Xy Yb (Xx (Xp 6)) (XW Yi (by rfl) T.len (by rfl) (Xq (Xx (Xp 3)) Xw))))) (Xr (XJ (X9 (Xp 4) T.cl ap (O.mono (by decide)) (Xq (Xx (Xp 9)) (Xq (Xx (Xp 9)) (Xq (Xx (Xp 9)) Xw))))) (Xu (XJ (Ye PySem.F.plainAttrs_list PySem.F.slot_list_remove PySem.F.type_list_remove (M.wD O) (Xx (Xp 3)) (Xs (Xp 9))))))) (Xu (XH (Yu (Yz (XD (X7 O) (Xx (Xp 6)) Xv (aT _)) (YV (XD (Yy O) (Xp 10) (Yd (bU O) (Xx (Xp 3)) (Xp 8) (λ_ _=>rfl)) rfl)))) (Xr (XJ (X9 (Xp 4) T.cl ae (O.mono (by decide)) (Xq (Xp 8) (Xs (Xp 10))))) (Xu (XJ (Ye PySem.F.plainAttrs_list PySem.F.slot_list_remove PySem.F.type_list_remove (M.wD O) (Yd (bU O) (Xx (Xp 3)) (Xp 8) (λ_ _=>rfl)) (Xs (Xp 10)))))) (Xu (XH (XD (X7 O) (Xx (Xp 6)) Xv (aT _)) (Xr (XJ (X9 (Xp 4) T.cl ar (O.mono (by decide)) (Xq (Xp 8) (Xs (Xp 10))))) (Xu (XJ (Ye PySem.F.plainAttrs_list PySem.F.slot_list_append PySem.F.type_list_append Yq (Yd (bU O) (Xx (Xp 3)) (Xp 8) (λ_ _=>rfl)) (Xs (Xp 10)))))) (Xu (XH (XD (M.nY O) (Xp 9) (Xx (Xp 3)) rfl) (Xr (XJ (X9 (Xp 4) T.cl ay (O.mono (by decide)) (Xq (Xx (Xp 9)) (Xq (Xx (Xp 9)) (Xq (Xx (Xp 9)) Xw))))) (Xu (XJ (Ye PySem.F.plainAttrs_list PySem.F.slot_list_append PySem.F.type_list_append Yq (Xx (Xp 3)) (Xs (Xp 9)))))) XT))))))) (Xu (XH (YD (Yr (XQ U O (Xq (Xp 4) (Xq (Xp 3) (Xs (Xp 2))))))) (Xu (XC Ym)) XT))))))))) (Xu (XC Ym))))))))),λds S Q h=>?_⟩;let⟨ns,rfl,rfl,q⟩:=h;have e0:aO IZ [.mZ ns]=[some (.mZ ns),none,none,none,none,none,none,none,none,none,none]:=rfl;rw[e0];refine bM λN1 h1=>?_;push_cast[true_and];refine⟨ns,0,rfl,λz=>h1 _ _ ?_⟩;refine bM λN2 h2=>?_;push_cast[true_and];refine⟨⟨by decide,by decide⟩,z / 2,rfl,λn0 b0 es0 mv0 hn1 hn4 hb0 bb bc a6 ba=>h2 _ _ ?_⟩;refine bM λN3 h3=>?_;have next:∀n b es mv,MF n mv->b<n->es.length<=8->N3 [some (.mZ ns),some (.int z),some (mD n b es mv),none,none,none,none,none,none,none,none] []:=λn b es mv hm hb hes=>by
   refine h3 _ _ ?_;refine bM λN4 h4=>?_;push_cast[true_and];refine⟨ns,1,rfl,λz1=>⟨z1,rfl,λS1 a a2 cs ts R1 v htl=>h4 _ _ ?_⟩⟩;refine bM λN5 h5=>?_;push_cast[true_and];refine⟨a,a2,cs,ts,rfl,R1,v,λS2 own X2 o2 k2 l2=>h5 _ _ ?_⟩;have hL2:RZ C w S2 S1.length a a2 5:=by
    refine⟨own,(d8 cs).reverse,ts,cs,ts,X2,R1.kept k2,v,⟨λx=>by simp,λk hk j hj e y=>?_,λt=>Iff.rfl⟩,R1.lt,o2,htl⟩;rw[pP v.nd (List.mem_reverse.mp hk) hj e]
   generalize S1.length=wb at hL2;refine bM λN6 h6=>?_;push_cast[k8,R9,zV,uR,sW];refine⟨S2.length,rfl,by simp,aL,λS3 X3 k3 l3=>⟨rfl,?_⟩⟩;refine⟨S2.length,_,n,b,es,mv,[],[],rfl,X3,LJ hm,by simp,hb,by lia,λps p1 p2 p3=>?_⟩;obtain rfl:ps=[]:=List.eq_nil_iff_forall_not_mem.mpr λp hp=>by simpa using((p3 p).mp hp).1
   refine⟨zcB _,?_⟩;refine(jb (f:=D.str) (l:=[]) (by simp) (by simp) rfl rfl).1 ⟨_,rfl,?_⟩;rw[yIn (by decide)];have hL3  :=hL2.kept λk hk=>(k3 k hk).trans (aS hk);refine Nj hL3 hm hb hes ⟨true,rfl,?_⟩;refine h6 _ _ ?_;refine bM λN7 h7=>?_;push_cast[gV,qY,Ma,Dz];obtain⟨L1,hL1,bd⟩:∃L1:List Int,L1=YI ns (some 2) (some 3)/\L1.length<=1:=⟨_,rfl,by
    delta YI;rw[zbq,show(2:Int)=((2:Nat):Int) from rfl,show(3:Int)=((3:Nat):Int) from rfl,HT.jc,HT.jc];lia⟩
   rw[<-hL1];refine⟨L1.length,by simp[ie],by lia,by lia,?_⟩;rw[show((1:Int)+L1.length).toNat=L1.length+1 by lia];refine bE (λrest δ S'=>∃(i:Nat)(v5 v6 v7 v8 v9 v10:Option D),rest=(cQ 0 (L1.length+1)).drop i/\δ=[some (.mZ ns),some (.int z),some (mD n b es mv),some (jK a a2),some (.loc wb),v5,v6,v7,v8,v9,v10]/\RZ C w S' wb a a2 (5+i)) ?_ ?_ _ _ _ ⟨0,none,none,none,none,none,none,rfl,rfl,hL3⟩
   ·intro δ S' V;let⟨i,v5,v6,v7,v8,v9,v10,_,rfl,_⟩:=V;exact⟨trivial,h7 _ _ (CF q)⟩
   ·intro x xs δ S' N V hN;let⟨i,v5,v6,v7,v8,v9,v10,e1,rfl,hL⟩:=V;let⟨g1,rfl,rfl⟩:=oR e1;refine⟨trivial,?_⟩;let⟨own,kr,ts',cs,ts,X,R,v,hS,hlo,how,htl⟩:=id hL;refine bM λN8 h8=>?_;push_cast[true_and];refine⟨ns,2+i,by rfl,λz2=>⟨sz rfl,z2,[4,6,3,6,8,2],rfl,by decide,by decide,λys hl hlt=>h8 _ _ ?_⟩⟩;have get:∀j b,[4,6,3,6,8,2][j]? =some b->∃a,ys[j]? =some a/\a<b:=λj b h=>by
     have hi:j<ys.length:=by rw[hl];exact(zaf.mp h).1
     refine⟨ys[j],zam hi,hlt j _ b (zam hi) h⟩
    let⟨y0,g0,_⟩:=get 0 4 rfl;let⟨y1,gg1,_⟩:=get 1 6 rfl;let⟨y2,g2,l2⟩:=get 2 3 rfl;let⟨y3,g3,_⟩:=get 3 6 rfl;let⟨y4,g4,_⟩:=get 4 8 rfl;let⟨y5,g5,l5⟩:=get 5 2 rfl;refine bM λN9 h9=>?_;push_cast[uV,jK,aG,dF];refine⟨dM cs,⟨_,aA R.m.dc⟩,h9 _ _ ?_⟩;rw[show(dM cs).map kD=(cs.map (·.1)).map D.str by delta dM;rw[zcn,zcn];rfl];have hcn  :=by have:=v.nd;rwa [DV] at this
    have Y:1<=(cs.map (·.1)).length:=by have:=v.k1;rw[d8] at this;simp_all
    obtain⟨kl,hkl⟩:∃kl,kl=cs.map (·.1):=⟨_,rfl⟩
    rw[<-hkl] at hcn Y⊢;have hkm:∀x,x∈kl↔x∈nms (d8 cs):=λx=>by rw[DV,hkl]
    have hle:ie (D.lst (kl.map D.str))=some kl.length:=by simp[ie]
    have hx:∀u,u % kl.length<kl.length:=λu=>zcF _ (by lia);refine bM λN10 h10=>?_;push_cast[cA];refine⟨_,dg gg1,_,hle,?_⟩;push_cast[cA];refine⟨by lia,_,ql (hx y1),h10 _ _ ?_⟩;generalize eA:kl[y1 % kl.length]'(hx y1)=kA;have mA  :=(hkm kA).mp (eA▸zbv _);refine bM λN11 h11=>?_;push_cast[cA];refine⟨rfl,_,dg g2,?_⟩;refine Nn l2 λwd hwd=>⟨_,dg g3,_,hle,?_⟩
    push_cast[cA];refine⟨by lia,_,ql (hx y3),sz rfl,h11 _ _ ?_⟩;generalize eC:kl[y3 % kl.length]'(hx y3)=kC;have mC  :=(hkm kC).mp (eC▸zbv _);refine bM λN12 h12=>?_;push_cast[cA];refine⟨rfl,_,dg g5,?_⟩;obtain⟨mm,hmm,hmk⟩:∃mm:Str,ia [D.str "a",D.str "many"] y5=some (.str mm)/\mm∈MK:=by
     rcases(by lia:y5=0∨y5=1) with rfl|rfl
     ·refine⟨_,dF,by simp[MK]⟩
     ·refine⟨_,dY,by simp[MK]⟩
    refine⟨_,hmm,h12 _ _ ?_⟩;clear h12 hmm g5 l5 g3 g2 l2 gg1;refine bM λN13 h13=>?_;have fin:∀S3 v9,RZ C w S3 wb a a2 (5+(i+1))->N13 [some (.mZ ns),some (.int z),some (mD n b es mv),some (jK a a2),some (.loc wb),some (.int i),some (.lst (nL ys)),some (.lst (kl.map D.str)),some (.str kA),v9,some (.str mm)] S3:=λS3 v9 h=>by
     refine h13 _ _ ?_;push_cast[k8,zV,uR];refine Nj h hm hb hes ⟨true,rfl,?_⟩;exact hN _ _ ⟨i+1,_,_,_,_,_,_,rfl,rfl,h⟩
    have okA  :=v.vX;have QB  :=λt ht=>zl (okA t ht);have hwb  :=X.lt _ X.mem;have XI:=id X;let⟨m0,t0,ee0,cs0,_,hk0,XI⟩:=XI;have pH:∀{S4:aq}{I:List Nat},Fr S' S4 own I->∀c∈I,wb<=c:=λf c hc=>(f.new c hc).elim (how c) λz=>by lia
    have Mz:∀{S4:aq}{I:List Nat},Fr S' S4 own I->eU S4 a a2 cs ts:=λf=>R.frame λk hk=>f.out k (R.lt k hk) λz=>by have:=how k z;have:=hlo k hk;lia
    have B6:∀{S4:aq}{I:List Nat}{kr4:List Kn}{ts4:List Ti}{j:Nat}{o:Option MO},bz C w S4 wb I kr4 ts4->Fr S' S4 own I->j∈a2::a::cs.map (·.2.2)->bz C w (S4.set j o) wb I kr4 ts4:=λX4 f hj=>X4.frame λc hc=>au (by have:=pH f c hc;have:=hlo _ hj;lia);let⟨W,Y,a8,gw⟩:=R.m.get mA;subst a8;have hk1:(W.1,W.2.1)∈d8 cs:=zcm.mpr ⟨W,Y,rfl⟩;let⟨x1,hx1,a0⟩:=zcm.mp ((hS.n W.1).mpr mA);have Ug  :=hS.m x1 hx1 _ hk1 a0;have wN:=v.nm _ hk1;refine Bt (decide (y0=0)&& !ts.isEmpty) (λQ' q'=>?_) (λhk=>?_) (λhk=>?_)
    ·push_cast[Il,cA];refine⟨_,dg g0,?_⟩;push_cast[true_and];refine fH (λh=>?_) (λh=>?_)
     ·have h:y0=0:=by simp_all
      rw[yDt h] at q';push_cast[jK,aG,dY];exact⟨zcB _,ne_nil (aA R.ti) (λ_ _=>rfl) QB ⟨_,rfl,q'⟩⟩
     ·rw[yDf (show¬y0=0 from λz=>h (yDt (by lia)))] at q';exact q'
    ·have hts:ts≠[]:=λz=>by simp_all
     have hlp  :=List.length_pos_iff.mpr hts;have hlt:=zcF y4 hlp;obtain⟨t,et⟩:∃t,ts[y4 % ts.length]? =some t:=⟨_,zam hlt⟩
     have ht  :=zaF et;have htk:=v.tk t ht;refine bM λN14 h14=>?_;push_cast[aG,dY,cA];refine⟨_,dg g4,ts.length,by rw[aA R.ti];show some (zcz (ts.map T3))=_;simp,?_⟩;push_cast[true_and];rw[show(y4 % ts.length)=((y4 % ts.length:Nat):Int) by lia];refine⟨by simp_all,T8 (aA R.ti) (dX (by rw[zbb,et];rfl)) (h14 _ _ ?_)⟩;refine bM λN14 h14=>?_;refine br rfl XI.at_ (by decide+kernel) ?_;push_cast[T3,aG,dF,dY,at2];refine⟨wb,t,own,kr,ts',rfl,X,(hS.n _).mpr htk.1,(hS.n _).mpr htk.2.1,(hS.t t).mpr ht,okA t ht,λS4 I X4 f4=>h14 _ _ ?_⟩;have R4:=Mz f4;push_cast[ou,aG,dY];refine⟨by rw[aA R4.ti];rfl,?_⟩;refine rN (f:=T3) R4.ti (λ_ _=>rfl) QB v.tn ht (λy hy hne=>by rw[Hq,yDf hne]) λl' n1 m1 le1=>?_;exact fin _ _ ⟨I,kr,yR ts' t,cs,l',B6 X4 f4 (by simp),R4.JS,⟨v.k1,v.k6,v.nd,v.nm,n1,by lia,λt' ht'=>v.tk t' ((m1 t').mp ht').1⟩,⟨hS.n,hS.m,λt'=>by rw[kK,m1,hS.t]⟩,hlo,pH f4,by lia⟩
    ·refine Bt (decide (y0=1)&&decide (mm∈W.2.1)) (λQ' q'=>?_) (λhk2=>?_) (λhk2=>?_)
     ·push_cast[Il,cA];refine⟨_,dg g0,?_⟩;push_cast[true_and];refine fH (λh=>?_) (λh=>?_)
      ·have h:y0=1:=by have:=of_decide_eq_true h;lia
       rw[yDt h] at q';push_cast[dG,aG,dF];refine⟨_,_,aA R.m.dc,_,rfl,_,gw,?_⟩;exact in_list (aA (R.m.ml W Y)) (λ_=>rfl) (λy hy=>kP (g7 (wN.2.2.2 y hy))) ⟨(kP (g7 hmk)).1,(kP (g7 hmk)).2.1⟩ rfl NU ⟨_,rfl,by rw[zbY];exact q'⟩
      ·rw[yDf (show¬y0=1 from λz=>h (yDt (by lia)))] at q';exact q'
     ·have hm1:mm∈W.2.1:=by
       simp_all
      refine bM λN14 h14=>?_;refine br rfl XI.at_ (by decide+kernel) ?_;push_cast[true_and];refine⟨wb,x1,mm,own,kr,ts',by simp_all,X,hx1,(Ug mm).mpr hm1,λS4 I X4 f4=>h14 _ _ ?_⟩;have R4:=Mz f4;push_cast[ou,dG,aG,dF];refine⟨_,_,aA R4.m.dc,_,rfl,_,gw,?_⟩;rw[aA (R4.m.ml W Y)];refine⟨rfl,?_⟩;refine rN (R4.m.ml W Y) (λ_ _=>rfl) (λy hy=>kP (g7 (wN.2.2.2 y hy))) wN.2.2.1 hm1 (λy hy hne=>by rw[NU,yDf hne]) λl' n1 m1 le1=>?_;refine fin _ _ ⟨I,_,ts',fZ cs W.1 l',ts,B6 X4 f4 (zaC _ (zaC _ (zcm.mpr ⟨W,Y,rfl⟩))),R4.setM (by simp_all) Y,?_,?_,?_,pH f4,by lia⟩
      ·rw[kg];exact v.marks (by have:=wN.2.1;exact zcp le1 this) n1 λy hy=>wN.2.2.2 y ((m1 y).mp hy).1
      ·rw[kg,a0];exact hS.marks λy=>by simp_all
      ·rw[rJ];exact hlo
     ·refine Bt (decide (y0=1)) (λQ' q'=>?_) (λhk3=>?_) (λhk3=>?_)
      ·push_cast[cA];refine⟨_,dg g0,?_⟩;push_cast[true_and];rw[show decide ((y0:Int)=1)=decide (y0=1) by congr 1;exact propext ⟨λz=>by lia,λz=>by lia⟩];exact q'
      ·have hm1:mm ∉ W.2.1:=λz=>by simp_all
       refine bM λN14 h14=>?_;refine br rfl XI.at_ (by decide+kernel) ?_;push_cast[true_and];refine⟨wb,x1,mm,own,kr,ts',by simp_all,X,hx1,λz=>hm1 ((Ug mm).mp z),zaV (Cs X v hS hx1) (by decide),g7 hmk,λS4 I X4 f4=>h14 _ _ ?_⟩;have R4:=Mz f4;push_cast[ou,dG,aG,dF];refine⟨_,_,aA R4.m.dc,_,rfl,_,gw,?_⟩;rw[aA (R4.m.ml W Y)];have a9:W.2.1.length<=2:=wN.2.1;refine⟨rfl,W.2.2,_,_,rfl,rfl,R4.m.ml W Y,by rw[zbF,yaf];lia,?_⟩;rw[show W.2.1.map D.str++[D.str mm]=(W.2.1++[mm]).map D.str by simp];have n1  :=wg wN.2.2.1 hm1;have m1:∀y∈W.2.1++[mm],y∈MK:=λy hy=>by
        grind
       refine fin _ _ ⟨I,_,ts',fZ cs W.1 (W.2.1++[mm]),ts,B6 X4 f4 (zaC _ (zaC _ (zcm.mpr ⟨W,Y,rfl⟩))),R4.setM (by simp_all) Y,?_,?_,?_,pH f4,by lia⟩
       ·rw[kg];exact v.marks (yZ n1 m1) n1 m1
       ·rw[kg,a0];exact hS.marks λy=>by simp_all
       ·rw[rJ];exact hlo
      ·have okN:iH (W.1,wd,kC)=true:=by
        let⟨k2,hk2,a7⟩:=zcm.mp mC;delta iH;rw[jD wN.1,rB hwd,<-a7,jD (v.nm k2 hk2).1];rfl
       refine Bt (decide ((W.1,wd,kC) ∉ ts)) (λQ' q'=>?_) (λhk4=>?_) (λhk4=>?_)
       ·push_cast[aG,dY];refine in_list (f:=T3) (aA R.ti) (λ_=>rfl) QB ⟨(zl okN).1,(zl okN).2.1⟩ rfl Hq ⟨_,rfl,?_⟩;by_cases z:(W.1,wd,kC)∈ts
        ·simpa[z] using q'
        ·simpa[z] using q'
       ·have hno  :=of_decide_eq_true hk4;refine bM λN14 h14=>?_;refine br rfl XI.at_ (by decide+kernel) ?_;push_cast[aG,dF,dY,at2];have a5:ts'.length<300:=zaV (D4 X v hS) (by decide);refine⟨wb,(W.1,wd,kC),own,kr,ts',rfl,X,(hS.n _).mpr mA,(hS.n _).mpr mC,λz=>hno ((hS.t _).mp z),a5,okN,λS4 I X4 f4=>h14 _ _ ?_⟩;have R4:=Mz f4;push_cast[ou,aG,dY];rw[aA R4.ti];refine⟨rfl,a2,_,_,rfl,rfl,R4.ti,by rw[zbF,yaf];lia,?_⟩;rw[show ts.map T3++[D.tup [D.str W.1,D.str wd,D.str kC]]=(ts++[(W.1,wd,kC)]).map T3 by simp];refine fin _ _ ⟨I,kr,_,cs,_,B6 X4 f4 (by simp),R4.JS,⟨v.k1,v.k6,v.nd,v.nm,?_,by simp;lia,λt' ht'=>?_⟩,⟨hS.n,hS.m,λt'=>by rw[zbE,zbE,hS.t]⟩,hlo,pH f4,by simp;lia⟩
        ·rw[zbh];refine⟨v.tn,by simp,λx hx y hy e=>hno (by simp_all)⟩
        ·obtain h|h:=zbE.mp ht'
         ·exact v.tk t' h
         ·rw[zaS.mp h];refine⟨mA,mC,hwd⟩
       ·exact fin _ _ ⟨own,kr,ts',cs,ts,X,R,v,hS,hlo,how,by lia⟩
  push_cast[k8];refine⟨by decide,fH (λ_=>?_) (λ_=>next n0 b0 es0 mv0 ⟨by lia,a6,by lia⟩ hb0 (by lia))⟩;refine⟨⟨by decide,by decide⟩,z / 2,rfl,λp hp _ ho=>⟨p,rfl,hp,by lia,λn mv _ hB hn hm hl=>?_⟩⟩;refine next n 0 [1] mv ⟨by lia,λm h=>?_,by lia⟩ (by have:=hB.two;lia) (by simp)
  have:=hB.Nu (eM m) (zcm.mpr ⟨m,h,rfl⟩);refine⟨this.1,hl m h,this.2⟩
def Ar(K:yaJ):L2.Sp:=λvs H Q _=>∃(a:Addr)(ns:List Int),vs=[.ref a]/\cW K H a (ns.map V.int)/\ns.length<=63/\∀j,Q (.bl true) j
def OI(h:cY P w K mg base lQ k f fd uZ (az K EJ)):cY P w K mg base lQ k f fd uZ (Ar K):=h.imp λvs H Q E z=>by
 let⟨a,ns,rfl,j,_,q⟩:=z;refine⟨⟨H,λ_=>none⟩,[.mZ ns],[],λr S=>r=.dat (.bl true),⟨ir.refl _,λn o e=>by simp at e,λn m o x e=>by simp,λ_ _=>rfl⟩,?_,⟨ns,rfl,rfl,rfl⟩,λr y v u s _ _ rep e=>?_⟩
 ·refine⟨_,_,rfl,⟨a,rfl,j⟩,rfl⟩
 ·subst e;have  :=FL rep rfl;subst this;exact q s
open PySem L2
def all_mk{l:PySem.W.OpenLaw}(X:K.In h)(G:h.Ns yaq mg)(hfa:mg "law"=some (.ref fa))(a_C:zcx K yaq "Web"=some (some (.ref C)))(e4:zcx K yaq "Ground"=some (some (.ref Gr)))(ay:jr K "holds" (top 4))(bv:jr K "laid_out" (top 9))(c4:jr K "new_stands" (top 10))(df:jr K "cut" (top 11))(dA:jr K "by_stand" (top 12))(c5:jr K "machine_of" (top 14))(bm:jr K "moves_near" (top 15))(b0:jr K "steps_by_kind" (top 18))(c2:jr K "reached" (top 20))(c3:jr K "pairs" (top 21))(b1:jr K "ends_reached" (top 22))(c1:jr K "spread" (top 23))(b3:jr K "_law_cell_at" (top 37))(a0:jr K "_law_draws" (top 38))(ax:jr K "_law_knots" (top 39))(ae:jr K "_law_words" (top 40))(ar:jr K "_law_marks" (top 41))(bb:jr K "_law_rows" (top 42))(aw:jr K "_law_laid" (top 43))(ap:jr K "_law_steps" (top 44))(bo:jr K "_law_leaf" (top 45))(bi:jr K "_law_part" vB)(bh:jr K "_law_pattern" (top 47))(an:jr K "_law_still" (top 48))(c8:jr K "_law_by" (top 49))(bn:jr K "_law_machine" (top 50))(c7:jr K "_law_spread" (top 51))(dy:jr K "_law_right" (top 52))(c6:jr K "law" yK)(y:qL K C "__init__" "Web.__init__" vC)(be:qL K C "put_knot" "Web.put_knot" E9)(bc:qL K C "put_tie" "Web.put_tie" E7)(ag:qL K C "take_tie" "Web.take_tie" yF)(bd:qL K C "put_mark" "Web.put_mark" E8)(am:qL K C "take_mark" "Web.take_mark" yG)(c0:qL K C "knots" "Web.knots" Ph)(cx:qL K C "marks" "Web.marks" Pg)(da:qL K C "has_tie" "Web.has_tie" Pw)(cw:qL K C "steps" "Web.steps" Pf)(bj:qL K C "need_knot" "Web.need_knot" Fc)(bt:qL K C "lay_knot" "Web.lay_knot" Fj)(bp:qL K C "lay_tie" "Web.lay_tie" Fi)(b2:qL K C "drop_tie" "Web.drop_tie" Ft)(S:qL K Gr "__init__" "Ground.__init__" Fp)(db:qL K Gr "led_without_step" "Ground.led_without_step" Px)(de:qL K Gr "led_by_step" "Ground.led_by_step" Pz)(dd:qL K Gr "led_to" "Ground.led_to" Py)(o:zcx K yaq "isinstance"=some none)(dr:zcx K yaq "dict"=some none)(L:zcx K yaq "reversed"=some none)(d0:zcx K yaq "len"=some none)(cf:zcx K yaq "tuple"=some none)(dq:zcx K yaq "list"=some none)(ch:zcx K yaq "range"=some none)(a1:zcx K yaq "sorted"=some none)(dE:zcx K yaq "set"=some none)(dC:zcx K yaq "zip"=some none)(dV:zcx K yaq "max"=some none)(dL:zcx K yaq "min"=some none)(I:zcx K yaq "enumerate"=some none)(cp:zcx K yaq "BEGIN"=some (some (.int 0 ck)))(ej:zcx K yaq "END"=some (some (.int 1 ea)))(a6:zcx K yaq "LEAVES"=some (some (.ref d)))(a7:K.lookup d=some ⟨.type "tuple",ac,.seq g a5,ab⟩)(q_LEAVES:(g.toList.map strOf==(["stay","step","at","off"]:List Str).map some)=true)(dv:zcx K yaq "STAY"=some (some (.ref Y)))(dx:K.lookup Y=some ⟨.type "tuple",cn,.seq k du,cm⟩)(q_STAY:(k.toList.map strOf==(["stay"]:List Str).map some)=true)(m_M:zcx K yaq "MOST_MARKS"=some (some (.int 5 t_M)))(ek:zcx K yaq "ANY"=some (some (.str "*" eb)))(m_K:zcx K yaq "MOST_KNOTS"=some (some (.int 40 t_K)))(m_T:zcx K yaq "MOST_TIES"=some (some (.int 300 t_T)))(eR:zbC K C Str.empty=true)(e2:zbm K C=true)(eQ:zbn K C=true)(eP:zbZ K (.ref C) "__setattr__"=some (some (.builtin "object.__setattr__")))(a3:zbZ K (.ref C) "marked"=some none)(ds:zbZ K (.ref C) "tied"=some none)(dt:zbZ K (.ref C) "near"=some none)(e0:zbT K C=true)(e1:zca K (.ref C)=true)(d3:zbC K Gr Str.empty=true)(d6:zbm K Gr=true)(d2:zbn K Gr=true)(d1:zbZ K (.ref Gr) "__setattr__"=some (some (.builtin "object.__setattr__")))(ci:zbZ K (.ref Gr) "near"=some none)(Z:zbZ K (.ref Gr) "marked"=some none)(a2:zbZ K (.ref Gr) "paths"=some none)(d4:zbT K Gr=true)(d5:zca K (.ref Gr)=true):
  ∃fd:yap,(∀(s:yah)(v:yai),yaB s fd ⟨[v],[]⟩ [("_law_script",v)])/\∀base:Heap,K.In base->base.Ns yaq mg->cY l.prog w K mg base lQ 8 fa fd ["_law_script"] (Ar K):=by
 have DL:=ay.src (ps:=iY) X G λ_ _ _ _ _ _=>J.u9 (λ_ _=>rfl);have IF:=bv.src (ps:=lK) X G λ_ _ _ _ _ _=>J.Ju (λ_=>rfl);have Mn:=c4.src (ps:=mQ) X G λ_ _ _ _ _ _=>J.Ju (λ_=>rfl);have Mx:=df.src (ps:=qK) X G λ_ _ _ _ _ _=>J.u9 (λ_ _=>rfl);have RP:=dA.src (ps:=xX) X G λ_ _ _ _ _ _=>J.u9 (λ_ _=>rfl);have Mp:=c5.src (ps:=qD) X G λ_ _ _ _ _ _=>J.Ju (λ_=>rfl);have IA:=bm.src (ps:=lG) X G λ_ _ _ _ _ _=>J.Ju (λ_=>rfl);have IG:=b0.src (ps:=lM) X G λ_ _ _ _ _ _=>J.Ju (λ_=>rfl);have Ml:=c2.src (ps:=qC) X G λ_ _ _ _ _ _=>J.BU (λ_ _ _=>rfl);have Mm:=c3.src (ps:=mP) X G λ_ _ _ _ _ _=>J.u9 (λ_ _=>rfl);have II:=b1.src (ps:=jq) X G λ_ _ _ _ _ _=>J.BU (λ_ _ _=>rfl);have Mj:=c1.src (ps:=qB) X G λ_ _ _ _ _ _=>J.BU (λ_ _ _=>rfl);have IK:=b3.src (ps:=lO) X G λ_ _ _ _ _ _=>J.u9 (λ_ _=>rfl);have DM:=a0.src (ps:=d9) X G λ_ _ _ _ _ _=>J.u9 (λ_ _=>rfl);have DK:=ax.src (ps:=iX) X G λ_ _ _ _ _ _=>λus e=>by cases us with|nil=>rfl|cons _ _=>cases e
 have DC:=ae.src (ps:=fE) X G λ_ _ _ _ _ _=>λus e=>by cases us with|nil=>rfl|cons _ _=>cases e
 have DI:=ar.src (ps:=fF) X G λ_ _ _ _ _ _=>λus e=>by cases us with|nil=>rfl|cons _ _=>cases e
 have Ip:=bb.src (ps:=lz) X G λ_ _ _ _ _ _=>J.u9 (λ_ _=>rfl);have DJ:=aw.src (ps:=iW) X G λ_ _ _ _ _ _=>J.Ju (λ_=>rfl);have DH:=ap.src (ps:=iV) X G λ_ _ _ _ _ _=>J.u9 (λ_ _=>rfl);have IC:=bo.src (ps:=gY) X G λ_ _ _ _ _ _=>J.u9 (λ_ _=>rfl);have Iw:=bi.src (ps:=dZ) X G λ_ _ _ _ _ _=>J.BU (λ_ _ _=>rfl);have Iv:=bh.src (ps:=lF) X G λ_ _ _ _ _ _=>J.u9 (λ_ _=>rfl);have DG:=an.src (ps:=iU) X G λ_ _ _ _ _ _=>J.BU (λ_ _ _=>rfl);have Mr:=c8.src (ps:=qG) X G λ_ _ _ _ _ _=>J.by4 (λ_ _ _ _=>rfl);have IB:=bn.src (ps:=lH) X G λ_ _ _ _ _ _=>J.u9 (λ_ _=>rfl);have Mq:=c7.src (ps:=qE) X G λ_ _ _ _ _ _=>J.BU (λ_ _ _=>rfl);have RN:=dy.src (ps:=xW) X G λ_ _ _ _ _ _=>J.BU (λ_ _ _=>rfl);have U9:=y.src (ps:=fS) λ_ _ _ _ _ _=>J.Ju (λ_=>rfl);have Iu:=be.src (ps:=lC) λ_ _ _ _ _ _=>J.BU (λ_ _ _=>rfl);have Iq:=bc.src (ps:=jo) λ_ _ _ _ _ _=>J.by4 (λ_ _ _ _=>rfl);have DE:=ag.src (ps:=iS) λ_ _ _ _ _ _=>J.by4 (λ_ _ _ _=>rfl);have Ir:=bd.src (ps:=lA) λ_ _ _ _ _ _=>J.BU (λ_ _ _=>rfl);have DF:=am.src (ps:=iT) λ_ _ _ _ _ _=>J.BU (λ_ _ _=>rfl);have Mi:=c0.src (ps:=mL) λ_ _ _ _ _ _=>J.Ju (λ_=>rfl);have Mh:=cx.src (ps:=qA) λ_ _ _ _ _ _=>J.u9 (λ_ _=>rfl);have Ms:=da.src (ps:=mR) λ_ _ _ _ _ _=>J.by4 (λ_ _ _ _=>rfl);have Mg:=cw.src (ps:=qz) λ_ _ _ _ _ _=>J.u9 (λ_ _=>rfl);have Iz:=bj.src (ps:=dH) λ_ _ _ _ _ _=>J.u9 (λ_ _=>rfl);have IE:=bt.src (ps:=lJ) λ_ _ _ _ _ _=>J.BU (λ_ _ _=>rfl);have ID:=bp.src (ps:=lI) λ_ _ _ _ _ _=>J.by4 (λ_ _ _ _=>rfl);have IJ:=b2.src (ps:=lN) λ_ _ _ _ _ _=>J.by4 (λ_ _ _ _=>rfl);have VB:=S.src (ps:=iZ) λ_ _ _ _ _ _=>J.BU (λ_ _ _=>rfl);have Mt:=db.src (ps:=qH) λ_ _ _ _ _ _=>J.u9 (λ_ _=>rfl);have Mw:=de.src (ps:=qJ) λ_ _ _ _ _ _=>J.u9 (λ_ _=>rfl);have Mu:=dd.src (ps:=qI) λ_ _ _ _ _ _=>J.u9 (λ_ _=>rfl);obtain⟨e3,ez,ew,a8,b4,a4,cd,cb,ca,es,dl,cq,dk,cr⟩:=c6.ex;obtain⟨ba,ei,eh,em,eo,eg,er,eq,ep,ed,ce,q,E,u,a9⟩:=y.ex;obtain⟨cv,eA,ey,eC,eH,ev,eL,eJ,eI,et,dn,O,U,Q,cs⟩:=S.ex;have e:=hfa.symm.trans (zck X G dl);cases e;have F:=gT (st:=yK) cq dk cr;have T:Txt K mg C ba Gr cv:=⟨zaY X G o,zaY X G dr,zaY X G L,zaY X G d0,zaY X G cf,zaY X G dq,zaY X G ch,zaY X G a1,zaY X G dE,zaY X G dC,zaY X G dV,zaY X G dL,zaY X G I,⟨_,zck X G cp⟩,⟨_,zck X G ej⟩,⟨_,zck X G a6,λH=>Ew a7 q_LEAVES (by decide) H⟩,⟨_,zck X G dv,λH=>Ew dx q_STAY (by decide) H⟩,⟨_,zck X G ek⟩,⟨_,zck X G m_K⟩,⟨_,zck X G m_T⟩,⟨_,zck X G m_M⟩,zck X G a_C,⟨eR,e2,eQ,eP⟩,⟨e0,ce,a9,e1⟩,a3,ds,dt,zck X G e4,⟨d3,d6,d2,d1⟩,⟨d4,dn,cs,d5⟩,ci,Z,a2⟩
 refine⟨zcw "law" "law" (cP yK) (bG yK) (ah yK) .none a8 b4 a4 cd cb ca,λs v=>.of_eq rfl,λbase _ _=>?_⟩;have Ot:=UK (P:=l.prog) (w:=w) (base:=base) T Mn;have oA:=LC (P:=l.prog) (w:=w) (base:=base) T DM;have u6:=Ls (P:=l.prog) (w:=w) (base:=base) T DC;have lP:=Ly (P:=l.prog) (w:=w) (base:=base) T DI;have Jl:=Ra T IC u6 lP;have jW:=Q7 (P:=l.prog) (w:=w) (base:=base) T Iz;have Ou:=UO (P:=l.prog) (w:=w) (base:=base) T Ms;have Jj:=Ri (P:=l.prog) (w:=w) (base:=base) T (gT (st:=vC) q E u);have Jq:=(gT (st:=vC) q E u).binds (ps:=fS) λ_ _ _ _ _ _=>J.Ju (λ_=>rfl);have Vi:=UG (P:=l.prog) (w:=w) (base:=base) T Mi;have Oo:=UR (P:=l.prog) (w:=w) (base:=base) T (gT (st:=Fp) O U Q) (Q8 T IA (Wy T RP)) (Rh T IG) Vi (UE T Mh jW) (UD T Mg jW);have Ov:=(gT (st:=Fp) O U Q).binds (ps:=iZ) λ_ _ _ _ _ _=>J.BU (λ_ _ _=>rfl);have Jm:=Rj (P:=l.prog) (w:=w) (base:=base) T II (UH T Mj (UQ T Mu (UP T Mt (LB T DL)) (US T Mw)));have Oq:=UJ (P:=l.prog) (w:=w) (base:=base) T Mm Oo Ov Vi Jm;have Jk:=Q3 (P:=l.prog) (w:=w) (base:=base) T Iq jW Ou (Rb T ID);exact OI (Rf T F (Rm T IK) (Q9 T IB oA Jl) (Q6 T Iv oA (HA T Iw Jl 2 (by lia))) (UL T Mp (Rg T IF Ot (UT T Mx Ot))) (Q0 T Ip oA (LA T DK) u6 lP) (Lz T DJ Jj Jq (Q5 T Iu (Rc T IE)) Jk) Jj Jq Oq (Wx T RN (UM T Mq (Lw T DG) (Lx T DH) (UN T Mr)) (UI T Ml Oo Ov jW Jm) Oq) oA u6 lP (Lu T DE jW Ou (Rk T IJ)) (Lv T DF jW) (Q4 T Ir jW) Jk)
def walk{l:PySem.W.OpenLaw}{K:Params->yaJ}(v:l.most=some 63)(j:d.params.defaults=[])(C:∀(w)(h),YP w h->(K w.params).In h)(F:∀(w)(mg)(o)(h),(K w.params).In h->h.Ns yaq mg->mg d.name=some (.ref o)->∃fd:yap,(∀(s)(u),yaB s fd ⟨[u],[]⟩ [("_law_script",u)])/\∀base:Heap,(K w.params).In base->base.Ns yaq mg->cY l.prog w (K w.params) mg base lQ 8 o fd ["_law_script"] (Ar (K w.params))):
  PySem.W.WalkO q loose XP YP l.row.toRowW d [] (λf vs=>PySem.call f vs):=
 L2.JC (n:=63) (k:=8) (x:="_law_script") (CX:=λ_=>lQ) (sp:=λw=>Ar (K w.params)) v (by decide) j ⟨rfl,by decide,by decide,rfl⟩ C F (λ_ _ a ns y _ E=>⟨a,ns,rfl,E,y,λ_=>rfl⟩) λ_ _ _ _ _ z=>z
end K36
open PySem PySem.W PyProof.Rows
local macro_rules|`(universe $x*)=>return Lean.mkNullNode (<-x.mapM λi=>return (<-`(def $(Lean.mkIdent (.mkSimple s!"tw{i.getId.toString.foldl (λn c=>n*36+c.toNat-if c.isDigit then 48 else 87) 0-10*36^12}")):ident:=Nat)).raw)
namespace PySem.Challenge.cw_pathask_k36_who_is_reached_holds
universe aze449nwfe7kh c53yfo35lye78 crx25u5t7qoty bwsgftgcap305 aeodlhjzhyw10 bw0wtw8l27ceq bqtfkdsor3ihg blxq62bgl2qqz a13tfs0d283el bhex6dn0h79i0 b8vf5yj4f32xe dbzzozf85r0c4 c4ijfszrvk210 drr0vn9b7o1vv b52bbsi2u56em b6gyntqk4s0ta a228ckvmtwko7 b0p1a32oludo9 cnj3njuh2skx6 c93fcbkguf24s byrya813q7gax cnx70s7hbmh0n bqvvhxzc3g9nz canufb4uhbfru cwnsyghwbw9dw dnpdk7ghgz981 bkx3wjcomnp00 b31sw1d7xhvvc cv5lznrf5s3al cm00584zelufi c98w8cyfhpndt av71fx0o02b4u d91reefvmxw1i b9pnn7mcbfklp arzzma8wdkr4a a1lpyqdbl9vj4 aup7cc7a9b7rj b4w7pttx3whb0 dr5mxqmv7mua5 deholsre9dv2y b00egb310gq3b bajueqjduqkja a9lu08gsgrl63 ceotix5gk1gvg coiojg5hqz6wi cxlh0g0ayb7z3 cs1vbqj3sib9s ckwh9x4k38o0f axqkukvy6qt9x db2vzeaxm0zgm c5i9g0yk09gc7 b4jaztaaebnlk ajgqvefft7n3n d4bs4cc80fu2x d8oag2zlg7973 d0mheqqm87m4v dim8a0jg2nl6h a62u1eksnaxo3 b467rn3d0ek76 dlhgpipr2ntsa b13xoatxuxu4c b60b5vj74yw8z b13y6il8rjto6 c640xx95gxgm6 b1byiloh2r2ns d5rcbeyghrjow bk6wuhnkfsnko cjhr8d5z57po5 cvtoch4nl8szo byxlg7hdzdwtr dhypccoels9e1 bq57j4c9lt4u0 do5x5iurt9n7x apxvn5tfywfwr bouz3jw59n4qw bobm2eh1z03jp b30zf5znm3d86 dc1a95luhtnri dhv9jx0d3qbm0 ai7d7kask8wxx d1ndmuc79uuf2 cjz518o3b8yef agnrg0pziuj8w c7kuv3rv66s9e cu7uyvt3k0hnw b447erhtk5jiu czp2top1guh1u bdtlbnjipd24z a37ep33gj55zz a3ybks0rl7pf7 bfhaikwp5x9uo b9euwtj0osemb c1q9hl36k1e59 c4illi0y8rcsh dv4fxyk6l0qa0 c4vfgggxirtxx c93reknp2gv4j cszbj057mbt73 d7a8ram6sfc1k ayfd0750ej47n bbzreuvsdkjo9 bryohd30p675f acynqtn05j2kd ds1w3kc80ckud a2w23ae3u1aj1 c2frhkp9dut0t ab87b40hkz7jw cc2s2kejye7ei bbgz8fgabxbsh ch7pwm3s0xxx6 cateahx57gz2t djp004f57f7gv d3l2b24al2b39 cmussl2e5y5yg as55hwf3628gq d96ebaebg4ct9 do20q4wuf1obg bj5m1lm0p35h4 aoyycjumhdq7e au5h8wj6tfkmp dqj2b0jr803xp d7sdljl5x1itz aygkur4x3v26m b4w8eny0k10qi cs2xg9dnb3jci dj9ofhi2tg2uq auekrq295nt0k a9qrqvnj9u9pj bmcsdnn1kimu9 cqofn705y76ow cpilz0iwk2x8o ct9rp1086nynx aq8b0zdp3wzol ai9nolk0at21e bx1int05ct3kz cz8zy9a5x02t8 dp0y6m34ooc50 bz3tsvz2laese df1mzq78d2cx7 cg31hoo6xrvkz bb673gy4c0y96 cj99df4rjgdbj d0a00wql9br2w bzkg4p8l0dojn btfeyff3ufzmi d7a9rrqni71et c78ij4h7mmkgc c6sfjspcmg3z0 akv33dcxh8v7k ct510wlxwls2m bsmhkmgt37l16 cfskazlhmttli c9do9u2ckoycm bhwglk9j9v99i ceudtc71jm1v0 cr2tu1n0q1bh1 c0tgptwkhz7ah cg9nqa6zbf536 cj6h5r1yz9t07 aa7ewkf9dhi5i aanb1fp2b4zyl avqleivpuzeow bmxu8lm9fde4o c782fa67bfmpi b97sjy5zo1jyt a2tdhe4ysbz7r b4y4klp0awz4a a25eizuvd0u5a bkii85idnanhs dch5w9gszuirw dhtn7g2em5xy8 dw3iaapnu4pzt aqog79omybibr bbbt8ympde7e3 c8vpbbqm5y60w bivr0esiayvbk ayjsjlnljlfka brudvssl2cl5u bmk3k606tahbn brxlrfuxivqit bofteop52nklo dk9lrwxuizp62 cuq04xf7emg15 bbarotq46c0a7 a0lmq6s7xdhiy ab84rmqg72rwq ap60vrfvmmc0u a0lv1zwsntuud bx6g3raveppe8 bxvs8g9p7gaz6 bdi5q63r34wj3 ahd9l2ruecfwf biqaa7v179gl8 aqsm867y4hk97 d2rz6nky02y9h a0ydh0nq85oy6 c1xxelyql8cs3 agci0d7xzpl7d d011z135y294u bc0slj6ivmxfg b9i7k5gb6moex axbrxalyfwt47 cvl7v95wlzgjs bml1756lxzzr2 datx4pk28tcs1 akxtigcnv0yk0 atefem6ptrkum aurl94s8hp5na dmsruuhyq2o60 bx7xctagsdy2o b362aeiv1e2td d26bzg7hn9pig dijxv4kv8yavh dhqucuukh6y0j al2mjgdeexsv7 abu4v7spiexgw dlgi0wucidcz8 ccxyfjj37ji1x a3z4xrovrl6db ck44br1qjz49l ctymqoymnivl9 cnnl07jf8bhn0 cmcskp2b8hh0c bqyrk58wiu69m bvcsqm9d27mkj daikkdkph9gn2 dgau4mcmftdz9 axsgcxq3dm2ln a2ct13tb88pa7 blrvpsrae8y54 aybsgpc4qorar ahy0s5xcfr9a1 csyz5kra8iwpt d9b8az8powu07 c8q9ey17ffie6 c0l91be0kbv6k ck05jio81oqaj b9whzbxjgir1i d40tho4vwpyic cu4t9k7jjzc2o duk33z79p72us ddx81cyk82982 dlacw69pr1d76 a3lgx9iybplir b4a8qtwk9yut3 colavaalnzwas bz5k2h2b34j2c dsedrh43bc313 drnh0jh1wb2y7 cgoy6u8qymhpj d8a21gwyomsiw aw1a9knl5d4ry bqltwq7i4kmcw cjjd3qp36lfsc cxyueg5auagzu dcz70dme0ykr3 ajtwus7i8shg0 bb9tldpxyh11j db828uzulg4vc cwhp12g76s0yd cnfg9e0lheq7z by2tgyv65m1sa bza5hy155dago aupej1l9j778x d6vnnmpljsxjz a4ylx4ko3kiud akpb8c5gmjasi a2i3xubh36yhm dir3okwwvb5um c4wkekfsyu37k cdg805wmo8rek b4qfxk19nnvhv bvjp0mhpxeymj cqz1q3cfk0dmt b0tf074llsemt c2wgbx1fyl7vl d3c847x32qr2s cl23b0zwqxca1 asbd83ho0ewuj cncwnlh57r1e2 dhevusbftotwl ckii01n57vn3l ba7llqnzw3uay btxx2e6abgpc9 ddh6zidikbz6k clm2p5o1oqcpx d6p7azef8qyan cq28rgil3qzt9 a6d939coy64n0 ap1spaoetfais d8tpwkk0yfv7x ary8azk54rs42 aeo3ggtev6sr3 bqd1fn07k9tte c2t2pswaj21rr c3k15aj6m9muc dvic4zfo9ci7a b8klvii4dg9x8 bthutl8qapwph c06njakubp5vh a57tojx73ynw4 chs6n6zo33hbs cbx3zu3hxvvay cqmyrtts9hwob a3zobg1czuk57 dhan3h1tlm1ww ad2hf80j2mvnd ag6kahgjhjzk4 dhp586zcvepwv a8rahz1tq7q8t ch5q6326t6210 d25xxlax2rbza aimdo0vwun0pz c5laxflzj42v8 dousiu8dwq59x cngk1wnij4v2c ceol70vyam35s cwczj01vhmg5r bib52isvxpixh dk67uq4sg6hba a1hrj2ona9adn bx5t35u09nsf8 cdo6gea50gv6y a9qse0blfp184 dn9rsxl91u0am brvflac38t4ul ajoy116eag6rq an0osvvqdhz72 d75sdn0ncvhdj a7xq21p0h01ml b3oi0i6ce5iie ayhvxt0kjbrhr bptrw2w4si8hi bvv65gsaylen5 cfr6wet5553q4 b2ekecv4dtfxq c9cdbsjq3nl3n a7y2qi8c7ns5k a7sye0b89127w ckcjw8wdq548a aiz61adzx8nq1 acbxlx6rgw8qf
end PySem.Challenge.cw_pathask_k36_who_is_reached_holds
set_option Elab.async true in
set_option maxRecDepth 100000 in
set_option maxHeartbeats 0 in
theorem PySem.Challenge.cw_pathask_k36_who_is_reached_holds : PySem.Challenge.rw_pathask_k36_who_is_reached.Holds := by
 w_on;o_law;k_head;(case hw=>w_witness2)
 k_fill
 refine K36.walk (l:=PySem.Challenge.rw_pathask_k36_who_is_reached) rfl rfl (λw h Y=>PySem.W.kIn_of Y) ?F
 case F =>
  intro w mg fa h KX G hmg
  refine' K36.all_mk KX G hmg ?_ ?_ ?_ ?_ ?_ ?_ ?_ ?_ ?_ ?_ ?_ ?_ ?_ ?_ ?_ ?_ ?_ ?_ ?_ ?_ ?_ ?_ ?_ ?_ ?_ ?_ ?_ ?_ ?_ ?_ ?_ ?_ ?_ ?_ ?_ ?_ ?_ ?_ ?_ ?_ ?_ ?_ ?_ ?_ ?_ ?_ ?_ ?_ ?_ ?_ ?_ ?_ ?_ ?_ ?_ ?_ ?_ ?_ ?_ ?_ ?_ ?_ ?_ ?_ ?_ ?_ ?q_LEAVES ?_ ?_ ?q_STAY ?_ ?_ ?_ ?_ ?_ ?_ ?_ ?_ ?_ ?_ ?_ ?_ ?_ ?_ ?_ ?_ ?_ ?_ ?_ ?_ ?_ ?_
  (case q_LEAVES=>kernel_rfl)
  (case q_STAY=>kernel_rfl)
  all_goals try first | (refine' L2.jr.of ?a ?l ?c ?k;(case a=>k_is);(case l=>k_is);(case c=>k_is);(case k=>k_is)) | (refine' L2.qL.of ?a ?l ?c ?k ?i;(case a=>k_is);(case l=>k_is);(case c=>k_is);(case k=>k_is);(case i=>k_is)) | k_is
