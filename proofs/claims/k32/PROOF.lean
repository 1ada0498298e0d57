import PyProof.Rows.All
import Wide.All
import OpenK.AllK
import Wide.FinOn
import Lean
import PyProof.EqAt
import PyProof.EqKinds
import PyProof.TupleCall
import KE.KRevIter
import KE.KIntText
import PyProof.Rows.StrNews
import KE.KSortTup
import PyProof.Rows.SetFrom
import PyProof.WalksMore
import KE.KRevSl
import PyProof.ZipIter
import PyProof.TupleIter
import KE.KItemsList
import PyProof.ListRange
import PyProof.Rows.SortRuns
import PySem.Challenge.RW_pathask_k32_whole_machines_of_patterns
open List renaming eq_nil_of_length_eq_zero->zaa,getElem?_append_right->zab,getElem?_eq_some_iff->zad,getElem?_append_left->zae,getElem?_zip_eq_some->zaf,drop_eq_getElem_cons->zag,pairwise_iff_getElem->zah,getElem?_eq_getElem->zak,length_erase_of_mem->zal,getElem?_cons_succ->zam,length_pos_of_mem->zao,mem_append_right->zas,getElem?_eq_none->zat,set_append_right->zau,length_filter_le->zav,mem_cons_of_mem->zay,mem_append_left->zaz,getElem?_set_ne->zaA,mem_of_getElem? -> zaB,filterMap_cons->zaD,replicate_succ->zaE,map_congr_left->zaF,getElem_of_mem->zaG,filter_eq_self->zaH,mem_cons_self->zaL,length_append->zaM,zip_cons_cons->zaN,mem_singleton->zaO,getElem_range->zaP,pairwise_cons->zaQ,size_toArray->zaY,any_eq_false->zaZ,getElem?_map->zba,flatten_cons->zbb,append_assoc->zbc,getElem?_set->zbd,length_range->zbe,nodup_append->zbf,pairwise_map->zbg,length_cons->zbq,length_take->zbr,length_drop->zbs,lookup_cons->zbt,all_eq_true->zbu,take_length->zbv,cons_append->zbw,ext_getElem->zbx,getElem_mem->zby,getElem_map->zbz,not_mem_nil->zbA,map_fst_zip->zbB,any_eq_true->zbC,filter_cons->zbD,mem_reverse->zbE,mem_filter->zbH,mem_append->zbI,length_map->zbJ,append_nil->zbK,nodup_cons->zbL,of_mem_zip->zbM,find?_cons->zbN,length_nil->zbO,length_set->zbP,foldl_cons->zbQ,nil_append->zbR,map_append->zbS,length_zip->zbT,range_succ->zbU,mem_range->zca,replicate->zcb,mem_cons->zch,map_cons->zci,any_cons->zcj,all_cons->zck,map_nil->zcr,any_map->zcs,map_map->zct,mem_map->zcu,lookup->zcG,length->zcH,range->zcM,cons->zcP,getD->zcQ
open Array renaming getElem?_eq_none_iff->zac,getElem?_eq_getElem->zai,getElem?_eq_none->zap,getElem?_toList->zaw,toArray_toList->zaC,length_toList->zaJ,forIn_toList->zaV,toList_push->zbl,getD->zcO
open PySem.Calls renaming call_function_entry->zaj,spliced_cons->zaX,spliced_nil->zbp
open Nat renaming add_sub_cancel_left->zan,add_left_cancel->zaI,lt_of_lt_of_le->zaR,lt_succ_of_lt->zbh,le_of_lt_succ->zbi,lt_trichotomy->zbj,not_lt_zero->zbV,lt_irrefl->zcl,ne_of_lt->zcv,le_trans->zcw,le_of_lt->zcx,ne_of_gt->zcy,lt_trans->zcz,lt_or_ge->zcA,sub_self->zcB,le_refl->zcI,zero_le->zcJ,le_succ->zcK,mod_lt->zcN
open PySem.Heap renaming get?_push_of_some->zaq,get?_update_other->zar,get?_update_self->zax,get?_push_size->zaK,size_push->zcg,lt_size->zcF
open Int renaming emod_lt_of_pos->zaS,toNat_natCast->zbk,emod_nonneg->zbW
open Bool renaming false_ne_true->zaT,false_eq_true->zaU,and_eq_true->zbF,eq_iff_iff->zbX,false_bne->zcc,or_false->zcm,true_and->zcn,and_self->zco,and_true->zcp
open PySem.W renaming mg_none_of->zaW,hasDictIn->zbm,emptyDict->zbn,plainGet->zbG,instObj->zbY,kia_one->zbZ,findIn->zcd,keepIn->zce,codeIn->zcf,mg_of->zcq,isFn->zcC,fnOf->zcD,nsIn->zcE
open Option renaming isSome_map->zbo,some->zcL
open PySem renaming wpAny_bind->yaa,wpAny_pure->yab,wpAny_mono->yac,wpAny_holding->yad,wpAny_newObj_type->yae,sizeLine_eq->yaf,sizeLine->yag,Shared->yah,Value->yai,Program->yaj,World->yak,Around->yal,PyData->yam,compareOp->yan,starEach->yao,FuncData->yap,mainGlobals->yaq,wpAny->yar,sysModules->yas,swapsWith->yat,backTo->yau,DictEntry->yav,GenState->yaw,codeAny_mono->yax,wpAny_standAt->yay,bindArgs->yaz,BindsTo->yaA,wpAny_onRaise->yaB,getMethod->yaC,keywordEach->yaD,backToKw->yaE,wpAny_execs_nil->yaF,wpAny_execs_cons->yaG,wpAny_call->yaH
open PySem.W renaming Frag->yaI
theorem yDf{p:Prop}[Decidable p](h:¬p):decide p=false:=decide_eq_false h
theorem yDt{p:Prop}[Decidable p](h:p):decide p=true:=decide_eq_true h
theorem yIn.{u}{c:Prop}{h:Decidable c} (n:¬c) {α:Sort u}{t e:α}:(ite c t e)=e:=if_neg n
theorem yIp.{u}{c:Prop}{h:Decidable c} (n:c) {α:Sort u}{t e:α}:(ite c t e)=t:=if_pos n
theorem ySz(n:Nat)(h:n<=100:=by decide):n<=PySem.sizeLine:=by rw[PySem.sizeLine_eq];lia
set_option Elab.async false
set_option linter.all false
set_option compiler.extract_closed false
set_option maxRecDepth 100000
namespace L2
open PySem PySem.Spec PyProof.Rows
abbrev Key:=Sum Int Str
noncomputable def oW:Key->yai->Bool
 |.inl k,v=>Value.isInt k v
 |.inr x,v=>Value.isStrOf x v
noncomputable def Sd(w:yak):Key->Int
 |.inl k=>hashInt k
 |.inr x=>hashStr w x
theorem bJ:∀{k:Key}{v:yai},oW k v=true->(∃i t,k=Sum.inl i/\v=Value.int i t)∨(∃x t,k=Sum.inr x/\v=Value.str x t)
 |.inl i,v,h=>by
  obtain⟨t,e⟩:=Value.isInt_shape (k:=i) (v:=v) h;exact .inl ⟨i,t,rfl,e⟩
 |.inr x,v,h=>by
  obtain⟨t,e⟩:=Value.isStrOf_shape (x:=x) (v:=v) h;exact .inr ⟨x,t,rfl,e⟩
theorem BZ(i:Int)(t:Tok):oW (.inl i) (.int i t)=true:=by simp[oW,Value.isInt]
theorem BY(x:Str)(t:Tok):oW (.inr x) (.str x t)=true:=by simp[oW,Value.isStrOf]
theorem Ni(a b:Int):decide ((Sum.inl a:Key)=Sum.inl b)=(a==b):=by
 by_cases e:a=b
 ·subst e;simp
 ·have h:¬(Sum.inl a:Key)=Sum.inl b:=λq=>e (Sum.inl.inj q);rw[yDf h];exact(beq_eq_false_iff_ne.mpr e).symm
theorem Nf(a b:Str):decide ((Sum.inr a:Key)=Sum.inr b)=decide (a=b):=by
 by_cases e:a=b
 ·subst e;simp
 ·have h:¬(Sum.inr a:Key)=Sum.inr b:=λq=>e (Sum.inr.inj q);rw[yDf h,yDf e]
theorem Nh(a:Int)(b:Str):decide ((Sum.inl a:Key)=Sum.inr b)=false:=yDf (λq=>nomatch q)
theorem Ng(a:Str)(b:Int):decide ((Sum.inr a:Key)=Sum.inl b)=false:=yDf (λq=>nomatch q)
noncomputable def bN(prog:yaj)(w:yak):PySem.KeyKind prog w Key where
 is:=oW
 hash:=Sd w
 inj:=λv a b o m=>by
  rcases bJ o with⟨i,t,rfl,rfl⟩|⟨x,t,rfl,rfl⟩
  ·rcases bJ m with⟨j,u,rfl,e⟩|⟨y,u,rfl,e⟩
   ·injection e with e1 _;rw[e1]
   ·exact nomatch e
  ·rcases bJ m with⟨j,u,rfl,e⟩|⟨y,u,rfl,e⟩
   ·exact nomatch e
   ·injection e with e1 _;rw[e1]
 byValue:=λk v h=>by
  rcases bJ h with⟨i,t,rfl,rfl⟩|⟨x,t,rfl,rfl⟩<;>rfl
 pyHash:=λl h=>by
  rcases bJ l with⟨i,t,rfl,rfl⟩|⟨x,t,rfl,rfl⟩
  ·exact wpAny_pyHash_int h
  ·exact wpAny_pyHash_str h
 eqBool:=λn l h=>by
  rcases bJ n with⟨i,t,rfl,rfl⟩|⟨x,t,rfl,rfl⟩
  ·rcases bJ l with⟨j,u,rfl,rfl⟩|⟨y,u,rfl,rfl⟩
   ·rw[Ni] at h;exact wpAny_eqBool_int h
   ·rw[Nh] at h;exact SeqAt.EqAt.int_str i t y u _ _ _ _ h
  ·rcases bJ l with⟨j,u,rfl,rfl⟩|⟨y,u,rfl,rfl⟩
   ·rw[Ng] at h;exact SeqAt.EqAt.str_int x t j u _ _ _ _ h
   ·rw[Nf] at h;exact wpAny_eqBool_str h
 «strs»:=λk x t v h=>by
  rcases bJ h with⟨i,u,rfl,e⟩|⟨y,u,rfl,e⟩
  ·exact nomatch e
  ·injection e with e1 _;subst e1;cases v<;>rfl
theorem uQ(prog:yaj)(w:yak)(i:Int)(t:Tok):(bN prog w).is (.inl i) (.int i t)=true:=BZ i t
theorem uP(prog:yaj)(w:yak)(x:Str)(t:Tok):(bN prog w).is (.inr x) (.str x t)=true:=BY x t
inductive V where
 |bB|bl (b:Bool)|int (i:Int)|str (x:Str)|wH (b:Array UInt8)|Ny (b:UInt64)|ref (a:Addr)|ty (n:String)
 deriving DecidableEq
def RelV:V->yai->Prop
 |.bB,u=>u=Value.none
 |.bl b,u=>u=Value.bool b
 |.int i,u=>∃t,u=Value.int i t
 |.str x,u=>∃t,u=Value.str x t
 |.wH b,u=>∃t,u=Value.bytes b t
 |.Ny b,u=>∃t,u=Value.float b t
 |.ref a,u=>u=Value.ref a
 |.ty n,u=>u=Value.type n
abbrev Vals:List V->List yai->Prop:=Paired RelV
theorem Vals.length{a:List V}{us:List yai}(r:Vals a us):a.length=us.length:=Paired.length r
theorem Vals.get:∀{a:List V}{us:List yai}{i:Nat}{x:V},Vals a us->a[i]? =some x->∃u,us[i]? =some u/\RelV x u
 |_,_,_,_,.nil,e=>by simp at e
 |_,_,0,_,.cons r _,e=>by simp at e;subst e;exact⟨_,rfl,r⟩
 |_,_,i+1,x,.cons _ t,e=>by
  obtain⟨u,h1,h2⟩:=Vals.get (i:=i) (x:=x) t (by simpa using e);exact⟨u,by simpa using h1,h2⟩
theorem Vals.set{x:V}{u:yai}(r:RelV x u):∀{a:List V}{us:List yai}(i:Nat),Vals a us->Vals (a.set i x) (us.set i u)
 |_,_,_,.nil=>.nil
 |_,_,0,.cons _ t=>.cons r t
 |_,_,i+1,.cons q t=>.cons q (Vals.set r i t)
theorem Vals.append:∀{a ys:List V}{us ws:List yai},Vals a us->Vals ys ws->Vals (a++ys) (us++ws):=by
 intro a ys us ws h g
 induction h with
 |nil=>exact g
 |cons r t ih=>exact .cons r ih
theorem Vals.take:∀{a:List V}{us:List yai}(n:Nat),Vals a us->Vals (a.take n) (us.take n)
 |_,_,0,_=>.nil
 |_,_,_+1,.nil=>.nil
 |_,_,n+1,.cons r t=>.cons r (Vals.take n t)
theorem Vals.drop:∀{a:List V}{us:List yai}(n:Nat),Vals a us->Vals (a.drop n) (us.drop n)
 |_,_,0,r=>r
 |_,_,_+1,.nil=>.nil
 |_,_,n+1,.cons _ t=>Vals.drop n t
def jn:Option V->Option yai->Prop
 |some v,some u=>RelV v u
 |none,none=>True
 |_,_=>False
def KV{κ:Type}:List (κ×V)->List (κ×yai)->Prop:=Paired λ(p:κ×V)(q:κ×yai)=>p.1=q.1/\RelV p.2 q.2
noncomputable def kV:Key->V
 |.inl i=>.int i
 |.inr x=>.str x
inductive HO where
 |lst (xs:List V)
 |tup (xs:List V)
 |dK (kvs:List (Key×V))|dT (kvs:List (List Key×V))
 |set (S:Int->Bool) (n:Nat)
 |ins (C dx:Addr) (fs:List (Str×V))
 |own (x:Addr)
 |xd (fs:List (Str×V))
 |met (f x:Addr)
 |RU (lo hi:Int)
 |Ah (o:Obj) (u:HO)
 |Lr (ps:Array yai)
 |ext (φ:Heap->Prop)
abbrev Hp:=Addr->Option HO
noncomputable def upd(H:Hp)(a:Addr)(o:HO):Hp:=λb=>if b=a then some o else H b
theorem bF{H:Hp}{a:Addr}{o:HO}:upd H a o a=some o:=by unfold upd;rw[yIp rfl]
theorem aO{H:Hp}{a b:Addr}{o:HO}(h:b≠a):upd H a o b=H b:=by unfold upd;rw[yIn h]
theorem P9{H:Hp}{a b:Addr}{o u:HO}(h:H a=some o)(h':H b=some u)(d:o≠u):a≠b:=by
 intro e;subst e;rw[h] at h';exact d (zcL.inj h')
theorem bE{H:Hp}{a b:Addr}{o:HO}(h:H a=some o)(h':H b=none):a≠b:=by
 intro e;subst e;rw[h] at h';cases h'
section
variable (P:yaj)(w:yak)
def bq(H:Hp)(h:Heap)(a:Addr):HO->Prop
 |.lst i=>i.length<=yag/\∃(e:List yai)(n:Nat),Vals i e/\h.get? a=some {cls:=.type "list",data:=.seq e.toArray n}
 |.tup i=>i.length<=yag/\∃e:List yai,Vals i e/\IsTup h a e.toArray
 |.dK kvs=>kvs.length<=yag/\(a==yas)=false/\∃vs,KV kvs vs/\h.DictOf (bN P w) a vs
 |.dT kvs=>kvs.length<=yag/\(a==yas)=false/\∃i:List (List Key×Addr×yai),
   Paired (λ(p:List Key×V)(q:List Key×Addr×yai)=>p.1=q.1/\H q.2.1=some (.tup (p.1.map kV))/\RelV p.2 q.2.2) kvs i/\
   ∃o j l,h.get? a=some o/\o.ExactDict/\o.data=.dict j l/\j.toList=i.map (entryOfKey (tupleKind (bN P w)))/\(i.map (·.1)).Nodup
 |.set S n=>h.SetOf (intKind P w) a S n
 |.ins C dx fs=>H dx=some (.own a)/\fs.length<=1000/\dx≠a/\h.get? a=some (zbY C dx)/\
   ∃mA,h.Ns1 dx mA/\(∀f,jn (fs.lookup f) (mA f))/\PySem.Within mA (fs.map (·.1))
 |.own _=>∃o,h.get? a=some o
 |.xd fs=>∃mA,h.Ns1 a mA/\∀f,jn (fs.lookup f) (mA f)
 |.RU lo hi=>∃t u v,h.get? a=some {cls:=.type "range",data:=.fields #[.int lo t,.int hi u,.int 1 v]}
 |.Ah o u=>h.get? a=some o/\bq H h a u
 |.Lr ps=>h.get? a=some {cls:=.none,data:=.fields ps}
 |.met f x=>h.get? a=some (PySem.W.methodObj (.ref f) (.ref x))
 |.ext φ=>φ h/\(∃o,h.get? a=some o)/\∀h1 h2:Heap,φ h1->(∀o,h1.get? a=some o->h2.get? a=some o)->φ h2
def jt(H:Hp)(h:Heap):Prop:=∀a o,H a=some o->bq P w H h a o
end
section
variable {P:yaj}{w:yak}{H H':Hp}{h h':Heap}{a:Addr}{o:HO}
theorem bq.lt(x:bq P w H h a o):a<h.objs.size:=by
 cases o with
 |lst xs=>obtain⟨_,_,_,_,e⟩:=x;exact zcF e
 |tup xs=>obtain⟨_,_,_,p⟩:=x;exact p.lt
 |dK kvs=>obtain⟨_,_,_,_,o,_,_,e,_⟩:=x;exact zcF e
 |dT kvs=>obtain⟨_,_,_,_,o,_,_,e,_⟩:=x;exact zcF e
 |set S n=>obtain⟨o,_,_,_,e,_⟩:=x;exact zcF e
 |ins C dx fs=>obtain⟨_,_,_,e,_⟩:=x;exact zcF e
 |own y=>obtain⟨_,e⟩:=x;exact zcF e
 |xd fs=>obtain⟨_,⟨_,_,_,e,_⟩,_⟩:=x;exact zcF e
 |RU lo hi=>obtain⟨_,_,_,e⟩:=x;exact zcF e
 |Ah ob u=>obtain⟨e,_⟩:=x;exact zcF e
 |Lr ps=>exact zcF (show h.get? a=some _ from x)
 |met f y=>exact zcF (show h.get? a=some _ from x)
 |ext φ=>obtain⟨_,⟨_,e⟩,_⟩:=x;exact zcF e
theorem Paired.Qc{α j:Type}{F G:α->j->Prop}:∀{i:List α}{e:List j},Paired F i e->(∀a b,F a b->G a b)->Paired G i e:=by
 intro a b h f
 induction h with
 |nil=>exact .nil
 |cons r t ih=>exact .cons (f _ _ r) ih
theorem bq.stay(x:bq P w H h a o)(k:∀b u,(b=a∨H b=some (.own a))->h.get? b=some u->h'.get? b=some u)(I:∀b,H b=some (.own a)->H' b=some (.own a))(G:∀b s,H b=some (.tup s)->H' b=some (.tup s)):bq P w H' h' a o:=by
 induction o with
 |lst s=>obtain⟨z,m,n,r,e⟩:=x;exact⟨z,m,n,r,k _ _ (.inl rfl) e⟩
 |tup s=>obtain⟨z,m,r,i,e,c⟩:=x;exact⟨z,m,r,i,k _ _ (.inl rfl) e,c⟩
 |dK kvs=>obtain⟨z,y,vs,r,i,j,l,e,c⟩:=x;exact⟨z,y,vs,r,i,j,l,k _ _ (.inl rfl) e,c⟩
 |dT kvs=>
  obtain⟨z,y,s,r,i,j,l,e,c⟩:=x;exact⟨z,y,s,Paired.Qc r λp q z=>⟨z.1,G _ _ z.2.1,z.2.2⟩,i,j,l,k _ _ (.inl rfl) e,c⟩
 |set S n=>obtain⟨i,j,l,t,e,c⟩:=x;exact⟨i,j,l,t,k _ _ (.inl rfl) e,c⟩
 |ins C dx fs=>
  obtain⟨d,z,ne,e,mA,⟨E,j,l,L,c⟩,r⟩:=x;exact⟨I _ d,z,ne,k _ _ (.inl rfl) e,mA,⟨E,j,l,k _ _ (.inr d) L,c⟩,r⟩
 |own y=>obtain⟨i,e⟩:=x;exact⟨i,k _ _ (.inl rfl) e⟩
 |xd fs=>obtain⟨mA,⟨E,j,l,e,c⟩,r⟩:=x;exact⟨mA,⟨E,j,l,k _ _ (.inl rfl) e,c⟩,r⟩
 |RU lo hi=>obtain⟨t,u,v,e⟩:=x;exact⟨t,u,v,k _ _ (.inl rfl) e⟩
 |Ah i u ih=>obtain⟨e,q⟩:=x;exact⟨k _ _ (.inl rfl) e,ih q⟩
 |Lr ps=>
  have e:h.get? a=some {cls:=.none,data:=.fields ps}:=x;show h'.get? a=some {cls:=.none,data:=.fields ps};exact k a _ (.inl rfl) e
 |met f y=>
  have e:h.get? a=some (PySem.W.methodObj (.ref f) (.ref y)):=x;show h'.get? a=some (PySem.W.methodObj (.ref f) (.ref y));exact k a _ (.inl rfl) e
 |ext φ=>obtain⟨p,⟨o,e⟩,F⟩:=x;exact⟨F _ _ p λo q=>k _ _ (.inl rfl) q,⟨o,k _ _ (.inl rfl) e⟩,F⟩
theorem jt.lt(x:jt P w H h)(e:H a=some o):a<h.objs.size:=(x a o e).lt
theorem jt.fresh(x:jt P w H h)(e:h.objs.size<=a):H a=none:=by
 cases q:H a with
 |none=>rfl
 |some u=>exact absurd (zaR (x.lt q) e) (zcl _)
theorem jt.kept(x:jt P w H h)(k:∀b u,h.get? b=some u->h'.get? b=some u):jt P w H h':=λa o e=>
 (x a o e).stay (λb u _ q=>k b u q) (λ_ q=>q) λ_ _ q=>q
theorem jt.laid(x:jt P w H h)(k:∀b u,h.get? b=some u->h'.get? b=some u)(l:h.objs.size<=a)(new:bq P w (upd H a o) h' a o):jt P w (upd H a o) h':=λb u e=>by
 have i:=x.fresh l;by_cases j:b=a
 ·subst j;rw[bF] at e;cases e;exact new
 ·rw[aO j] at e;exact(x b u e).stay (λc v _ q=>k c v q) (λc q=>by rw[aO (bE q i)];exact q) λc m q=>by rw[aO (bE q i)];exact q
end
def Rd(H:Hp)(a:Addr)(u:HO):Prop:=H a=some u∨∃o,H a=some (.Ah o u)
theorem Rd.ok{P:yaj}{w:yak}{H:Hp}{h:Heap}{a:Addr}{u:HO}(r:Rd H a u)(x:jt P w H h):bq P w H h a u:=by
 rcases r with r|⟨o,r⟩
 ·exact x a u r
 ·obtain⟨_,q⟩:=x a _ r;exact q
def Q4:Option HO->Prop
 |some (.lst _)=>True
 |some (.dK _)=>True
 |some (.dT _)=>True
 |some (.set _ _)=>True
 |some (.ins _ _ _)=>True
 |some (.ext _)=>True
 |_=>False
section
variable {P:yaj}{w:yak}{H:Hp}{h h':Heap}{x e:Addr}{o':HO}
theorem jt.write(ok:jt P w H h)(j:Q4 (H x))(s:e=x∨H e=some (.own x))(k:∀b u,b≠e->h.get? b=some u->h'.get? b=some u)(n:∃u,h'.get? e=some u)(new:bq P w (upd H x o') h' x o'):jt P w (upd H x o') h':=λb u q=>by
 have t:∀c y,H c=some (.own y)->c≠x:=λc y r z=>by subst z;rw[r] at j;exact j
 have E:∀c i,H c=some (.tup i)->c≠x:=λc i r z=>by subst z;rw[r] at j;exact j
 by_cases m:b=x
 ·subst m;rw[bF] at q;cases q;exact new
 ·rw[aO m] at q;by_cases a:b=e
  ·have o:H b=some (.own x):=by
    rcases s with z|z
    ·exact absurd (a.trans z) m
    ·rw[a];exact z
   rw[q] at o;cases o;obtain⟨v,C⟩:=n;exact⟨v,by rw[a];exact C⟩
  ·refine(ok b u q).stay (λc v l r=>k c v ?_ r) (λc r=>by rw[aO (t c b r)];exact r) λc i r=>by rw[aO (E c i r)];exact r
   rcases l with rfl|l
   ·exact a
   ·rintro rfl;rcases s with z|z
    ·exact t c b l z
    ·rw[l] at z;cases z;exact m rfl
end
structure Un(fs ex:List Addr)(H H':Hp)(h h':Heap):Prop where
 keep:∀b o,h.get? b=some o->H b=none->b ∉ fs->b ∉ ex->h'.get? b=some o
 slot:∀b o,h.get? b=some o->H b=none->b∈fs->b ∉ ex->∃sl,h'.get? b=some {o with slots:=sl}
 free:∀b o,h.get? b=some o->H b=none->b ∉ ex->H' b=none
 there:∀b o,h.get? b=some o->b ∉ ex->∃o',h'.get? b=some o'
 tups:∀b xs,H b=some (.tup xs)->H' b=some (.tup xs)
 p9:∀b o u,H b=some (.Ah o u)->H' b=some (.Ah o u)
 rJ:∀b ps,H b=some (.Lr ps)->∃more,H' b=some (.Lr (ps++more))
section
variable {fs fs' ex ex':List Addr}{H H1 H2:Hp}{h h1 h2 h':Heap}{a x e:Addr}{o:HO}
theorem Un.any(u:Un fs ex H H1 h h1){b:Addr}{ob:Obj}(q:h.get? b=some ob)(n:H b=none)(i:b ∉ ex):∃sl,h1.get? b=some {ob with slots:=sl}:=by
 by_cases j:b∈fs
 ·exact u.slot b ob q n j i
 ·exact⟨ob.slots,u.keep b ob q n j i⟩
theorem Un.kept(k:∀b u,h.get? b=some u->h'.get? b=some u):Un fs ex H H h h':=
 ⟨λb i q _ _ _=>k b i q,λb i q _ _ _=>⟨i.slots,k b i q⟩,λ_ _ _ n _=>n,λb i q _=>⟨i,k b i q⟩,λ_ _ q=>q,λ_ _ _ q=>q,λ_ j q=>⟨#[],by rw[q];simp⟩⟩
theorem Un.refl:Un fs ex H H h h:=Un.kept λ_ _ q=>q
theorem Un.laid(k:∀b u,h.get? b=some u->h'.get? b=some u)(l:h.objs.size<=a)(i:H a=none):Un fs ex H (upd H a o) h h' where
 keep:=λb u q _ _ _=>k b u q
 slot:=λb u q _ _ _=>⟨u.slots,k b u q⟩
 free:=λb u q n _=>by rw[aO (zcv (zaR (zcF q) l))];exact n
 there:=λb u q _=>⟨u,k b u q⟩
 tups:=λb j q=>by rw[aO (bE q i)];exact q
 p9:=λb u j q=>by rw[aO (bE q i)];exact q
 rJ:=λb m q=>⟨#[],by rw[aO (bE q i),q];simp⟩
theorem Un.write(j:Q4 (H x))(y:e=x∨H e=some (.own x))(k:∀b u,b≠e->h.get? b=some u->h'.get? b=some u)(m:∃u,h'.get? e=some u):Un fs ex H (upd H x o) h h':=by
 have s:∀b,H b=none->b≠x:=λb n z=>by subst z;rw[n] at j;exact j
 have t:∀b,H b=none->b≠e:=λb n z=>by
  subst z;rcases y with r|r
  ·exact s b n r
  ·rw[n] at r;cases r
 have l:∀b u,H b=some u->¬Q4 (some u)->b≠x:=λb u q nm z=>by subst z;rw[q] at j;exact nm j
 refine⟨λb u q n _ _=>k b u (t b n) q,λb u q n _ _=>⟨u.slots,k b u (t b n) q⟩,λb u q n _=>by rw[aO (s b n)];exact n,λb u q _=>?_,
  λb v q=>by rw[aO (l b _ q λz=>z)];exact q,λb u v q=>by rw[aO (l b _ q λz=>z)];exact q,λb C q=>⟨#[],by rw[aO (l b _ q λz=>z),q];simp⟩⟩
 by_cases i:b=e
 ·subst i;exact m
 ·exact⟨u,k b u i q⟩
end
noncomputable def Ri(h:Heap)(H:Hp):List Addr:=(zcM h.objs.size).filter λa=>(H a).isSome
noncomputable def sU(h:Heap)(H:Hp):Heap:=PySem.W.hideAll h (Ri h H)
theorem B7(h:Heap)(H:Hp):(sU h H).objs.size=h.objs.size:=PySem.W.hideAll_size _ _
theorem Fo{h:Heap}{H:Hp}{b:Addr}{o:Obj}(e:h.get? b=some o)(n:H b=none):(sU h H).get? b=some o:=
 PySem.W.hideAll_get _ e λa=>by
  have q:(H b).isSome=true:=(zbH.mp a).2;rw[n] at q;simp at q
theorem ID{h:Heap}{H:Hp}{b:Addr}{o:Obj}(e:(sU h H).get? b=some o):h.get? b=some o/\H b=none:=by
 have a:h.get? b=some o:=PySem.W.of_hideAll (Ri h H) e;refine⟨a,?_⟩;cases q:H b with
 |none=>rfl
 |some x=>
  have i:b∈Ri h H:=zbH.mpr ⟨zca.mpr (zcF a),by simp[q]⟩;have z:(sU h H).get? b=none:=PySem.W.hideAll_none (Ri h H) i;rw[z] at e;cases e
noncomputable def JU(g h:Heap)(L:Addr):List (Addr×Obj):=(zcM h.objs.size).filterMap λa=>if a=L∨(g.get? a).isSome=true then none else(h.get? a).map λo=>(a,o)
noncomputable def rest(g h:Heap)(L d:Addr):List (Addr×Obj):=(JU g h L).filter λp=>decide (p.1≠d)
structure Mod(K:yaI)(mg:Str->Option yai)(base:Heap):Prop where
 Ro:K.In base
 glob:base.Ns yaq mg
 blt:∃mb,base.Ns builtinsNs mb/\∀x:Str,x≠"__name__"->mb x=bootBuiltins x
 nolimit:base.NoLimit
structure Cx where
 prog:yaj
 w:yak
 K:yaI
 mg:Str->Option yai
 base:Heap
 A:yal
 N:List Str
 s₀:yah
 H₀:Hp
 env:Env
 outer:List Env
 stack:List Env
 ex:List Addr
 fn:Str->Bool
 calm:Bool
 pn:List (Addr×Obj)
 xe:yai->yah->Prop
end L2
variable {P prog:yaj}{w:yak}{K:yaI}{mg:PySem.Str->Option yai}{base:PySem.Heap}{C fi:PySem.Addr}{X:L2.Cx}{A:yal}{E:yai->yah->Prop}{pins:List (PySem.Addr×PySem.Obj)}{σ:List (Option L2.V)}{s:yah}{H:L2.Hp}{Q:yai->yah->Prop}{XP:(PySem.Str->Option yai)->PySem.Heap->Prop}{es:Array (Int×yai)}{osl sl:Array (Option yai)}{its:Array yai}{G:Array yaw->Array yaw->Prop}{b neg:Bool}{H':L2.Hp}{v y:L2.V}{kvs:List (List L2.Key×L2.V)}{caps:List (Option Nat)}{ts:List (PySem.Str×PySem.Str×PySem.Str)}{kw:List (PySem.Str×yai)}{ks B:List (yam×PySem.Addr)}{xs:List L2.V}{ch fp:List PySem.Addr}{os:List PySem.Obj}{N ps loose ss ms:List PySem.Str}{us:List yai}{t' i j n m ep:Nat}{a f l I:PySem.Addr}{env:PySem.Env}{h h':PySem.Heap}{o:PySem.Obj}{scope:PySem.Scope}{t:PySem.SetTable}{x name qual:PySem.Str}{u:yai}{YP:yak->PySem.Heap->Prop}{fd:yap}{ifs:List PySem.Expr}{body:List PySem.Stmt}{e c tg iter value:PySem.Expr}{st:PySem.Stmt}{p pos pos' apos p2 pos2:PySem.Pos}
namespace L2
open PySem PySem.Spec PyProof.Rows
noncomputable def frs(l:List Env):List Addr:=l.filterMap (·.frame)
noncomputable abbrev Cx.fs(X:Cx):List Addr:=frs X.outer
def Rr(a:Scope)(x:Str):Prop:=a.names.lookup x=some .local∨a.names.lookup x=some .cell∨a.names.lookup x=some .free
def Loc(a:Scope)(x:Str):Prop:=a.names.lookup x=some .local∨a.names.lookup x=some .cell
def Look(env:Env)(h:Heap)(m:Str->Option yai)(x:Str)(u:yai):Prop:=
 (env.kindOf x=some .local/\m x=some u)∨((env.kindOf x=some .cell∨env.kindOf x=some .free)/\∃c,env.cells.lookup x=some c/\h.IsCell c (some u))
structure Cx.Ok(X:Cx):Prop where
 mod:Mod X.K X.mg X.base
 kind:X.env.scope.kind=.function
 glob:X.env.globals=yaq
 blt:X.env.builtins=builtinsNs
 above:X.s₀.heap.objs.size<=X.env.locals
 inj:∀x y c,X.env.cells.lookup x=some c->X.env.cells.lookup y=some c->x=y
 has:∀x,(X.env.kindOf x=some .cell∨X.env.kindOf x=some .free)->∃c,X.env.cells.lookup x=some c
 QL:∀x c,X.fn x=true->X.env.cells.lookup x=some c->X.s₀.heap.objs.size<=c
 hd:X.calm=true->X.A.handled=none
 frames:X.A.frames=some X.stack
 stk:X.stack=X.outer∨(X.stack=X.env::X.outer/\X.env.frame=some X.env.locals)
 Sj:∀b∈X.ex,b≠X.env.locals/\∀x c,X.env.cells.lookup x=some c->c≠b
 bs:∀b o,X.base.get? b=some o->X.s₀.heap.get? b=some o/\X.H₀ b=none
 JP:X.base.objs.size<=X.s₀.heap.objs.size
 ET:∀b o,X.base.get? b=some o->b ∉ X.ex
 Jq:∀b∈X.ex,b ∉ X.fs
 m6:X.s₀.heap.FunFrames X.base X.outer
 Nx:∀b∈X.fs,X.H₀ b=none
structure Inv(X:Cx)(pins:List (Addr×Obj))(σ:List (Option V))(H:Hp)(s:yah):Prop where
 ok:X.Ok
 os:s.os=X.s₀.os
 bare:AllBare s.gens
 base:Un X.fs X.ex X.H₀ H X.s₀.heap s.heap
 loc:∃m,s.heap.Ns X.env.locals m/\∀(i:Nat)(x:Str)(v:V),X.N[i]? =some x->σ[i]? =some (some v)->Rr X.env.scope x->∃u,RelV v u/\Look X.env s.heap m x u
 cell:∀x c,X.env.cells.lookup x=some c->∃v,s.heap.IsCell c v
 free:H X.env.locals=none
 gU:∀x c,X.env.cells.lookup x=some c->H c=none
 pin:∀p∈X.pn++pins,s.heap.get? p.1=some p.2/\H p.1=none/\p.1≠X.env.locals/\p.1 ∉ X.fs/\∀v,p.2.data≠ .cell v
 hok:jt X.prog X.w H s.heap
 len:σ.length=X.N.length
theorem Cx.Ok.Sa(ok:X.Ok){b:Addr}(e:X.base.get? b=some o):b ∉ X.fs:=λa=>by
 have:=(ok.m6.mem a).1;rw[e] at this;cases this
theorem Inv.bs(I:Inv X pins σ H s):∀b o,X.base.get? b=some o->s.heap.get? b=some o/\H b=none:=λb o e=>
 ⟨I.base.keep b o (I.ok.bs b o e).1 (I.ok.bs b o e).2 (I.ok.Sa e) (I.ok.ET b o e),I.base.free b o (I.ok.bs b o e).1 (I.ok.bs b o e).2 (I.ok.ET b o e)⟩
theorem Inv.bk(I:Inv X pins σ H s):∀b o,X.base.get? b=some o->s.heap.get? b=some o:=λb o e=>(I.bs b o e).1
theorem Inv.mod(I:Inv X pins σ H s):Mod X.K X.mg X.base:=I.ok.mod
theorem Inv.mH(I:Inv X pins σ H s):X.K.In s.heap:=I.ok.mod.Ro.keeps I.bk
theorem Inv.lt(I:Inv X pins σ H s):X.env.locals<s.heap.objs.size:=by obtain⟨_,a,_⟩:=I.loc;exact a.lt
theorem Inv.sz(I:Inv X pins σ H s):X.s₀.heap.objs.size<=s.heap.objs.size:=zcw I.ok.above (zcx I.lt)
theorem Inv.P8(I:Inv X pins σ H s)(h:s.heap.objs.size<=a):a ∉ X.fs:=λi=>by
 obtain⟨_,o,e,_⟩:=I.ok.m6.mem i;exact absurd (zaR (zcF e) (zcw I.sz h)) (zcl _)
theorem Inv.N3(I:Inv X pins σ H s):∀x c,X.env.cells.lookup x=some c->c≠X.env.locals:=λx c e z=>by
 obtain⟨v,o,i,hd⟩:=I.cell x c e;obtain⟨m,⟨j,l,n,a,h,_⟩,_⟩:=I.loc;rw[z,a] at i;cases i;rw[h] at hd;cases hd
theorem Inv.m6(I:Inv X pins σ H s):s.heap.FunFrames X.base X.outer:=by
 have all:∀(l:List Env),(∀b∈frs l,b∈X.fs)->X.s₀.heap.FunFrames X.base l->s.heap.FunFrames X.base l:=by
  intro l
  induction l with
  |nil=>intro _ _;trivial
  |cons env r ih=>
   intro j t;obtain⟨u,⟨L,o,a,q,n,hd⟩,m⟩:=t;have i:L∈X.fs:=j L (by unfold frs;rw[zaD,a];exact zaL);obtain⟨v,e⟩:=I.base.slot L o n (I.ok.Nx L i) i λz=>I.ok.Jq L z i;exact⟨u,⟨L,_,a,q,e,hd⟩,ih (λb h=>j b (by unfold frs;rw[zaD,a];exact zay _ h)) m⟩
 exact all X.outer (λ_ h=>h) I.ok.m6
theorem Inv.stack(I:Inv X pins σ H s):s.heap.FunFrames X.base X.stack:=by
 rcases I.ok.stk with e|⟨e,h⟩
 ·rw[e];exact I.m6
 ·rw[e];obtain⟨m,a,_⟩:=I.loc;refine .cons (by rw[I.ok.kind];decide) h a ?_ I.m6;exact Heap.get?_none_of_le (zcw I.ok.JP I.ok.above)
theorem Inv.nT(I:Inv X pins σ H s):∀b∈frs X.stack,b∈X.env.locals::X.fs:=λb a=>by
 rcases I.ok.stk with e|⟨e,h⟩
 ·rw[e] at a;exact zay _ a
 ·rw[e] at a;unfold frs at a;rw[zaD,h] at a;exact a
theorem Inv.zc(I:Inv X pins σ H s):∀b∈frs X.stack,H b=none:=λb a=>by
 rcases zch.mp (I.nT b a) with e|a
 ·rw[e];exact I.free
 ·obtain⟨_,o,h,_⟩:=I.ok.m6.mem a;exact I.base.free b o h (I.ok.Nx b a) λz=>I.ok.Jq b z a
theorem Inv.step{g':Array yaw}{d':Drawn}(I:Inv X pins σ H s)(j:∀b∈ch,(b∈X.ex∨X.s₀.heap.objs.size<=b)/\b≠X.env.locals/\(∀x c,X.env.cells.lookup x=some c->c≠b)/\∀p∈X.pn++pins,p.1≠b)(keep:∀b o,b≠X.env.locals->b ∉ X.fs->b ∉ ch->s.heap.get? b=some o->H b=none->h'.get? b=some o)(slot:∀b o,b≠X.env.locals->b∈X.fs->b ∉ ch->s.heap.get? b=some o->H b=none->∃sl,h'.get? b=some {o with slots:=sl})(free:∀b o,b ∉ ch->s.heap.get? b=some o->H b=none->H' b=none)(there:∀b o,b ∉ ch->s.heap.get? b=some o->∃o',h'.get? b=some o')(tups:∀b E,H b=some (.tup E)->H' b=some (.tup E))(p9:∀b o u,H b=some (.Ah o u)->H' b=some (.Ah o u))(rJ:∀b ps,H b=some (.Lr ps)->∃more,H' b=some (.Lr (ps++more)))(ns:∀m,s.heap.Ns X.env.locals m->h'.Ns X.env.locals m)(hok:jt X.prog X.w H' h')(Y:AllBare g'):
  Inv X pins σ H' {s with heap:=h',gens:=g',drawn:=d',toks:=t'}:=by
 have L:∀b o,X.s₀.heap.get? b=some o->b≠X.env.locals:=λb o e=>zcv (zaR (zcF e) I.ok.above);have y:∀b o,X.s₀.heap.get? b=some o->b ∉ X.ex->b ∉ ch:=λb o e a F=>by
  rcases(j b F).1 with z|z
  ·exact a z
  ·exact absurd (zaR (zcF e) z) (zcl _)
 have t:∀x c,X.env.cells.lookup x=some c->∀v,s.heap.IsCell c v->h'.IsCell c v:=λx c e v ⟨o,G,hd⟩=>by
  have h:c ∉ ch:=λz=>(j c z).2.2.1 x c e rfl;by_cases S:c∈X.fs
  ·obtain⟨sl,q⟩:=slot c o (I.N3 x c e) S h G (I.gU x c e);exact⟨_,q,hd⟩
  ·exact⟨o,keep c o (I.N3 x c e) S h G (I.gU x c e),hd⟩
 refine⟨I.ok,I.os,Y,⟨λb o e n F a=>?_,λb o e n F a=>?_,λb o e n a=>?_,λb o e a=>?_,λb E e=>tups b E (I.base.tups b E e),λb o E e=>p9 b o E (I.base.p9 b o E e),λb ps e=>?_⟩,?_,λx c e=>?_,?_,λx c e=>?_,λp Q=>?_,hok,I.len⟩
 ·exact keep b o (L b o e) F (y b o e a) (I.base.keep b o e n F a) (I.base.free b o e n a)
 ·obtain⟨sl,C⟩:=I.base.slot b o e n F a;obtain⟨P,O⟩:=slot b _ (L b o e) F (y b o e a) C (I.base.free b o e n a);exact⟨P,O⟩
 ·obtain⟨o',C⟩:=I.base.there b o e a;exact free b o' (y b o e a) C (I.base.free b o e n a)
 ·obtain⟨o',C⟩:=I.base.there b o e a;exact there b o' (y b o e a) C
 ·obtain⟨m1,C⟩:=I.base.rJ b ps e;obtain⟨m2,O⟩:=rJ b _ C;exact⟨m1++m2,by rw[O,Array.append_assoc]⟩
 ·obtain⟨m,U,W⟩:=I.loc;refine⟨m,ns m U,λi x v C O Z=>?_⟩;obtain⟨u,r,l⟩:=W i x v C O Z;refine⟨u,r,?_⟩;rcases l with l|⟨k,c,e,z⟩
  ·exact .inl l
  ·exact .inr ⟨k,c,e,t x c e _ z⟩
 ·obtain⟨v,z⟩:=I.cell x c e;exact⟨v,t x c e v z⟩
 ·obtain⟨m,⟨o,_,_,G,_⟩,_⟩:=I.loc;exact free _ o (λz=>(j _ z).2.1 rfl) G I.free
 ·obtain⟨v,o,G,hd⟩:=I.cell x c e;exact free c o (λz=>(j c z).2.2.1 x c e rfl) G (I.gU x c e)
 ·obtain⟨e,n,ne,nf,d⟩:=I.pin p Q;have h:p.1 ∉ ch:=λz=>(j p.1 z).2.2.2 p Q rfl;exact⟨keep p.1 p.2 ne nf h e n,free p.1 p.2 h e n,ne,nf,d⟩
theorem Inv.un(I:Inv X pins σ H s)(u:Un X.fs [] H H' s.heap h')(hok:jt X.prog X.w H' h'):Inv X pins σ H' {s with heap:=h',toks:=t'}:=by
 obtain⟨m,⟨o,E,F,l,r⟩,_⟩:=id I.loc;obtain⟨x,v⟩:=u.any l I.free (by simp);exact I.step (g':=s.gens) (d':=s.drawn) (ch:=[]) (λ_ z=>nomatch z) (λb o _ h _ e n=>u.keep b o e n h (by simp)) (λb o _ h _ e n=>u.slot b o e n h (by simp)) (λb o _ e n=>u.free b o e n (by simp)) (λb o _ e=>u.there b o e (by simp)) u.tups u.p9 u.rJ (λC t=>by
  obtain⟨y,i,j,a,q⟩:=t;rw[l] at a;cases a;exact⟨_,i,j,v,q⟩) hok I.bare
theorem Inv.call{g':Array yaw}{d':Drawn}(I:Inv X pins σ H s)(u:Un (frs X.stack) ch H H' s.heap h')(hok:jt X.prog X.w H' h')(C:AllBare g')(i:∀b∈ch,(b∈X.ex∨X.s₀.heap.objs.size<=b)/\b≠X.env.locals/\(∀x c,X.env.cells.lookup x=some c->c≠b)/\∀p∈X.pn++pins,p.1≠b):
  Inv X pins σ H' {s with heap:=h',gens:=g',drawn:=d',toks:=t'}:=by
 obtain⟨m,⟨o,O,P,t,r⟩,_⟩:=id I.loc;obtain⟨F,j⟩:=u.any t I.free λz=>(i _ z).2.1 rfl;exact I.step (ch:=ch) i (λb o j E a e n=>u.keep b o e n (λz=>(zch.mp (I.nT b z)).elim j E) a) (λb o _ _ a e n=>u.any e n a) (λb o a e n=>u.free b o e n a) (λb o a e=>u.there b o e a) u.tups u.p9 u.rJ (λL y=>by
  obtain⟨G,l,q,h,v⟩:=y;rw[t] at h;cases h;exact⟨_,l,q,j,v⟩) hok C
theorem Inv.turned{it:Addr}(I:Inv X pins σ H s)(k:∀b o,b≠it->s.heap.get? b=some o->h'.get? b=some o)(l:H it=none)(i:it≠X.env.locals)(h1:it∈X.ex∨X.s₀.heap.objs.size<=it)(h2:∀x c,X.env.cells.lookup x=some c->c≠it)(C:∀p∈X.pn++pins,p.1≠it):Inv X pins σ H {s with heap:=h',toks:=t'}:=by
 have h:∀b u,H b=some u->b≠it:=λb u e z=>by rw[z,l] at e;cases e
 refine I.step (g':=s.gens) (d':=s.drawn) (ch:=[it]) (λb y=>?_) (λb o _ _ a e _=>k b o (λz=>a (by simp[z])) e) (λb o _ _ a e _=>⟨o.slots,k b o (λz=>a (by simp[z])) e⟩) (λ_ _ _ _ n=>n)
  (λb o a e=>⟨o,k b o (λz=>a (by simp[z])) e⟩) (λ_ _ e=>e) (λ_ _ _ e=>e) (λb G e=>⟨#[],by rw[e];simp⟩) (λm t=>?_) (λb u e=>?_) I.bare
 ·have e:b=it:=by simpa using y
  subst e;exact⟨h1,i,h2,C⟩
 ·obtain⟨o,E,F,j,r⟩:=t;exact⟨o,E,F,k _ o (Ne.symm i) j,r⟩
 ·refine(I.hok b u e).stay (λc v a q=>k c v ?_ q) (λ_ q=>q) λ_ _ q=>q;rcases a with z|z
  ·rw[z];exact h b u e
  ·exact h c _ z
theorem Inv.tok(I:Inv X pins σ H s)(t:Nat):Inv X pins σ H {s with toks:=t}:=I.un (h':=s.heap) (t':=t) Un.refl I.hok
theorem Inv.kept(I:Inv X pins σ H s)(k:∀b u,s.heap.get? b=some u->h'.get? b=some u):Inv X pins σ H {s with heap:=h',toks:=t'}:=I.un (Un.kept k) (I.hok.kept k)
theorem Inv.laid{o:HO}(I:Inv X pins σ H s)(k:∀b u,s.heap.get? b=some u->h'.get? b=some u)(e:s.heap.objs.size<=a)(new:bq X.prog X.w (upd H a o) h' a o):
  Inv X pins σ (upd H a o) {s with heap:=h',toks:=t'}:=I.un (Un.laid k e (I.hok.fresh e)) (I.hok.laid k e new)
theorem Inv.write{x e:Addr}{o:HO}(I:Inv X pins σ H s)(h:Q4 (H x))(i:e=x∨H e=some (.own x))(k:∀b u,b≠e->s.heap.get? b=some u->h'.get? b=some u)(a:∃u,h'.get? e=some u)(new:bq X.prog X.w (upd H x o) h' x o):Inv X pins σ (upd H x o) {s with heap:=h',toks:=t'}:=I.un (Un.write h i k a) (I.hok.write h i k a new)
theorem Inv.j5{pins':List (Addr×Obj)}(I:Inv X pins σ H s)(h:∀p∈pins',s.heap.get? p.1=some p.2/\H p.1=none/\p.1≠X.env.locals/\p.1 ∉ X.fs/\∀v,p.2.data≠ .cell v):Inv X pins' σ H s:=
 ⟨I.ok,I.os,I.bare,I.base,I.loc,I.cell,I.free,I.gU,λp a=>(zbI.mp a).elim (λz=>I.pin p (zaz _ z)) (h p),I.hok,I.len⟩
theorem uM(e:N.Nodup)(a:N[i]? =some x)(b:N[j]? =some x):i=j:=by
 obtain⟨h1,l⟩:=zad.mp a;obtain⟨h2,h⟩:=zad.mp b;exact(List.getElem_inj e).mp (l.trans h.symm)
theorem Bp{M:Model}{Q:Unit->yah->Prop}(I:Inv X pins σ H s)(hN:X.N.Nodup)(hi:X.N[i]? =some x)(G:Loc X.env.scope x)(r:RelV v u)(h:∀s',Inv X pins (σ.set i (some v)) H s'->(∃a,Heap.SameBut a s.heap s'.heap/\(a=X.env.locals∨X.env.cells.lookup x=some a))->Q () s')(hf:X.fn x=true∨X.env.scope.names.lookup x=some .local:=by first|exact .inl rfl|exact .inr rfl|assumption):yar M A (storeName X.env x u) Q E s:=by
 obtain⟨m,hn,hl⟩:=id I.loc;have ac:(X.env.scope.kind== .class||(X.env.scope.kind== .module&&X.env.locals != X.env.globals))=false:=by rw[I.ok.kind];rfl
 have S:i<σ.length:=by rw[I.len];exact(zad.mp hi).1
 have N3:=I.N3;have t:∀{a:Addr}{Z:Heap},(∃o,s.heap.get? a=some o/\H a=none)->Heap.SameBut a s.heap Z->jt X.prog X.w H Z:=λ{a Z} ha l b ob e=>by
  obtain⟨_,_,L⟩:=ha;refine(I.hok b ob e).stay (λc w' F q=>(l.2 c ?_).trans q) (λ_ q=>q) λ_ _ q=>q;rintro rfl;rcases F with rfl|F
  ·rw[L] at e;cases e
  ·rw[L] at F;cases F
 rcases G with P|P
 ·refine wpAny_storeName_local P hn (λZ hn' l=>?_) ac;obtain⟨oL,_,_,hoL,_⟩:=id hn;refine h _ ⟨I.ok,I.os,I.bare,⟨λb o e n Y G=>?_,λb o e n Y G=>?_,I.base.free,λb o e G=>?_,I.base.tups,I.base.p9,I.base.rJ⟩,⟨_,hn',λj y v' C O e3=>?_⟩,λy c e=>?_,I.free,I.gU,λp hp=>?_,t ⟨oL,hoL,I.free⟩ l,by simpa using I.len⟩ ⟨_,l,.inl rfl⟩
  ·exact(l.2 b (zcv (zaR (zcF e) I.ok.above))).trans (I.base.keep b o e n Y G)
  ·obtain⟨sl,C⟩:=I.base.slot b o e n Y G;exact⟨sl,(l.2 b (zcv (zaR (zcF e) I.ok.above))).trans C⟩
  ·obtain⟨o',C⟩:=I.base.there b o e G;exact⟨o',(l.2 b (zcv (zaR (zcF e) I.ok.above))).trans C⟩
  ·by_cases U:j=i
   ·subst U;rw[hi] at C;cases C;rw[List.getElem?_set_self S] at O;cases O;exact⟨u,r,.inl ⟨P,by simp⟩⟩
   ·rw[zaA (Ne.symm U)] at O;obtain⟨u',r',q⟩:=hl j y v' C O e3;refine⟨u',r',?_⟩;rcases q with⟨k,e⟩|⟨k,c,e,z⟩
    ·refine .inl ⟨k,?_⟩;have:y≠x:=λe=>U (uM hN C (e▸hi));simp[this,e]
    ·exact .inr ⟨k,c,e,z.sameBut l (N3 y c e)⟩
  ·obtain⟨w',z⟩:=I.cell y c e;exact⟨w',z.sameBut l (N3 y c e)⟩
  ·obtain⟨e,n,ne,nf,d⟩:=I.pin p hp;exact⟨(l.2 p.1 ne).trans e,n,ne,nf,d⟩
 ·have W:X.fn x=true:=by
   rcases hf with z|z
   ·exact z
   ·rw[z] at P;cases P
  obtain⟨c,F⟩:=I.ok.has x (.inl P);obtain⟨w',z⟩:=I.cell x c F;refine wpAny_storeName_cell I.ok.kind P F z (λZ hc' l=>?_);obtain⟨oc,hoc,ab⟩:=id z;refine h {s with heap:=Z} ⟨I.ok,I.os,I.bare,⟨λb o e n Y G=>?_,λb o e n Y G=>?_,I.base.free,λb o e G=>?_,I.base.tups,I.base.p9,I.base.rJ⟩,⟨m,hn.sameBut l (Ne.symm (N3 x c F)),λj y v' C O e3=>?_⟩,λy c' e=>?_,I.free,I.gU,λp hp=>?_,t ⟨oc,hoc,I.gU x c F⟩ l,by simpa using I.len⟩ ⟨c,l,.inr F⟩
  ·exact(l.2 b (zcv (zaR (zcF e) (I.ok.QL x c W F)))).trans (I.base.keep b o e n Y G)
  ·obtain⟨sl,C⟩:=I.base.slot b o e n Y G;exact⟨sl,(l.2 b (zcv (zaR (zcF e) (I.ok.QL x c W F)))).trans C⟩
  ·obtain⟨o',C⟩:=I.base.there b o e G;exact⟨o',(l.2 b (zcv (zaR (zcF e) (I.ok.QL x c W F)))).trans C⟩
  ·by_cases U:j=i
   ·subst U;rw[hi] at C;cases C;rw[List.getElem?_set_self S] at O;cases O;exact⟨u,r,.inr ⟨.inl P,c,F,hc'⟩⟩
   ·rw[zaA (Ne.symm U)] at O;obtain⟨u',r',q⟩:=hl j y v' C O e3;refine⟨u',r',?_⟩;rcases q with q|⟨k,c',e,z'⟩
    ·exact .inl q
    ·refine .inr ⟨k,c',e,z'.sameBut l ?_⟩;rintro rfl;exact U (uM hN C (I.ok.inj _ _ _ e F▸hi))
  ·by_cases hcc:c'=c
   ·subst hcc;exact⟨_,hc'⟩
   ·obtain⟨w2,z2⟩:=I.cell y c' e;exact⟨w2,z2.sameBut l hcc⟩
  ·obtain⟨e,n,ne,nf,d⟩:=I.pin p hp;refine⟨(l.2 p.1 ?_).trans e,n,ne,nf,d⟩;intro q;rw[q,hoc] at e;have q':oc=p.2:=zcL.inj e;exact d w' (by rw[<-q'];exact ab)
theorem jQ{M:Model}{Q:Unit->yah->Prop}(I:Inv X pins σ H s)(j:X.N.Nodup)(hi:X.N[i]? =some x)(a:Loc X.env.scope x)(r:RelV v u)(h:∀s',Inv X pins (σ.set i (some v)) H s'->Q () s')(e:X.fn x=true∨X.env.scope.names.lookup x=some .local:=by first|exact .inl rfl|exact .inr rfl|assumption):yar M A (storeName X.env x u) Q E s:=
 Bp I j hi a r (λs' l _=>h s' l) e
theorem Inv.QK{s':yah}(I:Inv X pins σ H s)(i:s'.os=s.os)(u:Un (frs X.stack) ch H H' s.heap s'.heap)(hok:jt X.prog X.w H' s'.heap)(j:AllBare s'.gens)(a:∀b∈ch,(b∈X.ex∨X.s₀.heap.objs.size<=b)/\b≠X.env.locals/\(∀x c,X.env.cells.lookup x=some c->c≠b)/\∀p∈X.pn++pins,p.1≠b):Inv X pins σ H' s':=by
 obtain⟨l,g',d',t',h⟩:=s';have e:h=s.os:=i;subst e;exact I.call (g':=g') (t':=t') (d':=d') u hok j a
abbrev XK:=yai->Option Addr->Hp->Prop
abbrev St:=List (Option V)
abbrev VK:=V->Hp->Prop
abbrev TE:=St->Hp->VK->Prop
abbrev TT:=St->Hp->(Bool->Hp->Prop)->Prop
abbrev TA:=St->Hp->(List V->Hp->Prop)->Prop
structure Ends where
 nx:St->Hp->Prop
 rt:VK
 bk:St->Hp->Prop:=λ_ _=>False
 ct:St->Hp->Prop:=λ_ _=>False
abbrev TS:=Ends->St->Hp->Prop
def EP(X:Cx)(a:List (Addr×Obj))(h:St)(Q:VK)(u:yai)(s':yah):Prop:=∃v e,Inv X a h e s'/\RelV v u/\Q v e
def TP(X:Cx)(a:List (Addr×Obj))(h:St)(Q:Bool->Hp->Prop)(b:Bool)(s':yah):Prop:=∃e,Inv X a h e s'/\Q b e
def AP(X:Cx)(a:List (Addr×Obj))(h:St)(Q:List V->Hp->Prop)(us:List yai)(s':yah):Prop:=∃vs e,Inv X a h e s'/\Vals vs us/\Q vs e
def SP(X:Cx)(e:List (Addr×Obj))(D:Ends)(f:Flow)(s':yah):Prop:=
 match f with
 |.next=>∃a h,Inv X e a h s'/\D.nx a h
 |.brk=>∃a h,Inv X e a h s'/\D.bk a h
 |.cont=>∃a h,Inv X e a h s'/\D.ct a h
 |.ret u=>∃v a h,Inv X e a h s'/\RelV v u/\D.rt v h
def PE(X:Cx)(e:Expr)(t:TE):Prop:=
 ∀(a:List (Addr×Obj))(s:yah)(h:St)(H:Hp)(Q:VK),Inv X a h H s->t h H Q->yar (model X.prog X.w) X.A (eval e X.env) (EP X a h Q) X.xe s
def PT(X:Cx)(e:Expr)(t:TT):Prop:=
 ∀(a:List (Addr×Obj))(s:yah)(h:St)(H:Hp)(Q:Bool->Hp->Prop),Inv X a h H s->t h H Q->yar (model X.prog X.w) X.A (isTrue e X.env (eval e X.env)) (TP X a h Q) X.xe s
def PW(X:Cx)(e:Expr)(t:TT):Prop:=
 ∀(h:Sem yai)(a:List (Addr×Obj))(s:yah)(i:St)(H:Hp)(Q:Bool->Hp->Prop),Inv X a i H s->t i H Q->yar (model X.prog X.w) X.A (isTrue e X.env h) (TP X a i Q) X.xe s
theorem PW.pt{t:TT}(h:PW X e t):PT X e t:=h _
def PA(X:Cx)(es:List Expr)(t:TA):Prop:=
 ∀(h:Pos)(a:List (Addr×Obj))(s:yah)(e:St)(H:Hp)(Q:List V->Hp->Prop),Inv X a e H s->t e H Q->yar (model X.prog X.w) X.A (spliced (yau h (yao es X.env))) (AP X a e Q) X.xe s
def PS(X:Cx)(st:Stmt)(t:TS):Prop:=
 ∀(a:List (Addr×Obj))(s:yah)(e:St)(H:Hp)(D:Ends),Inv X a e H s->t D e H->yar (model X.prog X.w) X.A (exec st X.env) (SP X a D) X.xe s
def vX(X:Cx)(st:List Stmt)(t:TS):Prop:=
 ∀(a:List (Addr×Obj))(s:yah)(e:St)(H:Hp)(D:Ends),Inv X a e H s->t D e H->yar (model X.prog X.w) X.A (execs st X.env) (SP X a D) X.xe s
theorem bQ{α:Type}{t:Sem α}{Q Q':α->yah->Prop}{M:Model}(h:yar M A t Q E s)(e:∀a s,Q a s->Q' a s):yar M A t Q' E s:=yac h e λ_ _ x=>x
section
def OP(i:Nat):TE:=λa H Q=>∃v,a[i]? =some (some v)/\Q v H
def tC(v:V):TE:=λ_ H Q=>Q v H
theorem Mz(L:X.N[i]? =some x)(C:Rr X.env.scope x)(hd:(x==("__debug__":Str))=false:=by decide)(q:(x==("__classdict__":Str))=false:=by decide):PE X (.Name x pos) (OP i):=by
 intro o s y H Q I h;obtain⟨v,e,h⟩:=h;obtain⟨m,E,G⟩:=I.loc;obtain⟨u,r,l⟩:=G i x v L e C;have n:EP X o y Q u s:=⟨v,H,I,r,h⟩
 rcases l with⟨j,F⟩|⟨j,c,t,a⟩
 ·exact wpAny_Name (wpAny_loadName_local I.ok.kind j E F n) hd
 ·rcases j with j|j
  ·exact wpAny_Name (wpAny_loadName_cell I.ok.kind j t a n) hd
  ·exact wpAny_Name (wpAny_loadName_free I.ok.kind j t a n q) hd
theorem aj{i j pos}:PE X (.Constant (.int i) j pos) (tC (.int i)):=λ_ _ _ H _ I h=>wpAny_Constant_int ⟨.int i,H,I.tok _,⟨_,rfl⟩,h⟩
theorem cF{b j pos}:PE X (.Constant (.bool b) j pos) (tC (.bl b)):=λ_ _ _ H _ I h=>Constant_bool ⟨.bl b,H,I,rfl,h⟩
theorem aE{x j pos}:PE X (.Constant (.str x) j pos) (tC (.str x)):=λ_ _ _ H _ I h=>Calls.Constant_str ⟨.str x,H,I.tok _,⟨_,rfl⟩,h⟩
def Gl(X:Cx)(x:Str):Prop:=X.env.kindOf x=some .globalImplicit
theorem nv{a:St}(I:Inv X pins a H s)(i:Gl X x)(e:X.mg x=some u)(h:Q u s)(hd:(x==("__debug__":Str))=false:=by decide):yar (model X.prog X.w) X.A (eval (.Name x pos) X.env) Q E s:=
 Calls.Name_function_global I.ok.kind i (Calls.loadGlobal_global (by rw[I.ok.glob];exact I.mod.glob.keeps I.bk) e h) hd
theorem cH{a:St}(I:Inv X pins a H s)(l:Gl X x)(j:X.mg x=none)(e:bootBuiltins x=some u)(h:Q u s)(i:x≠"__name__":=by decide)(hd:(x==("__debug__":Str))=false:=by decide):yar (model X.prog X.w) X.A (eval (.Name x pos) X.env) Q E s:=by
 obtain⟨mb,h1,h2⟩:=I.mod.blt;exact Calls.Name_function_global I.ok.kind l (Calls.loadGlobal_builtin (by rw[I.ok.glob];exact I.mod.glob.keeps I.bk) j (by rw[I.ok.blt];exact h1.keeps I.bk) ((h2 x i).trans e) h) hd
theorem j7(e:Gl X x)(a:X.mg x=some u)(r:RelV v u)(hd:(x==("__debug__":Str))=false:=by decide):PE X (.Name x pos) (tC v):=
 λ_ _ _ H _ I h=>nv I e a ⟨v,H,I,r,h⟩ hd
theorem Iu(j:Gl X x)(i:X.mg x=none)(a:bootBuiltins x=some u)(r:RelV v u)(e:x≠"__name__":=by decide)(hd:(x==("__debug__":Str))=false:=by decide):PE X (.Name x pos) (tC v):=
 λ_ _ _ H _ I h=>cH I j i a ⟨v,H,I,r,h⟩ e hd
variable {a b:Expr}{ta tb:TE}
def tB(t:TE):TT:=λe H Q=>t e H λx h=>∃c,x=.bl c/\Q c h
variable {tA tB':TT}{rest:List Expr}
def O2(t u:TT):TT:=λe H Q=>t e H λc h=>if c=true then u e h Q else Q false h
def SO(t u:TT):TT:=λe H Q=>t e H λc h=>if c=true then Q true h else u e h Q
def OV(t:TT):TT:=λe H Q=>t e H λc h=>Q (!c) h
theorem pw_and1(l:PT X a tA):PW X (.BoolOp .And [a] pos) tA:=by
 intro m i s j H Q I h;refine isTrue_and (bQ (l i s j H Q I h) λc n e=>?_);cases c with
 |true=>exact isTrue_and_nil e
 |false=>exact e
theorem pw_or1(l:PT X a tA):PW X (.BoolOp .Or [a] pos) tA:=by
 intro m i s j H Q I h;refine isTrue_or (bQ (l i s j H Q I h) λc n e=>?_);cases c with
 |false=>exact isTrue_or_nil e
 |true=>exact e
theorem pw_and(u:PT X a tA)(t:PW X (.BoolOp .And (b::rest) pos) tB'):PW X (.BoolOp .And (a::b::rest) pos) (O2 tA tB'):=by
 intro o e s j H Q I h;refine isTrue_and (bQ (u e s j H _ I h) λc q i=>?_);obtain⟨n,m,l⟩:=i;cases c with
 |true=>exact t o e q j n Q m l
 |false=>exact⟨n,m,l⟩
theorem pw_or(u:PT X a tA)(t:PW X (.BoolOp .Or (b::rest) pos) tB'):PW X (.BoolOp .Or (a::b::rest) pos) (SO tA tB'):=by
 intro o e s j H Q I h;refine isTrue_or (bQ (u e s j H _ I h) λc q i=>?_);obtain⟨n,m,l⟩:=i;cases c with
 |true=>exact⟨n,m,l⟩
 |false=>exact t o e q j n Q m l
theorem cU(j:PT X a tA):PT X (.UnaryOp .Not a pos) (OV tA):=by
 intro e s i H Q I h;exact isTrue_not (j e s i H (λc l=>Q (!c) l) I h)
def Kp(ta tb:TE):TE:=λe H Q=>ta e H λx h=>∃c,x=.bl c/\if c=true then tb e h Q else Q (.bl false) h
def OT(ta tb:TE):TE:=λe H Q=>ta e H λx h=>∃c,x=.bl c/\if c=true then Q (.bl true) h else tb e h Q
def Kf(ta:TE):TE:=λe H Q=>ta e H λx h=>∃c,x=.bl c/\Q (.bl (!c)) h
theorem jG{op}{t:TE}(h:PE X a t):PE X (.BoolOp op [a] pos) t:=λe s i H Q I hw=>BoolOp_one (h e s i H Q I hw)
theorem gC(u:PE X a ta)(t:PE X (.BoolOp .And (b::rest) pos) tb):PE X (.BoolOp .And (a::b::rest) pos) (Kp ta tb):=by
 intro e s l H Q I h;refine BoolOp_and (bQ (u e s l H _ I h) λv o j=>?_);obtain⟨x,n,m,q,i⟩:=j;obtain⟨c,rfl,i⟩:=i;cases q;refine wpAny_truthy_bool ?_;cases c with
 |true=>exact t e o l n Q m i
 |false=>exact⟨.bl false,n,m,rfl,i⟩
theorem EH(u:PE X a ta)(t:PE X (.BoolOp .Or (b::rest) pos) tb):PE X (.BoolOp .Or (a::b::rest) pos) (OT ta tb):=by
 intro e s l H Q I h;refine BoolOp_or (bQ (u e s l H _ I h) λv o j=>?_);obtain⟨x,n,m,q,i⟩:=j;obtain⟨c,rfl,i⟩:=i;cases q;refine wpAny_truthy_bool ?_;cases c with
 |false=>exact t e o l n Q m i
 |true=>exact⟨.bl true,n,m,rfl,i⟩
theorem xS(n:PE X a ta):PE X (.UnaryOp .Not a pos) (Kf ta):=by
 intro e s l H Q I h;refine UnaryOp_ (bQ (n e s l H _ I h) λv t i=>?_);obtain⟨x,q,o,m,j⟩:=i;obtain⟨c,rfl,j⟩:=j;cases m;exact not_of (wpAny_truthy_bool ⟨.bl (!c),q,o,rfl,j⟩)
def SQ(t:TT)(ta tb:TE):TE:=λe H Q=>t e H λc h=>if c=true then ta e h Q else tb e h Q
theorem oB(q:PT X c tA)(u:PE X a ta)(t:PE X b tb):PE X (.IfExp c a b pos) (SQ tA ta tb):=by
 intro e s i H Q I h;refine wpAny_IfExp (bQ (q e s i H _ I h) λd l j=>?_);obtain⟨o,n,m⟩:=j;cases d with
 |true=>exact u e l i o Q n m
 |false=>exact t e l i o Q n m
end
def cN(K:yaI)(H:Hp)(a:Addr)(h:List V):Prop:=
 Rd H a (.lst h)∨
  ∃(o:Obj)(e:Array yai)(n:Nat),K.lookup a=some o/\o.cls=.type "list"/\o.dict=none/\o.data=.seq e n/\e.size<=yag/\Vals h e.toList
def dJ(K:yaI)(H:Hp)(a:Addr)(h:List V):Prop:=
 Rd H a (.tup h)∨
  ∃(o:Obj)(e:Array yai)(n:Nat),K.lookup a=some o/\o.cls=.type "tuple"/\o.data=.seq e n/\e.size<=yag/\Vals h e.toList
noncomputable def Su:yai->Option V
 |.none=>some .bB
 |.bool b=>some (.bl b)
 |.int i _=>some (.int i)
 |.str x _=>some (.str x)
 |.bytes b _=>some (.wH b)
 |.float b _=>some (.Ny b)
 |.ref a=>some (.ref a)
 |.type n=>some (.ty n)
 |_=>none
theorem RelV.abs{x:V}(r:RelV x u):Su u=some x:=by
 cases x with
 |bB=>cases r;rfl
 |bl _=>cases r;rfl
 |int _=>obtain⟨t,rfl⟩:=r;rfl
 |str _=>obtain⟨t,rfl⟩:=r;rfl
 |wH _=>obtain⟨t,rfl⟩:=r;rfl
 |Ny _=>obtain⟨t,rfl⟩:=r;rfl
 |ref _=>cases r;rfl
 |ty _=>cases r;rfl
theorem RelV.inj{x:V}(r:RelV x u)(q:RelV y u):x=y:=zcL.inj (r.abs.symm.trans q.abs)
theorem Vals.inj:∀{a ys:List V}{us:List yai},Vals a us->Vals ys us->a=ys:=by
 intro a ys us h
 induction h generalizing ys with
 |nil=>intro g;cases g;rfl
 |cons r t ih=>
  intro g;cases g with
  |cons r' t'=>rw[r.inj r',ih t']
section
variable {σ:St}{ys:List V}
theorem cN.of(h:H a=some (.lst xs)):cN K H a xs:=.inl (.inl h)
theorem dJ.of(h:H a=some (.tup xs)):dJ K H a xs:=.inl (.inl h)
theorem Inv.list(I:Inv X pins σ H s)(h:cN X.K H a xs):∃its:List yai,Vals xs its/\PlainL s.heap a its.toArray/\xs.length<=yag:=by
 rcases h with h|⟨o,its,n,j,l,hd,i,hz,r⟩
 ·obtain⟨z,its,n,r,e⟩:=h.ok I.hok;exact⟨its,r,⟨_,n,e,rfl,rfl,rfl⟩,z⟩
 ·refine⟨its.toList,r,⟨o,n,I.mH a o j,l,hd,by simpa using i⟩,?_⟩;have e:=r.length;simp only[zaJ] at e;lia
theorem Inv.tuple(I:Inv X pins σ H s)(h:dJ X.K H a xs):∃its:List yai,Vals xs its/\IsTup s.heap a its.toArray/\xs.length<=yag:=by
 rcases h with h|⟨o,its,n,j,l,i,hz,r⟩
 ·obtain⟨z,its,r,p⟩:=h.ok I.hok;exact⟨its,r,p,z⟩
 ·refine⟨its.toList,r,⟨o,I.mH a o j,l,n,by simpa using i⟩,?_⟩;have e:=r.length;simp only[zaJ] at e;lia
theorem Inv.uY(I:Inv X pins σ H s)(h:cN X.K H a xs)(h':cN X.K H a ys):xs=ys:=by
 obtain⟨j,r,⟨o,n,e,_,_,d⟩,_⟩:=I.list h;obtain⟨i,q,⟨t,u,l,_,_,m⟩,_⟩:=I.list h';rw[e] at l;cases l;rw[d] at m;injection m with d1 _;have:j=i:=by simpa using congrArg Array.toList d1
 subst this;exact r.inj q
theorem Inv.Bm(I:Inv X pins σ H s)(h:dJ X.K H a xs)(h':dJ X.K H a ys):xs=ys:=by
 obtain⟨j,r,⟨o,e,_,n,d⟩,_⟩:=I.tuple h;obtain⟨i,q,⟨t,l,_,u,m⟩,_⟩:=I.tuple h';rw[e] at l;cases l;rw[d] at m;injection m with d1 _;have:j=i:=by simpa using congrArg Array.toList d1
 subst this;exact r.inj q
end
noncomputable abbrev Cx.pX(X:Cx)(E:yai->yah->Prop):Cx:={X with xe:=E}
noncomputable abbrev Cx.G8(X:Cx):Cx:=X.pX λ_ _=>False
theorem Cx.Ok.pX(ok:X.Ok)(E:yai->yah->Prop):(X.pX E).Ok:=
 ⟨ok.mod,ok.kind,ok.glob,ok.blt,ok.above,ok.inj,ok.has,ok.QL,ok.hd,ok.frames,ok.stk,ok.Sj,ok.bs,ok.JP,ok.ET,ok.Jq,ok.m6,ok.Nx⟩
theorem Cx.Ok.iu(ok:(X.pX E).Ok):X.Ok:=
 ⟨ok.mod,ok.kind,ok.glob,ok.blt,ok.above,ok.inj,ok.has,ok.QL,ok.hd,ok.frames,ok.stk,ok.Sj,ok.bs,ok.JP,ok.ET,ok.Jq,ok.m6,ok.Nx⟩
section
variable {σ:St}
theorem Inv.pX(I:Inv X pins σ H s)(E:yai->yah->Prop):Inv (X.pX E) pins σ H s:=⟨I.ok.pX E,I.os,I.bare,I.base,I.loc,I.cell,I.free,I.gU,I.pin,I.hok,I.len⟩
theorem Inv.iu(I:Inv (X.pX E) pins σ H s):Inv X pins σ H s:=⟨I.ok.iu,I.os,I.bare,I.base,I.loc,I.cell,I.free,I.gU,I.pin,I.hok,I.len⟩
theorem SP.iu{D:Ends}{f:Flow}{s':yah}(h:SP (X.pX E) pins D f s'):SP X pins D f s':=by
 cases f with
 |next=>obtain⟨a,e,I,q⟩:=h;exact⟨a,e,I.iu,q⟩
 |brk=>obtain⟨a,e,I,q⟩:=h;exact⟨a,e,I.iu,q⟩
 |cont=>obtain⟨a,e,I,q⟩:=h;exact⟨a,e,I.iu,q⟩
 |ret u=>obtain⟨v,a,e,I,r,q⟩:=h;exact⟨v,a,e,I.iu,r,q⟩
theorem vX.G8{st:List Stmt}{t:TS}(h:vX X.G8 st t):vX X st t:=λa s σ H D I hw=>
 yac (h a s σ H D (I.pX _) hw) (λ_ _ q=>q.iu) λ_ _ z=>False.elim z
end
section
variable {rest:List Stmt}{t u:TS}{te:TE}
def Kg:TS:=λD a H=>D.nx a H
def OR(t u:TS):TS:=λD a H=>t {D with nx:=u D} a H
theorem aJ:vX X [] Kg:=λ_ _ a H _ I h=>yaF ⟨a,H,I,h⟩
theorem aa(h1:PS X st t)(h2:vX X rest u):vX X (st::rest) (OR t u):=by
 intro a s i H D I h;refine yaG (bQ (h1 a s i H {D with nx:=u D} I h) λf j q=>?_);cases f with
 |next=>
  obtain⟨e,m,l,q⟩:=q;exact h2 a j e m D l q
 |ret v=>exact q
 |brk=>exact q
 |cont=>exact q
theorem af(h1:PS X st t):vX X [st] t:=by
 intro a s e H D I h;refine yaG (bQ (h1 a s e H D I h) λf i q=>?_);cases f with
 |next=>exact yaF q
 |ret v=>exact q
 |brk=>exact q
 |cont=>exact q
theorem Inv.quiet{a:St}(I:Inv X pins a H s):interactive X.env=false:=by simp[interactive,I.ok.kind]
def Km(te:TE):TS:=λD a H=>te a H λ_ e=>D.nx a e
theorem bI(n:PE X e te)(m:yat e none pos.line X.env=pure false:=by rfl):PS X (.Expr e pos) (Km te):=by
 intro a s j H D I h;refine wpAny_Expr_any (bQ (n a s j H _ I h) λv y i=>?_) I.quiet m;obtain⟨x,q,o,C,l⟩:=i;exact⟨j,q,o,l⟩
def OS(te:TE):TS:=λD a H=>te a H D.rt
theorem az(n:PE X e te):PS X (.Return (some e) pos) (OS te):=by
 intro a s j H D I h;refine wpAny_Return_some (bQ (n a s j H _ I h) λv y i=>?_);obtain⟨x,q,o,l,m⟩:=i;exact⟨x,j,q,o,l,m⟩
def OY(c:TT)(t u:TS):TS:=λD a H=>c a H λb e=>if b=true then t D a e else u D a e
theorem aT{a b:List Stmt}{l:TT}(v:PT X c l)(y:vX X a t)(x:vX X b u):PS X (.If c a b pos) (OY l t u):=by
 intro e s i H D I h;refine wpAny_If (bQ (v e s i H _ I h) λd m j=>?_);obtain⟨q,o,n⟩:=j;cases d with
 |true=>exact y e m i q D o n
 |false=>exact x e m i q D o n
def Ls:TS:=λ_ _ _=>False
theorem eT:PS X st Ls:=λ_ _ _ _ _ _ h=>h.elim
end
abbrev TG:=V->St->Hp->(St->Hp->Prop)->Prop
abbrev J1:=List V->St->Hp->(St->Hp->Prop)->Prop
def PG(X:Cx)(a:Expr)(t:TG):Prop:=
 ∀(e:List (Addr×Obj))(s:yah)(i:St)(H:Hp)(v:V)(u:yai)(Q:St->Hp->Prop),Inv X e i H s->RelV v u->t v i H Q->
  yar (model X.prog X.w) X.A (assign a X.env u) (λ_ l=>∃h j,Inv X e h j l/\Q h j) X.xe s
def Ow(X:Cx)(ts:List Expr)(t:J1):Prop:=
 ∀(a:List (Addr×Obj))(s:yah)(h:St)(H:Hp)(vs:List V)(i:List yai)(Q:St->Hp->Prop),Inv X a h H s->Vals vs i->t vs h H Q->
  yar (model X.prog X.w) X.A (assignInOrder ((assignEach ts X.env).map (·.2)) i) (λ_ l=>∃e j,Inv X a e j l/\Q e j) X.xe s
abbrev Om:=V->V->V->Hp->(Hp->Prop)->Prop
def QZ(X:Cx)(t:Om):Prop:=
 ∀(a:List (Addr×Obj))(s:yah)(e:St)(H:Hp)(o i v:V)(h j u:yai)(Q:Hp->Prop),Inv X a e H s->RelV o h->RelV i j->RelV v u->t o i v H Q->
  yar (model X.prog X.w) X.A (setItem h j u) (λ_ m=>∃l,Inv X a e l m/\Q l) X.xe s
abbrev Rt:=V->V->Hp->VK->Prop
def S9(X:Cx)(op:Operator)(t:Rt):Prop:=
 ∀(a:List (Addr×Obj))(s:yah)(e:St)(H:Hp)(x y:V)(v u:yai)(Q:VK),Inv X a e H s->RelV x v->RelV y u->t x y H Q->
  yar (model X.prog X.w) X.A (inplaceOp op v u) (EP X a e Q) X.xe s
def Ae(i:Nat):TG:=λv a H Q=>Q (a.set i (some v)) H
theorem cZ(l:X.N.Nodup)(hi:X.N[i]? =some x)(e:Loc X.env.scope x)(j:X.fn x=true∨X.env.scope.names.lookup x=some .local:=by first|exact .inl rfl|exact .inr rfl|assumption):PG X (.Name x pos) (Ae i):=by
 intro a s n H v u Q I r h;exact wpAny_assign_Name (jQ I l hi e r (λo m=>⟨_,H,m,h⟩) j)
def Qs:J1:=λvs a H Q=>vs=[]/\Q a H
def K1(t:TG)(u:J1):J1:=λvs e H Q=>∃v r,vs=v::r/\t v e H λa h=>u r a h Q
theorem bY:Ow X [] Qs:=by
 intro a s i H vs j Q I r h;obtain⟨e,h⟩:=h;subst e;cases r;exact assignInOrder_nil ⟨i,H,I,h⟩
theorem aH{es:List Expr}{t:TG}{u:J1}(h1:PG X e t)(h2:Ow X es u)(n:(assignEach (e::es) X.env).map (·.2)=assign e X.env::(assignEach es X.env).map (·.2):=by rfl):Ow X (e::es) (K1 t u):=by
 intro a s j H vs C Q I r h;obtain⟨v,y,o,h⟩:=h;subst o;cases r with
 |cons r rr=>
  rw[n];refine assignInOrder_cons (bQ (h1 a s j H _ _ _ I r h) λ_ l ⟨i,x,q,m⟩=>?_);exact h2 a l i x _ _ Q q rr m
def Qp(K:yaI)(n:Nat)(t:J1):TG:=λv h H Q=>∃a e,v=.ref a/\dJ K H a e/\e.length=n/\t e h H Q
theorem cV{es:List Expr}{k:Nat}{t:J1}(L:X.calm=true)(h:Ow X es t)(F:(assignEach es X.env).length=n:=by rfl)(j:(assignEach es X.env).findIdx? (·.1)=none:=by rfl):PG X (.Tuple es k pos) (Qp X.K n t):=by
 intro i s l H v u Q I r hw;obtain⟨a,q,P,E,G,hw⟩:=hw;subst P;cases r;obtain⟨x,m,C,hz⟩:=I.tuple E;refine assign_Tuple_tuple (I.ok.hd L) C (by simp[F,<-G,m.length]) j λO y=>?_;have S:Inv X i l H {s with heap:=O}:=I.kept (t':=s.toks) λb o e=>y b o (zcv (zcF e)) e;exact h i _ l H q _ Q S (by simpa using m) hw
def Qq(to ti:TE)(t:Om):TG:=λv a H Q=>to a H λo j=>ti a j λi h=>t o i v h λe=>Q a e
theorem My{o i:Expr}{to ti:TE}{t:Om}(L:PE X o to)(hi:PE X i ti)(G:QZ X t)(O:∀v,assign (.Subscript o i pos) X.env v=(do
   let j <-holding [v] (eval o X.env);let l <-holding [v,j] (eval i X.env)
   standAt pos
   holding [v,j,l] (setItem j l v)
   release [v,j,l] []):=by intro _;rfl):PG X (.Subscript o i pos) (Qq to ti t):=by
 intro e s m H v u Q I r h;rw[O];refine yaa (yad (bQ (L e s m H _ I h) λj q a=>?_));obtain⟨x,Z,U,E,F⟩:=a;refine yaa (yad (bQ (hi e q m Z _ U F) λl n a=>?_));obtain⟨y,Y,S,C,q2⟩:=a;refine yaa (yay (yaa (yad (bQ (G e n m Y x y v j l u _ S E C r q2) λ_ s3 a=>?_))));obtain⟨W,P,q3⟩:=a;exact wpAny_release ⟨m,W,P,q3⟩
def De(e:TE)(g:TG):TS:=λD a H=>e a H λx h=>g x a h D.nx
theorem lG{l:TE}{g:TG}(y:PE X e l)(u:PG X tg g)(t:swapsWithSole [tg] e pos.line X.env=pure false:=by rfl)(hw:swappedStores [tg] e X.env=pure none:=by rfl)(h1:(assignEach [tg] X.env).map (·.2)=[assign tg X.env]:=by rfl):PS X (.Assign [tg] e pos) (De l g):=by
 intro a s j H D I h;refine wpAny_Assign_stores (bQ (y a s j H _ I h) λv m i=>?_) t hw;obtain⟨x,E,C,n,o⟩:=i;rw[h1];exact bQ (u a m j E x v _ C n o) λ_ F q=>q
theorem xR{l:TE}(E:X.N.Nodup)(hi:X.N[i]? =some x)(q:Loc X.env.scope x)(C:PE X e l)(t:yat e (some (.Name x pos')) pos.line X.env=pure false:=by rfl)(u:X.fn x=true∨X.env.scope.names.lookup x=some .local:=by first|exact .inl rfl|exact .inr rfl|assumption):
  PS X (.Assign [.Name x pos'] e pos) (De l (Ae i)):=by
 intro a s m H D I h;refine wpAny_Assign_Name (bQ (C a s m H _ I h) λv P j=>?_) t;obtain⟨y,L,G,n,o⟩:=j;exact jQ G E hi q n (λO F=>⟨_,L,F,o⟩) u
def RC(i:Nat)(e:TE)(ti:Rt):TS:=λD a H=>∃x,a[i]? =some (some x)/\e a H λy j=>ti x y j λz h=>D.nx (a.set i (some z)) h
theorem Mx{G:TE}{op:Operator}{ti:Rt}(hN:X.N.Nodup)(hi:X.N[i]? =some x)(E:Loc X.env.scope x)(he:PE X e G)(S:S9 X op ti)(Z:X.fn x=true∨X.env.scope.names.lookup x=some .local:=by first|exact .inl rfl|exact .inr rfl|assumption):
  PS X (.AugAssign (.Name x pos') op e pos) (RC i G ti):=by
 intro a s F H D I h;obtain⟨v,e1,h⟩:=h;obtain⟨m,U,Y⟩:=I.loc;have C:Rr X.env.scope x:=by rcases E with k|k;exact .inl k;exact .inr (.inl k)
 obtain⟨u,r,l⟩:=Y i x v hi e1 C;refine wpAny_AugAssign_Name ?_;have go:yar (model X.prog X.w) X.A (eval e X.env) (λw t=>yar (model X.prog X.w) X.A (inplaceOp op u w) (λr q=>yar (model X.prog X.w) X.A (storeName X.env x r) (λ_=>SP X a D .next) X.xe q) X.xe t) X.xe s:=by
  refine bQ (he a s F H _ I h) λw L n=>?_;obtain⟨y,H1,I1,P,Q⟩:=n;refine bQ (S a L F H1 v y u w _ I1 r P Q) λz s2 n=>?_;obtain⟨zv,H2,I2,O,q2⟩:=n;exact jQ I2 hN hi E O (λs3 I3=>⟨_,H2,I3,q2⟩) Z
 rcases l with⟨j,W⟩|⟨j,c,hc,o⟩
 ·exact wpAny_loadName_local I.ok.kind j U W go
 ·rcases j with j|j
  ·exact wpAny_loadName_cell I.ok.kind j hc o go
  ·rcases E with k|k
   ·have:X.env.scope.names.lookup x=some .free:=j;rw[k] at this;cases this
   ·have:X.env.scope.names.lookup x=some .free:=j;rw[k] at this;cases this
def ipI(f:Int->Int->Int):Rt:=λx y H Q=>∃i j,x=.int i/\y=.int j/\Q (.int (f i j)) H
theorem Nq:S9 X .Add (ipI λi j=>i+j):=by
 intro a s o H x y v u Q I l e h;obtain⟨i,j,n,m,q⟩:=h;subst n;subst m;obtain⟨t,rfl⟩:=l;obtain⟨C,rfl⟩:=e;exact iadd_int ⟨.int _,H,I.tok _,⟨_,rfl⟩,q⟩
def C6(c:TT)(l:TS):TS:=λD a H=>∃W:Nat->St->Hp->Prop,(∃m,W m a H)/\∀m a H,W m a H->
 c a H λb i=>if b=true then∃N:St->Hp->Prop,(∀e j,N e j->∃h,h<m/\W h e j)/\l {D with nx:=N,ct:=N,bk:=D.nx} a i else D.nx a i
theorem fR{y:TT}{C:TS}(E:PassesOwn (model X.prog X.w) X.A X.env X.xe)(hc:PT X c y)(hb:vX X body C):PS X (.While c body [] pos) (C6 y C):=by
 intro e s Q H D I h;obtain⟨W,⟨m0,U⟩,turn⟩:=h;refine wpAny_While (codeAny_whileLoop (λn s'=>∃j P,Inv X e j P s'/\W n j P) ?_ m0 ⟨Q,H,I,U⟩);rintro n Z ⟨i,O,I1,S⟩;refine wpAny_passesOwn E (bQ (hc e Z i O _ I1 (turn n i O S)) λb Y m=>?_);obtain⟨L,G,q2⟩:=m;cases b with
 |true=>
  obtain⟨N,F,q2⟩:=q2;rw[yIp rfl];refine wpAny_passesOwn E (bQ (hb e Y i L _ G q2) λf s3 q3=>?_);cases f with
  |next=>
   obtain⟨a,l,x,q⟩:=q3;obtain⟨t,u,o⟩:=F a l q;exact⟨t,u,a,l,x,o⟩
  |cont=>
   obtain⟨a,l,x,q⟩:=q3;obtain⟨t,u,o⟩:=F a l q;exact⟨t,u,a,l,x,o⟩
  |brk=>exact q3
  |ret v=>exact q3
 |false=>
  rw[yIn zaT];exact yaF ⟨i,L,G,q2⟩
structure It where
 go:Nat->Hp->Prop
 CV:Nat->Hp->V->Hp->Prop
 stop:Nat->Hp->Prop
def l8(X:Cx)(a:List (Addr×Obj))(H:Hp)(b:Addr):Prop:=
 H b=none/\b≠X.env.locals/\b ∉ X.fs/\(b∈X.ex∨X.s₀.heap.objs.size<=b)/\(∀x c,X.env.cells.lookup x=some c->c≠b)/\∀p∈X.pn++a,p.1≠b
theorem Inv.sV{h:St}{b:Addr}(I:Inv X pins h H s)(a:s.heap.objs.size<=b)(j:H' b=none):l8 X pins H' b:=by
 refine⟨j,zcy (zaR I.lt a),I.P8 a,.inr (zcw I.sz a),λx c e z=>?_,λp i z=>?_⟩
 ·obtain⟨v,q⟩:=I.cell x c e;exact absurd (zaR q.lt (by rw[z];exact a)) (zcl _)
 ·exact absurd (zaR (zcF (I.pin p i).1) (by rw[z];exact a)) (zcl _)
structure Turn(P:yaj)(w:yak)(K:yaI)(tg:Expr)(J:It)(fp:List Addr)(it:Addr)(tn:Nat->Heap->Prop):Prop where
 mem:it∈fp
 obj:∀i h,tn i h->∀b∈fp,∃o,h.get? b=some o/\∀v,o.data≠ .cell v
 keep:∀i h h',tn i h->(∀b∈fp,∀o,h.get? b=some o->h'.get? b=some o)->tn i h'
 item:∀(X:Cx),X.prog=P->X.w=w->X.K=K->X.calm=true->∀(i:Nat)(pins:List (Addr×Obj))(s:yah)(σ:St)(H:Hp)(E:yai->yah->Prop),Inv X pins σ H s->(∀b∈fp,l8 X pins H b)->tn i s.heap->J.go i H->
  yar (model P w) X.A (pyNext (.ref it)) (λr s1=>∃u,r=some u/\yar (model P w) X.A (letOwnedTupleGo tg (.ref it) u) (λ_ s2=>∃x H',Inv X pins σ H' s2/\RelV x u/\J.CV i H x H'/\tn (i+1) s2.heap/\∀b∈fp,H' b=none) E s1) E s
 done:∀(X:Cx),X.prog=P->X.w=w->X.K=K->X.calm=true->∀(i:Nat)(pins:List (Addr×Obj))(s:yah)(σ:St)(H:Hp)(E:yai->yah->Prop),Inv X pins σ H s->(∀b∈fp,l8 X pins H b)->tn i s.heap->J.stop i H->
  yar (model P w) X.A (pyNext (.ref it)) (λr s1=>r=none/\Inv X pins σ H s1) E s
 self:∀(A:yal)(i:Nat)(s:yah)(Q:yai->yah->Prop)(E:yai->yah->Prop),tn i s.heap->Q (.ref it) s->yar (model P w) A (pyIter (.ref it)) Q E s
abbrev TI:=St->Hp->(It->Hp->Prop)->Prop
def Tc(X:Cx)(a:List (Addr×Obj))(l:St)(m:Expr)(R:It->Hp->Prop)(e:yai)(i:yah):Prop:=
 ∃(it:Addr)(j:List Addr)(tn:Nat->Heap->Prop)(J:It)(h:Hp),e=.ref it/\Inv X a l h i/\Turn X.prog X.w X.K m J j it tn/\tn 0 i.heap/\(∀b∈j,l8 X a h b)/\R J h
def PI(X:Cx)(j e:Expr)(i:TI):Prop:=
 ∀(a:List (Addr×Obj))(s:yah)(h:St)(H:Hp)(R:It->Hp->Prop),Inv X a h H s->i h H R->
  yar (model X.prog X.w) X.A (eval e X.env) (λv l=>yar (model X.prog X.w) X.A (pyIter v) (Tc X a h j R) X.xe l) X.xe s
theorem vf{M:Model}{it:Addr}{n:String}{vs:Array yai}{Q:Unit->yah->Prop}(e:s.heap.get? it=some o)(j:o.cls=.type n)(hd:o.data=.fields vs)(i:["enumerate","zip","dict_itemiterator","dict_reverseitemiterator","odict_iterator","itertools.zip_longest","itertools.pairwise"].contains n=false)(a:Q () s):yar M A (letOwnedTupleGo tg (.ref it) u) Q E s:=by
 unfold letOwnedTupleGo;cases tg<;>first
  |exact yab a
  |(cases u<;>first|exact yab a|(refine yaa (wpAny_load e ?_);rw[j,hd];show yar M A (if(["enumerate","zip","dict_itemiterator","dict_reverseitemiterator","odict_iterator","itertools.zip_longest","itertools.pairwise"].contains n&&vs[0]? ==some (rawInt _))=true then _ else _) Q E s;rw[yIn (by intro h;rw[i,Bool.false_and] at h;cases h)];exact yab a))
noncomputable def Q5(K:yaI)(a:Addr):It:=
 ⟨λi H=>∃e x,cN K H a e/\e[i]? =some x,λi H x h=>h=H/\∀e,cN K H a e->e[i]? =some x,λi H=>∃e,cN K H a e/\e.length<=i⟩
noncomputable def Rv(K:yaI)(a:Addr):It:=
 ⟨λi H=>∃e x,dJ K H a e/\e[i]? =some x,λi H x h=>h=H/\∀e,dJ K H a e->e[i]? =some x,λi H=>∃e,dJ K H a e/\e.length<=i⟩
noncomputable def SI(lo:Int)(n:Nat):It:=⟨λi _=>i<n,λi H x a=>a=H/\x=.int (lo+i),λi _=>n<=i⟩
theorem Bl(a it:Addr):Turn P w K tg (Q5 K a) [it] it (λi h=>h.IsListIter it a i) where
 mem:=by simp
 obj:=λi h j b m=>by
  have e:b=it:=by simpa using m
  subst e;obtain⟨o,e,c,d⟩:=j;exact⟨o,e,λv z=>by rw[d] at z;cases z⟩
 keep:=λi h y j k=>j.at λo e=>k it (by simp) o e
 item:=by
  intro X O hw Q hc i l s σ H E I t j L;subst O hw Q;obtain⟨xs,x,q,G⟩:=L;obtain⟨F,C,p,hz⟩:=I.list q;obtain⟨u,hu,ru⟩:=C.get G;obtain⟨Z,Y,f2,W,U,S⟩:=t it (by simp);refine wpAny_pyNext_list_item j p.isList (x:=u) (by simpa using hu) λy n sb=>?_;have I1:Inv X l σ H {s with heap:=y}:=I.turned (t':=s.toks) (λb o m e=>(sb.2 b m).trans e) Z Y W U S;obtain⟨o,e,c,d⟩:=id n;exact⟨u,rfl,vf (s:={s with heap:=y}) e c d (by decide) ⟨x,H,I1,ru,⟨rfl,λys hy=>by rw[I.uY hy q];exact G⟩,n,λb m=>(t b m).1⟩⟩
 done:=by
  intro X O hw Q hc i l s σ H E I t j L;subst O hw Q;obtain⟨xs,q,G⟩:=L;obtain⟨F,C,p,hz⟩:=I.list q;obtain⟨Z,Y,f2,W,U,S⟩:=t it (by simp);have hl:=C.length;exact wpAny_pyNext_list_end (I.ok.hd hc) j p.isList (by simp;lia) λy eb=>⟨rfl,I.turned (t':=s.toks) (λb o m e=>eb b o m e) Z Y W U S⟩
 self:=λ_ _ _ _ _ j h=>wpAny_pyIter_listiter j h
theorem wO(a it:Addr):Turn P w K tg (Rv K a) [it] it (λi h=>h.IsTupleIter it a i) where
 mem:=by simp
 obj:=λi h j b n=>by
  have e:b=it:=by simpa using n
  subst e;obtain⟨o,e,c,d⟩:=j;exact⟨o,e,λv z=>by rw[d] at z;cases z⟩
 keep:=λi h C j k=>j.at λo e=>k it (by simp) o e
 item:=by
  intro X O hw Q hc i l s σ H E I y j L;subst O hw Q;obtain⟨xs,x,t,G⟩:=L;obtain⟨m,F,p,hz⟩:=I.tuple t;obtain⟨u,hu,ru⟩:=F.get G;obtain⟨Z,Y,f2,W,U,S⟩:=y it (by simp);refine wpAny_pyNext_tuple_item j (show s.heap.IsTuple a m.toArray from p) (x:=u) (by simpa using hu) λC q sb=>?_;have I1:Inv X l σ H {s with heap:=C}:=I.turned (t':=s.toks) (λb o n e=>(sb.2 b n).trans e) Z Y W U S;obtain⟨o,e,c,d⟩:=id q;exact⟨u,rfl,vf (s:={s with heap:=C}) e c d (by decide) ⟨x,H,I1,ru,⟨rfl,λys hy=>by rw[I.Bm hy t];exact G⟩,q,λb n=>(y b n).1⟩⟩
 done:=by
  intro X O hw Q hc i l s σ H E I y j L;subst O hw Q;obtain⟨xs,t,G⟩:=L;obtain⟨m,F,p,hz⟩:=I.tuple t;obtain⟨Z,Y,f2,W,U,S⟩:=y it (by simp);have hl:=F.length;exact wpAny_pyNext_tuple_end (I.ok.hd hc) j (show s.heap.IsTuple a m.toArray from p) (by simp;lia) λC eb=>⟨rfl,I.turned (t':=s.toks) (λb o n e=>eb b o n e) Z Y W U S⟩
 self:=λ_ _ _ _ _ j h=>wpAny_pyIter_tupleiter j h
theorem wQ(it:Addr)(lo:Int)(n:Nat):Turn P w K tg (SI lo n) [it] it (λi h=>IsRangeIter h it (lo+(i:Nat)*1) ((n:Int) - (i:Nat)) 1) where
 mem:=by simp
 obj:=λi h a b l=>by
  have e:b=it:=by simpa using l
  subst e;exact⟨_,a,λv z=>by
   have Y:Data.fields _=Data.cell v:=z;cases Y⟩
 keep:=λi h u a k=>k it (by simp) _ a
 item:=by
  intro X C hw F y i j s U H E I q a x;subst C hw F;obtain⟨S,Q,f2,O,L,G⟩:=q it (by simp);have W:=Walks.range (prog:=X.prog) (w:=X.w) (I.ok.hd y) it lo 1 n;refine W.item i s _ _ x a λv u tk hv m Z=>?_;obtain⟨t,rfl⟩:=hv;have I1:Inv X j U H {s with heap:=u,toks:=tk}:=I.turned (λb o l e=>Z b o (by simpa using l) e) S Q O L G;refine⟨_,rfl,vf (s:={s with heap:=u,toks:=tk}) (n:="range_iterator") m rfl rfl (by decide) ⟨.int (lo+i),H,I1,⟨t,?_⟩,⟨rfl,rfl⟩,m,λb l=>(q b l).1⟩⟩;rw[Int.mul_one]
 done:=by
  intro X C hw F y i j s U H E I q a x;subst C hw F;obtain⟨S,Q,f2,O,L,G⟩:=q it (by simp);exact wpAny_pyNext_range_end (I.ok.hd y) a (by have:n<=i:=x;lia) λu eb=>⟨rfl,I.turned (t':=s.toks) (λb o l e=>eb b o l e) S Q O L G⟩
 self:=λ_ _ _ _ _ a h=>wpAny_pyIter_rangeiter a h
theorem Ew{a:St}{R:It->Hp->Prop}{lo hi:Int}{t u v:Tok}{tk:Nat}(I:Inv X pins a H s)(h1: -(2 ^ 62)<=lo)(h2:lo<2 ^ 62)(l: -(2 ^ 62)<=hi)(j:hi<2 ^ 62)(q:R (SI lo (hi - lo).toNat) H):yar (model X.prog X.w) X.A (pyIter (.ref s.heap.objs.size)) (Tc X pins a tg R) E {s with heap:=s.heap.push {cls:=.type "range",data:=.fields #[.int lo t,.int hi u,.int 1 v]},toks:=tk}:=by
 refine wpAny_pyIter_range (IsRange.new ..) (small_one h1 h2 l j) ?_;have h:Inv X pins a H {s with heap:=s.heap.push {cls:=.type "range",data:=.fields #[.int lo t,.int hi u,.int 1 v]},toks:=tk}:=I.kept λb o e=>zaq _ e;refine⟨(s.heap.push {cls:=.type "range",data:=.fields #[.int lo t,.int hi u,.int 1 v]}).objs.size,[(s.heap.push {cls:=.type "range",data:=.fields #[.int lo t,.int hi u,.int 1 v]}).objs.size],_,_,H,rfl,h.kept (t':=tk) λb o e=>zaq _ e,wQ _ lo (hi - lo).toNat,?_,λb i=>?_,q⟩
 ·have n:lo+((0:Nat):Int)*1=lo:=by simp
  have m:(((hi - lo).toNat:Nat):Int) - ((0:Nat):Int)=Builtin.Range.rangeSize lo hi 1:=by rw[rangeSize_one];split<;>lia
  show IsRangeIter _ _ (lo+((0:Nat):Int)*1) ((((hi - lo).toNat:Nat):Int) - ((0:Nat):Int)) 1;rw[n,m];exact zaK _ rfl
 ·have e:b=(s.heap.push {cls:=.type "range",data:=.fields #[.int lo t,.int hi u,.int 1 v]}).objs.size:=by simpa using i
  subst e;exact h.sV (zcI _) (h.hok.fresh (zcI _))
def KZ(e:TA):TI:=λa H R=>e a H λvs h=>∃j:Int,vs=[.int j]/\-(2 ^ 62)<=j/\j<2 ^ 62/\R (SI 0 j.toNat) h
theorem bV{a:Expr}{n:TA}(y:Gl X "range")(x:X.mg "range"=none)(C:PA X [a] n)(v:yao [a] X.env=[(false,eval a X.env)]:=by rfl):PI X tg (.Call (.Name "range" p) [a] [] pos) (KZ n):=by
 intro i s o H R I h;refine Call_ (cH I y x boot_range (PyProof.Rows.callWith_type1 (bQ (C pos i s o H _ I h) λF G l=>?_) v rfl));obtain⟨vs,L,E,u,m⟩:=l;obtain⟨j,e,m,q2,q⟩:=m;subst e;cases u with
 |cons r rr=>
  cases rr;obtain⟨t,rfl⟩:=r;exact call_range_1 (Ew E (by lia) (by lia) m q2 (by simpa using q))
def OZ(n:TI)(g:TG)(o:TS):TS:=λD a H=>n a H λJ s=>∃W:Nat->Nat->St->Hp->Prop,(∃m,W 0 m a s)/\∀i m a H,W i m a H->
 (J.stop i H/\D.nx a H)∨(J.go i H/\∃N:St->Hp->Prop,(∀e h,N e h->∃l,l<m/\W (i+1) l e h)/\∀x h,J.CV i H x h->g x a h λj q=>o {D with nx:=N,ct:=N,bk:=D.nx} j q)
noncomputable def jF(fp:List Addr)(h:Heap):List (Addr×Obj):=fp.filterMap λb=>(h.get? b).map λo=>(b,o)
theorem gE{b:Addr}(a:b∈fp)(e:h.get? b=some o):(b,o)∈jF fp h:=List.mem_filterMap.mpr ⟨b,a,by rw[e];rfl⟩
theorem BH{p:Addr×Obj}(a:p∈jF fp h):p.1∈fp/\h.get? p.1=some p.2:=by
 obtain⟨b,i,e⟩:=List.mem_filterMap.mp a;cases q:h.get? b with
 |none=>rw[q] at e;cases e
 |some o=>
  rw[q] at e;have j:(b,o)=p:=zcL.inj e;subst j;exact⟨i,q⟩
theorem Inv.pinned{a:St}(I:Inv X pins a H s)(m:∀b∈fp,l8 X pins H b)(l:∀b∈fp,∃o,s.heap.get? b=some o/\∀v,o.data≠ .cell v):Inv X (pins++jF fp s.heap) a H s:=
 I.j5 λp j=>(zbI.mp j).elim (λz=>I.pin p (zas _ z)) λz=>by
  obtain⟨h,e⟩:=BH z;obtain⟨t,q,n,_⟩:=m p.1 h;obtain⟨o,i,d⟩:=l p.1 h;rw[e] at i;cases i;exact⟨e,t,q,n,d⟩
theorem Inv.fM{pl:List (Addr×Obj)}{a:St}(I:Inv X (pins++pl) a H s):Inv X pins a H s:=I.j5 λp e=>I.pin p (zas _ (zaz _ e))
theorem bD{wi:TI}{g:TG}{tb:TS}(S:PassesOwn (model X.prog X.w) X.A X.env X.xe)(hc:X.calm=true)(hi:PI X tg iter wi)(hg:PG X tg g)(y:vX X body tb)(hs:∀x,foldedSetIterable iter X.env x=pure x:=by intro _;rfl):PS X (.For tg iter body [] pos) (OZ wi g tb):=by
 intro j s σ H D I h;refine wpAny_For (bQ (hi j s σ H _ I h) λv s1 h1=>bQ h1 λitv s2 h2=>?_) hs;obtain⟨it,Y,tn,J,H2,e,I2,T,st2,f2,W,⟨m0,w0⟩,turn⟩:=h2;subst e;have Lv:∀{G:Hp},(∀b∈Y,G b=none)->∀b∈Y,l8 X j G b:=λhn b y=>⟨hn b y,(f2 b y).2⟩
 refine codeAny_forLoop_any (λn s'=>∃i t G,Inv X j t G s'/\tn i s'.heap/\(∀b∈Y,G b=none)/\W i n t G) ?_ m0 ⟨0,σ,H2,I2,st2,λb y=>(f2 b y).1,w0⟩;rintro n s3 ⟨i,q,Z,I3,P,U,w3⟩;rcases turn i n q Z w3 with⟨stop,qn⟩|⟨go,N,hN,step⟩
 ·refine wpAny_passesOwn S (bQ (T.done X rfl rfl rfl hc i j s3 q Z X.xe I3 (Lv U) P stop) λr s4 l=>?_);obtain⟨hr,I4⟩:=l;subst hr;exact yaF ⟨q,Z,I4,qn⟩
 ·refine wpAny_passesOwn S (bQ (T.item X rfl rfl rfl hc i j s3 q Z X.xe I3 (Lv U) P go) λr s4 l=>?_);obtain⟨u,hr,h4⟩:=l;subst hr;refine wpAny_passesOwn S (bQ h4 λ_ s5 l=>?_);obtain⟨x,H5,I5,r5,y5,O,fr5⟩:=l;have I5':=I5.pinned (Lv fr5) (T.obj _ _ O);refine wpAny_passesOwn S (bQ (hg _ s5 q H5 x u _ I5' r5 (step x H5 y5)) λ_ s6 l=>?_);obtain⟨σ6,H6,I6,q6⟩:=l;refine wpAny_passesOwn S (bQ (y _ s6 σ6 H6 _ I6 q6) λf s7 L=>?_);have C:∀{a:St}{F:Hp},Inv X (j++jF Y s5.heap) a F s7->N a F->∃m,m<n/\∃i t G,Inv X j t G s7/\tn i s7.heap/\(∀b∈Y,G b=none)/\W i m t G:=λ{a F} E Q=>by
   obtain⟨m',hm,w7⟩:=hN a F Q;refine⟨m',hm,i+1,a,F,E.fM,T.keep _ _ _ O λb y o e=>(E.pin (b,o) (zas _ (zas _ (gE y e)))).1,λb y=>?_,w7⟩;obtain⟨o,e,d⟩:=T.obj _ _ O b y;exact(E.pin (b,o) (zas _ (zas _ (gE y e)))).2.1
  cases f with
  |next=>obtain⟨a,F,E,Q⟩:=L;exact C E Q
  |cont=>obtain⟨a,F,E,Q⟩:=L;exact C E Q
  |brk=>obtain⟨a,F,E,L⟩:=L;exact⟨a,F,E.fM,L⟩
  |ret v=>obtain⟨x7,a,F,E,r7,L⟩:=L;exact⟨x7,a,F,E.fM,r7,L⟩
abbrev R2:=V->V->Hp->VK->Prop
def fE(X:Cx)(f:yai->yai->Sem yai)(r:R2):Prop:=
 ∀(a:List (Addr×Obj))(s:yah)(e:St)(H:Hp)(x y:V)(v u:yai)(Q:VK),Inv X a e H s->RelV x v->RelV y u->r x y H Q->
  yar (model X.prog X.w) X.A (f v u) (EP X a e Q) X.xe s
def OJ(X:Cx)(f:yai->Sem yai)(r:V->Hp->VK->Prop):Prop:=
 ∀(a:List (Addr×Obj))(s:yah)(e:St)(H:Hp)(x:V)(v:yai)(Q:VK),Inv X a e H s->RelV x v->r x H Q->
  yar (model X.prog X.w) X.A (f v) (EP X a e Q) X.xe s
def b7(X:Cx)(f:yai)(r:List V->Hp->VK->Prop):Prop:=
 ∀(a:List (Addr×Obj))(s:yah)(e:St)(H:Hp)(h:List V)(i:List yai)(Q:VK),Inv X a e H s->Vals h i->r h H Q->
  yar (model X.prog X.w) X.A (call f i) (EP X a e Q) X.xe s
def SD(X:Cx)(r:V->Hp->(Bool->Hp->Prop)->Prop):Prop:=
 ∀(a:List (Addr×Obj))(s:yah)(e:St)(H:Hp)(x:V)(v:yai)(Q:Bool->Hp->Prop),Inv X a e H s->RelV x v->r x H Q->
  yar (model X.prog X.w) X.A (truthy v) (TP X a e Q) X.xe s
def OU(r:R2)(h e:TE):TE:=λa H Q=>h a H λx j=>e a j λy i=>r x y i Q
def SM(r:V->Hp->VK->Prop)(e:TE):TE:=λa H Q=>e a H λx h=>r x h Q
def rI(C:Int->Int->Prop)(g:Int->Int->V):R2:=λx y H Q=>∃i j,x=.int i/\y=.int j/\C i j/\Q (g i j) H
def Ij(g:Int->Int->V):R2:=λx y H Q=>∃i j,x=.int i/\y=.int j/\Q (g i j) H
def rU(g:Int->V):V->Hp->VK->Prop:=λx H Q=>∃i,x=.int i/\Q (g i) H
section
variable {a b:Expr}{ta tb tc:TE}
theorem N5(G:PE X a ta)(F:PE X b tb){e:St}{R:V->V->Hp->Prop}(I:Inv X pins e H s)(h:ta e H λx n=>tb e n λy i=>R x y i){f:yai->yai->Sem yai}(E:∀v u m x y i,Inv X pins e i m->RelV x v->RelV y u->R x y i->yar (model X.prog X.w) X.A (f v u) Q X.xe m):
  yar (model X.prog X.w) X.A (eval a X.env) (λv l=>yar (model X.prog X.w) X.A (eval b X.env) (λu j=>yar (model X.prog X.w) X.A (f v u) Q X.xe j) X.xe l) X.xe s:=by
 refine bQ (G pins s e H _ I h) λv o ⟨x,n,O,t,C⟩=>?_;refine bQ (F pins o e n _ O C) λu m ⟨y,i,L,q,q2⟩=>?_;exact E v u m x y i L t q q2
theorem aF{op:Operator}{r:R2}(n:fE X (binaryOp op) r)(t:PE X a ta)(o:PE X b tb):PE X (.BinOp a op b pos) (OU r ta tb):=by
 intro e s i H Q I h;exact wpAny_BinOp (N5 t o I h λv u j x y E C m l q=>n e j i E x y v u Q C m l q)
theorem zP{op:UnaryOp}{r:V->Hp->VK->Prop}(o:OJ X (unaryOp op) r)(q:PE X a ta):PE X (.UnaryOp op a pos) (SM r ta):=by
 intro e s j H Q I h;refine UnaryOp_ (bQ (q e s j H _ I h) λv l i=>?_);obtain⟨x,u,t,m,n⟩:=i;exact o e l j u x v Q t m n
theorem Rj{f:yai->yai->Sem yai}{C:Int->Int->Prop}{g:Int->Int->Int}(e:∀(i j:Int)(t u:Tok)(s:yah)(Q:yai->yah->Prop)(E:yai->yah->Prop),C i j->Q (.int (g i j) s.toks) {s with toks:=s.toks+1}->yar (model X.prog X.w) X.A (f (.int i t) (.int j u)) Q E s):
  fE X f (rI C λi j=>.int (g i j)):=by
 intro l s G H x y v u Q I o n h;obtain⟨i,j,rfl,rfl,F,q⟩:=h;obtain⟨t,rfl⟩:=o;obtain⟨m,rfl⟩:=n;exact e i j t m s _ _ F ⟨.int (g i j),H,I.tok _,⟨_,rfl⟩,q⟩
theorem P1{f:yai->yai->Sem yai}{g:Int->Int->Int}(e:∀(i j:Int)(t u:Tok)(s:yah)(Q:yai->yah->Prop)(E:yai->yah->Prop),Q (.int (g i j) s.toks) {s with toks:=s.toks+1}->yar (model X.prog X.w) X.A (f (.int i t) (.int j u)) Q E s):
  fE X f (Ij λi j=>.int (g i j)):=by
 intro l s C H x y v u Q I o n h;obtain⟨i,j,rfl,rfl,q⟩:=h;obtain⟨t,rfl⟩:=o;obtain⟨m,rfl⟩:=n;exact e i j t m s _ _ ⟨.int (g i j),H,I.tok _,⟨_,rfl⟩,q⟩
theorem IC{f:yai->yai->Sem yai}{g:Int->Int->Bool}(e:∀(i j:Int)(t u:Tok)(s:yah)(Q:yai->yah->Prop)(E:yai->yah->Prop),Q (.bool (g i j)) s->yar (model X.prog X.w) X.A (f (.int i t) (.int j u)) Q E s):
  fE X f (Ij λi j=>.bl (g i j)):=by
 intro l s C H x y v u Q I o n h;obtain⟨i,j,rfl,rfl,q⟩:=h;obtain⟨t,rfl⟩:=o;obtain⟨m,rfl⟩:=n;exact e i j t m s _ _ ⟨.bl (g i j),H,I,rfl,q⟩
def OE(i j:Int):Prop:=0<j/\j<1073741824
def Ra(i j:Int):Prop:=0<=j/\j<=1000000/\i.natAbs<2 ^ 64
def CP(i j:Int):Prop:=(-(2 ^ 64)<i/\i<2 ^ 64)∨(-(2 ^ 64)<j/\j<2 ^ 64)
theorem CP.ok{i j:Int}(h:CP i j):IntMulOk i j:=by
 rcases h with⟨h1,h2⟩|⟨h1,h2⟩
 ·exact .of_left (intBits_le_64 h1 h2)
 ·exact .of_right (intBits_le_64 h1 h2)
theorem MP:fE X (binaryOp .Add) (Ij λi j=>.int (i+j)):=P1 λ_ _ _ _ _ _ _ q=>add_int q
theorem MC:fE X (binaryOp .Sub) (Ij λi j=>.int (i - j)):=P1 λ_ _ _ _ _ _ _ q=>sub_int q
theorem MG:fE X (binaryOp .Mult) (rI CP λi j=>.int (i*j)):=Rj λ_ _ _ _ _ _ _ e q=>mul_int q e.ok
theorem Iz:fE X (binaryOp .FloorDiv) (rI OE λi j=>.int (i / j)):=Rj λi j _ _ _ _ _ e q=>by
 have h1:(0:Int)<j:=e.1;have h2:j<1073741824:=e.2;exact floordiv_int (by lia) (by rw[Int.fdiv_eq_ediv_of_nonneg i (by lia)];exact q) (.inl (PyProof.noPylong_small (by lia)))
theorem MH:fE X (binaryOp .Mod) (rI (λ_ j=>0<j) λi j=>.int (i % j)):=Rj λi j _ _ _ _ _ e q=>by
 have h1:(0:Int)<j:=e;exact mod_int' (by lia) (by rw[Int.fmod_eq_emod_of_nonneg i (by lia)];exact q)
theorem ME:fE X (binaryOp .Pow) (rI Ra λi j=>.int (i ^ j.toNat)):=Rj λ_ _ _ _ _ _ _ e q=>pow_int_small e.1 e.2.1 e.2.2 q
theorem unI{f:yai->Sem yai}{g:Int->Int}(e:∀(i:Int)(t:Tok)(s:yah)(Q:yai->yah->Prop)(E:yai->yah->Prop),Q (.int (g i) s.toks) {s with toks:=s.toks+1}->yar (model X.prog X.w) X.A (f (.int i t)) Q E s):
  OJ X f (rU λi=>.int (g i)):=by
 intro j s m H x v Q I l h;obtain⟨i,rfl,q⟩:=h;obtain⟨t,rfl⟩:=l;exact e i t s _ _ ⟨.int (g i),H,I.tok _,⟨_,rfl⟩,q⟩
theorem Ll:OJ X (unaryOp .USub) (rU λi=>.int (-i)):=unI λ_ _ _ _ _ q=>neg_int q
end
noncomputable def O8:V->V->Bool
 |.bB,.bB=>true|.bB,.int _=>true|.int _,.bB=>true|.bB,.bl _=>true|.bl _,.bB=>true|.bB,.str _=>true|.str _,.bB=>true
 |.int _,.int _=>true|.bl _,.bl _=>true|.str _,.str _=>true|.wH _,.wH _=>true
 |.int _,.str _=>true|.str _,.int _=>true|.bl _,.str _=>true|.str _,.bl _=>true
 |_,_=>false
def rEq:R2:=λx y H Q=>O8 x y=true/\Q (.bl (decide (x=y))) H
def rNe:R2:=λx y H Q=>O8 x y=true/\Q (.bl (!decide (x=y))) H
theorem An{i j:Int}:decide (V.int i=V.int j)=(i==j):=by
 rw[zbX];simp
theorem FF{i j:Bool}:decide (V.bl i=V.bl j)=(i==j):=by
 rw[zbX];simp
theorem Am{i j:Str}:decide (V.str i=V.str j)=(i==j):=by
 rw[zbX];simp
theorem Ao{i j:Array UInt8}:decide (V.wH i=V.wH j)=(i.toList==j.toList):=by
 rw[zbX];cases i;cases j;simp
section
variable {a b:Expr}{ta tb tc:TE}
theorem aU{h:St}{Q:VK}{k i:Bool}(I:Inv X pins h H s)(q:Q (.bl k) H)(e:k=i):EP X pins h Q (.bool i) s:=by
 subst e;exact⟨.bl k,H,I,rfl,q⟩
theorem P0:fE X (yan .Eq) rEq:=by
 intro o s C H x y v u Q I n e h;obtain⟨m,q⟩:=h;cases x with
 |bB=>
  cases n;cases y with
  |bB=>cases e;exact PySem.EqNone.eq_none_none (aU I q (by simp))
  |bl j=>cases e;exact PySem.EqNone.eq_none_bool (aU I q (by simp))
  |int j=>obtain⟨l,rfl⟩:=e;exact PySem.EqNone.eq_none_int (aU I q (by simp))
  |str j=>obtain⟨l,rfl⟩:=e;exact PySem.EqNone.eq_none_str (aU I q (by simp))
  |_=>exact absurd (show false=true from m) zaT
 |bl i=>
  cases n;cases y with
  |bB=>cases e;exact PySem.EqNone.eq_bool_none (aU I q (by simp))
  |bl j=>cases e;exact eq_bool (aU I q FF)
  |str j=>obtain⟨l,rfl⟩:=e;exact PySem.EqMixed.eq_bool_str (aU I q (by simp))
  |_=>exact absurd (show false=true from m) zaT
 |int i=>
  obtain⟨t,rfl⟩:=n;cases y with
  |bB=>cases e;exact PySem.EqNone.eq_int_none (aU I q (by simp))
  |int j=>obtain⟨l,rfl⟩:=e;exact eq_int (aU I q An)
  |str j=>obtain⟨l,rfl⟩:=e;exact PySem.EqMixed.eq_int_str (aU I q (by simp))
  |_=>exact absurd (show false=true from m) zaT
 |str i=>
  obtain⟨t,rfl⟩:=n;cases y with
  |bB=>cases e;exact PySem.EqNone.eq_str_none (aU I q (by simp))
  |bl j=>cases e;exact PySem.EqMixed.eq_str_bool (aU I q (by simp))
  |int j=>obtain⟨l,rfl⟩:=e;exact PySem.EqMixed.eq_str_int (aU I q (by simp))
  |str j=>obtain⟨l,rfl⟩:=e;exact eq_str (aU I q Am)
  |_=>exact absurd (show false=true from m) zaT
 |wH i=>
  obtain⟨t,rfl⟩:=n;cases y with
  |wH j=>obtain⟨l,rfl⟩:=e;exact PySem.W.eq_bytes (aU I q Ao)
  |_=>exact absurd (show false=true from m) zaT
 |_=>cases y<;>exact absurd (show false=true from m) zaT
theorem PU:fE X (yan .NotEq) rNe:=by
 intro o s C H x y v u Q I n e h;obtain⟨m,q⟩:=h;cases x with
 |bB=>
  cases n;cases y with
  |bB=>cases e;exact PySem.EqNone.ne_none_none (aU I q (by simp))
  |bl j=>cases e;exact PySem.EqNone.ne_none_bool (aU I q (by simp))
  |int j=>obtain⟨l,rfl⟩:=e;exact PySem.EqNone.ne_none_int (aU I q (by simp))
  |str j=>obtain⟨l,rfl⟩:=e;exact PySem.EqNone.ne_none_str (aU I q (by simp))
  |_=>exact absurd (show false=true from m) zaT
 |bl i=>
  cases n;cases y with
  |bB=>cases e;exact PySem.EqNone.ne_bool_none (aU I q (by simp))
  |bl j=>cases e;exact ne_bool (aU I q (congrArg not FF))
  |str j=>obtain⟨l,rfl⟩:=e;exact PySem.EqMixed.ne_bool_str (aU I q (by simp))
  |_=>exact absurd (show false=true from m) zaT
 |int i=>
  obtain⟨t,rfl⟩:=n;cases y with
  |bB=>cases e;exact PySem.EqNone.ne_int_none (aU I q (by simp))
  |int j=>obtain⟨l,rfl⟩:=e;exact ne_int (aU I q (congrArg not An))
  |str j=>obtain⟨l,rfl⟩:=e;exact PySem.EqMixed.ne_int_str (aU I q (by simp))
  |_=>exact absurd (show false=true from m) zaT
 |str i=>
  obtain⟨t,rfl⟩:=n;cases y with
  |bB=>cases e;exact PySem.EqNone.ne_str_none (aU I q (by simp))
  |bl j=>cases e;exact PySem.EqMixed.ne_str_bool (aU I q (by simp))
  |int j=>obtain⟨l,rfl⟩:=e;exact PySem.EqMixed.ne_str_int (aU I q (by simp))
  |str j=>obtain⟨l,rfl⟩:=e;exact ne_str (aU I q (congrArg not Am))
  |_=>exact absurd (show false=true from m) zaT
 |wH i=>
  obtain⟨t,rfl⟩:=n;cases y with
  |wH j=>obtain⟨l,rfl⟩:=e;exact PySem.W.ne_bytes (aU I q (congrArg not Ao))
  |_=>exact absurd (show false=true from m) zaT
 |_=>cases y<;>exact absurd (show false=true from m) zaT
theorem PV:fE X (yan .Lt) (Ij λi j=>.bl (decide (i<j))):=IC λ_ _ _ _ _ _ _ q=>lt_int q
theorem PX:fE X (yan .LtE) (Ij λi j=>.bl (decide (i<=j))):=IC λ_ _ _ _ _ _ _ q=>le_int q
theorem PY:fE X (yan .Gt) (Ij λi j=>.bl (decide (j<i))):=IC λ_ _ _ _ _ _ _ q=>gt_int q
theorem PZ:fE X (yan .GtE) (Ij λi j=>.bl (decide (j<=i))):=IC λ_ _ _ _ _ _ _ q=>ge_int q
theorem BF:fE X (yan .Lt) (λx y H Q=>∃i j,x=.str i/\y=.str j/\Q (.bl (decide (i.cps.toList<j.cps.toList))) H):=by
 intro e s n H x y v u Q I m l h;obtain⟨i,j,rfl,rfl,q⟩:=h;obtain⟨t,rfl⟩:=m;obtain⟨o,rfl⟩:=l;exact lt_str (aU I q rfl)
theorem sr:fE X (yan .NotIn) (λx y H Q=>∃i j,x=.str i/\y=.str j/\Q (.bl (!(!(Builtin.Str.occurrences j i 0 j.length 1).isEmpty))) H):=by
 intro e s n H x y v u Q I m l h;obtain⟨i,j,rfl,rfl,q⟩:=h;obtain⟨t,rfl⟩:=m;obtain⟨o,rfl⟩:=l;exact notIn_str (aU I q rfl)
theorem aG(b:Expr){op:CmpOp}(h:op≠ .In:=by decide)(h2:op≠ .NotIn:=by decide):behindInMarks op b=false:=by
 have i:(op==CmpOp.In)=false:=by cases op<;>first|rfl|exact absurd rfl h
 have e:(op==CmpOp.NotIn)=false:=by cases op<;>first|rfl|exact absurd rfl h2
 cases b<;>simp[behindInMarks,i,e]
theorem bh{op:CmpOp}{r:R2}(n:fE X (yan op) r)(C:PE X a ta)(t:PE X b tb)(o:behindInMarks op b=false):PE X (.Compare a [op] [b] pos) (OU r ta tb):=by
 intro e s i H Q I h;exact wpAny_Compare1 (N5 C t I h λv u j x y F E m l q=>n e j i F x y v u Q E m l q) o
def Kd(t:TE):TT:=λe H Q=>t e H λx h=>∃k,x=.bl k/\Q k h
theorem au{op:CmpOp}{r:R2}(G:fE X (yan op) r)(P:PE X a ta)(O:PE X b tb)(L:behindInMarks op b=false):PT X (.Compare a [op] [b] pos) (Kd (OU r ta tb)):=by
 intro i s j H Q I h;refine wpAny_isTrue_Compare1 (bQ (P i s j H _ I h) λv q n=>?_) L;obtain⟨x,H1,W,E,F⟩:=n;refine bQ (O i q j H1 _ W F) λu o m=>?_;obtain⟨y,Z,U,C,q2⟩:=m;refine bQ (G i o j Z x y v u _ U E C q2) λc s3 l=>?_;obtain⟨z,Y,S,t,k,e,q3⟩:=l;subst e;cases t;exact wpAny_truthy_bool ⟨Y,S,q3⟩
def wU(r j:R2)(ta tb tc:TE):TE:=λe H Q=>ta e H λx n=>tb e n λy m=>r x y m λz h=>∃k,z=.bl k/\
 (if k=true then tc e h λi l=>j y i l Q else Q (.bl false) h)
theorem oE{op j:CmpOp}{r C:R2}(ho:fE X (yan op) r)(q:fE X (yan j) C)(ha:PE X a ta)(hb:PE X b tb)(hc:PE X c tc)(hm:lastMarks [op,j] [b,c]=false:=by with_unfolding_all rfl):PE X (.Compare a [op,j] [b,c] pos) (wU r C ta tb tc):=by
 intro i s l H Q I h;refine Compare_chain (bQ (ha i s l H _ I h) λv U o=>?_) hm;obtain⟨x,H1,I1,Z,q1⟩:=o;refine chain_link (bQ (hb i U l H1 _ I1 q1) λu S n=>?_);obtain⟨y,H2,I2,t,q2⟩:=n;refine bQ (ho i S l H2 x y v u _ I2 Z t q2) λd P m=>?_;obtain⟨z,F,E,Y,k,e,q3⟩:=m;subst e;cases Y;refine wpAny_truthy_bool ?_;cases k with
 |false=>exact ite_ff ⟨.bl false,F,E,rfl,q3⟩
 |true=>exact ite_tt (chain_last (bQ (hc i P l F _ E q3) λL O ⟨G,H4,I4,W,q4⟩=>q i O l H4 y G u L Q I4 t W q4))
theorem oi{op m:CmpOp}{r C:R2}(ho:fE X (yan op) r)(q:fE X (yan m) C)(ha:PE X a ta)(hb:PE X b tb)(hc:PE X c tc)(hm:lastMarks [op,m] [b,c]=false:=by with_unfolding_all rfl):PT X (.Compare a [op,m] [b,c] pos) (Kd (wU r C ta tb tc)):=by
 intro i s n H Q I h;refine isTrue_chain (bQ (ha i s n H _ I h) λv U l=>?_) hm;obtain⟨x,H1,I1,r1,q1⟩:=l;refine test_link (bQ (hb i U n H1 _ I1 q1) λu S j=>?_);obtain⟨y,H2,I2,t,q2⟩:=j;refine bQ (ho i S n H2 x y v u _ I2 r1 t q2) λd P o=>?_;obtain⟨z,F,E,Z,k,e,q3⟩:=o;subst e;cases Z;refine wpAny_truthy_bool ?_;cases k with
 |false=>
  obtain⟨k',e',q'⟩:=q3;cases e';exact ite_ff ⟨F,E,q'⟩
 |true=>
  refine ite_tt (test_last (bQ (hc i P n F _ E q3) λL O l=>?_));obtain⟨G,H4,I4,Y,q4⟩:=l;refine bQ (q i O n H4 y G u L _ I4 t Y q4) λd' s5 j=>?_;obtain⟨z2,H5,I5,W,k2,e2,q5⟩:=j;subst e2;cases W;exact wpAny_truthy_bool ⟨H5,I5,q5⟩
def Gn(K:yaI)(x:V)(H:Hp)(k:Bool):Prop:=
 match x with
 |.bB=>k=false
 |.bl b=>k=b
 |.int i=>k=(i != 0)
 |.str y=>y.length<=yag/\k=((y.length:Int) != 0)
 |.wH y=>y.size<=yag/\k=((y.size:Int) != 0)
 |.ref p=>(∃e,cN K H p e/\k= !e.isEmpty)∨(∃e,dJ K H p e/\k= !e.isEmpty)∨∃h,H p=some (.dK h)/\k= !h.isEmpty
 |_=>False
theorem yh{κ:Type}{kvs:List (κ×V)}{vs:List (κ×yai)}(r:KV kvs vs):(!vs.isEmpty)= !kvs.isEmpty:=by
 cases r<;>rfl
theorem oY{its:List yai}(r:Vals xs its):(!its.toArray.isEmpty)= !xs.isEmpty:=by
 cases r<;>simp
theorem lP:(yag:Nat)<2 ^ 63:=by rw[yaf];decide
theorem Lo:SD X (λx H Q=>∃k,Gn X.K x H k/\Q k H):=by
 intro F s O H x v Q I u h;obtain⟨k,e,q⟩:=h;have U:=lP;have S:yag=16777216:=yaf;cases x with
 |bB=>
  cases u;have j:k=false:=e;subst j;exact truthy_none ⟨H,I,q⟩
 |bl b=>
  cases u;have j:k=b:=e;subst j;exact wpAny_truthy_bool ⟨H,I,q⟩
 |int i=>
  obtain⟨t,rfl⟩:=u;have j:k=(i != 0):=e;subst j;exact PySem.P.truthy_int ⟨H,I,q⟩
 |str y=>
  obtain⟨t,rfl⟩:=u;obtain⟨G,j⟩:y.length<=yag/\k=((y.length:Int) != 0):=e;subst j;exact PySem.P.truthy_str (by lia) ⟨H,I.tok _,q⟩
 |wH y=>
  obtain⟨t,rfl⟩:=u;obtain⟨G,j⟩:y.size<=yag/\k=((y.size:Int) != 0):=e;subst j;exact PySem.W.truthy_bytes (by lia) ⟨H,I.tok _,q⟩
 |ref p=>
  cases u;have j:(∃o,cN X.K H p o/\k= !o.isEmpty)∨(∃o,dJ X.K H p o/\k= !o.isEmpty)∨∃l,H p=some (.dK l)/\k= !l.isEmpty:=e;rcases j with⟨o,C,j⟩|⟨o,C,j⟩|⟨l,C,j⟩
  ·subst j;obtain⟨E,r,pl,hz⟩:=I.list C;have n:=r.length;exact wpAny_truthy_list pl.isList (by simp only[zaY];lia) ⟨H,I.tok _,by rw[oY r];exact q⟩
  ·subst j;obtain⟨E,r,pl,hz⟩:=I.tuple C;have n:=r.length;exact truthy_tuple pl (by simp only[zaY];lia) ⟨H,I.tok _,by rw[oY r];exact q⟩
  ·subst j;obtain⟨hz,L,vs,r,m⟩:l.length<=yag/\(p==yas)=false/\∃vs,KV l vs/\s.heap.DictOf (bN X.prog X.w) p vs:=I.hok p _ C;have n:l.length=vs.length:=Paired.length r;exact wpAny_truthy_dict L m (by lia) ⟨H,I.tok _,by rw[yh r];exact q⟩
 |_=>exact(show False from e).elim
theorem EF(t:PE X a ta)(q:∀e,isTrue a X.env e=(do let v <-e;standAt a.pos;holding [v] (truthy v))):
  PT X a (λj H Q=>ta j H λx H'=>∃k,Gn X.K x H' k/\Q k H'):=by
 intro i s j H Q I h;refine isTrue_plain (bQ (t i s j H _ I h) λv m l=>?_) (q _);obtain⟨x,y,u,n,o⟩:=l;exact Lo i m j y x v Q u n o
theorem xV:fE X (binaryOp .Add) (λx y H Q=>∃i j,x=.str i/\y=.str j/\i.length+j.length<=yag/\Q (.str (i++j)) H):=by
 intro e s o H x y v u Q I n m h;obtain⟨i,j,rfl,rfl,hz,q⟩:=h;obtain⟨t,rfl⟩:=n;obtain⟨l,rfl⟩:=m;exact add_str (λl tk=>⟨.str (i++j),H,I.tok _,⟨_,rfl⟩,q⟩) hz
theorem vals1{x:V}(r:Vals [x] us):∃u,us=[u]/\RelV x u:=by
 cases r with
 |cons r1 r2=>cases r2;exact⟨_,rfl,r1⟩
theorem vals2{x:V}(r:Vals [x,y] us):∃u e,us=[u,e]/\RelV x u/\RelV y e:=by
 cases r with
 |cons r1 r2=>
  cases r2 with
  |cons r3 r4=>cases r4;exact⟨_,_,rfl,r1,r3⟩
theorem Ci(n:X.calm=true):b7 X (.builtin "max") (λl H Q=>∃i j,l=[.int i,.int j]/\Q (.int (if j> i then j else i)) H):=by
 intro m s o H l x Q I r h;obtain⟨i,j,rfl,q⟩:=h;obtain⟨u,v,rfl,⟨t,rfl⟩,⟨y,rfl⟩⟩:=vals2 r;refine max_two_ints (I.ok.hd n) λC tk k=>⟨_,H,I.kept k,?_,q⟩
 by_cases e:j> i
 ·rw[yIp e,yIp e];exact⟨_,rfl⟩
 ·rw[yIn e,yIn e];exact⟨_,rfl⟩
theorem Cg(n:X.calm=true):b7 X (.builtin "min") (λl H Q=>∃i j,l=[.int i,.int j]/\Q (.int (if j<i then j else i)) H):=by
 intro m s o H l x Q I r h;obtain⟨i,j,rfl,q⟩:=h;obtain⟨u,v,rfl,⟨t,rfl⟩,⟨y,rfl⟩⟩:=vals2 r;refine min_two_ints (I.ok.hd n) λC tk k=>⟨_,H,I.kept k,?_,q⟩
 by_cases e:j<i
 ·rw[yIp e,yIp e];exact⟨_,rfl⟩
 ·rw[yIn e,yIn e];exact⟨_,rfl⟩
def SG(K:yaI)(x:V)(H:Hp)(n:Nat):Prop:=
 match x with
 |.str y=>y.length<=yag/\n=y.length
 |.wH y=>y.size<=yag/\n=y.size
 |.ref p=>(∃e,cN K H p e/\n=e.length)∨∃e,dJ K H p e/\n=e.length
 |_=>False
theorem FU:b7 X (.builtin "len") (λi H Q=>∃x n,i=[x]/\SG X.K x H n/\Q (.int n) H):=by
 intro E s G H i L Q I r h;obtain⟨x,n,rfl,e,q⟩:=h;obtain⟨u,rfl,m⟩:=vals1 r;have P:=lP;have O:yag=16777216:=yaf;cases x with
 |str y=>
  obtain⟨t,rfl⟩:=m;obtain⟨F,l⟩:y.length<=yag/\n=y.length:=e;subst l;exact len_str (by lia) ⟨.int _,H,I.tok _,⟨_,rfl⟩,q⟩
 |wH y=>
  obtain⟨t,rfl⟩:=m;obtain⟨F,l⟩:y.size<=yag/\n=y.size:=e;subst l;exact PySem.W.len_bytes (by lia) ⟨.int _,H,I.tok _,⟨_,rfl⟩,q⟩
 |ref p=>
  cases m;have l:(∃i,cN X.K H p i/\n=i.length)∨∃i,dJ X.K H p i/\n=i.length:=e;rcases l with⟨i,C,l⟩|⟨i,C,l⟩
  ·subst l;obtain⟨v,o,pl,hz⟩:=I.list C;have j:=o.length;exact Calls.call_len_list pl.isList (by simp only[zaY];lia) ⟨.int i.length,H,I.tok _,⟨_,by simp only[zaY];rw[j]⟩,q⟩
  ·subst l;obtain⟨v,o,pl,hz⟩:=I.tuple C;have j:=o.length;exact len_tuple pl (by simp only[zaY];lia) ⟨.int i.length,H,I.tok _,⟨_,by simp only[zaY];rw[j]⟩,q⟩
 |_=>exact(show False from e).elim
end
structure yS(h:Heap)(x dx C:Addr)(mA:Str->Option yai):Prop where
 obj:h.get? x=some (zbY C dx)
 ns:h.Ns1 dx mA
 ne:dx≠x
theorem BV{m:Addr}{mA:Str->Option yai}(n:h.Ns1 m mA):∃j,h.get? m=some j/\∀name,PySem.W.lookIn name j=some (mA name):=by
 obtain⟨o,l,E,u,hd,x,_,v⟩:=n;refine⟨o,u,λname=>?_⟩;have e:=v name;unfold nsFind findBy at e;rw[<-Array.find?_toList] at e;unfold PySem.W.lookIn;rw[hd];dsimp only;split
 ·rename_i y q;rw[q] at e;exact congrArg some e
 ·rename_i q;rw[q] at e;have a:l.toList.any (·.refKey)=false:=by
   rw[zaZ];intro y s;obtain⟨z,t,i⟩:=x y (Array.mem_toList_iff.mp s);simp[DictEntry.refKey,i]
  have C:¬l.toList.any (·.refKey)=true:=by rw[a];exact zaT
  rw[yIn C];exact congrArg some e
theorem yS.look{x e:Addr}{mA:Str->Option yai}(I:yS h x e C mA):∃a,PySem.W.InstAt h x (zbY C e) C (some a)/\∀name,PySem.W.lookIn name a=some (mA name):=
 by obtain⟨a,i,j⟩:=BV I.ns;exact⟨a,⟨I.obj,rfl,rfl,i⟩,j⟩
section
variable {x dx:Addr}{mA:Str->Option yai}{v:yai}
theorem get_map{a:Bool}(X:K.In s.heap)(I:yS s.heap x dx C mA)(m:zbG K C name=true)(l:zbm K C=true)(n:zcd K (.ref C) name=some none)(i:mA name=some v)(e:PySem.W.handedIn v=true)(h:Q v {s with toks:=s.toks+1}):
  yar (model prog w) A (getAttr (.ref x) name a) Q E s:=by
 obtain⟨o,J,j⟩:=I.look;exact PySem.W.get_value X J (PySem.W.plainGet_of m).1 (PySem.W.findObj_own l n rfl (by rw[j,i])) e h
theorem Fv{pl:Sem Bool}{Q:yai×List yai->yah->Prop}(X:K.In s.heap)(I:yS s.heap x dx C mA)(a:zbG K C name=true)(m:zcd K (.ref C) name=some (some (.ref f)))(j:zcC K (.ref f)=true)(i:mA name=none)(h:Q (.ref f,[.ref x]) s):
  yar (model prog w) A (yaC (.ref x) name pl) Q E s:=by
 obtain⟨e,J,l⟩:=I.look;exact PySem.W.method_fn X J (PySem.W.plainGet_of a).1 (PySem.W.plainGet_of a).2 m (beq_iff_eq.mp j) (by show(PySem.W.lookIn name e).map (·.isSome)=some false;rw[l,i];rfl) h
theorem HG{ns:List Str}{Q:Unit->yah->Prop}(X:K.In s.heap)(I:yS s.heap x dx C mA)(t:zcd K (.ref C) "__setattr__"=some (some (.builtin "object.__setattr__")))(u:PySem.W.plainOver K C=true)(q:PySem.W.takerIn K C name=some none)(F:zbm K C=true)(hw:PySem.Within mA ns)(hsz:ns.length<=yag)(h:∀h',yS h' x dx C (λy=>if y=name then some v else mA y)->Heap.SameBut dx s.heap h'->Q () {s with heap:=h',toks:=s.toks+2}):
  yar (model prog w) A (setAttr (.ref x) name v) Q E s:=by
 obtain⟨O,J,S⟩:=I.look;refine PySem.W.set_plain X J t (PySem.W.osa_open (s:={s with toks:=s.toks+1}) (r:=none) X J u q λb=>?_);obtain⟨U,G,m⟩:=PySem.W.any_some F;have o:s.heap.get? x=some ⟨.ref C,some dx,.plain,#[]⟩:=I.obj;refine yaa (yab (yaa (yaa (wpAny_loadPart o (yaa (PySem.W.Looks.here (s:={s with toks:=s.toks+1}) (PySem.W.looks_clsIn X G) ?_))))));rw[m];refine yab (a:=some dx) (yaa (yab (yaa ?_)));refine wpAny_nsSet1 (s:={s with toks:=s.toks+1}) I.ns λh' i e=>?_;obtain⟨P,H,L,j,l,n⟩:=i.count (PySem.Within.cons name v hw);refine yaa (wpAny_lookBehind j (by rw[l];exact pastItsLine_dict (zcw n (by rw[zbq];lia))) ?_);exact yab (h _ ⟨(e.2 _ (Ne.symm I.ne)).trans I.obj,i,I.ne⟩ e)
theorem E1{R:Result->yah->Prop}{vs:List yai}(X:K.In s.heap)(a:PySem.W.makesIn K C=true)(hi:zcd K (.ref C) "__init__"=some (some (.ref f)))(e:PySem.W.typeIn K (.ref f)=some (.type "function"))(h:codeAny (model prog w) (A.under (.builtin "type.__call__" ⟨.ref C::vs,kw⟩)) (.call (.ref f) ⟨.ref (s.heap.objs.size+1)::vs,kw⟩) (PySem.W.InitBack (s.heap.objs.size+1) R) {s with heap:=(s.heap.push zbn).push (zbY C s.heap.objs.size)}):
  codeAny (model prog w) A (.call (.ref C) ⟨vs,kw⟩) R s:=by
 obtain⟨i,g,d,t,os⟩:=s;exact PySem.W.make_core (PySem.W.makes_of X a) (PySem.W.looks_findIn X hi) (λself=>PySem.W.bind_fn X self e) (.inl rfl) h
end
noncomputable def gy(f:Str)(v:V):List (Str×V)->List (Str×V)
 |[]=>[(f,v)]
 |(g,x)::r=>if g=f then(g,v)::r else(g,x)::gy f v r
theorem mw(f g:Str)(v:V):∀fs:List (Str×V),(gy f v fs).lookup g=if g=f then some v else fs.lookup g
 |[]=>by
  show zcG g [(f,v)]=_;by_cases h:g=f
  ·have a:(g==f)=true:=beq_iff_eq.mpr h;simp only[zcG,a,yIp h]
  ·have a:(g==f)=false:=beq_eq_false_iff_ne.mpr h;simp only[zcG,a,yIn h]
 |(k,x)::r=>by
  have j:=mw f g v r;rw[show gy f v ((k,x)::r)=(if k=f then(k,v)::r else(k,x)::gy f v r) from rfl];by_cases i:k=f
  ·rw[yIp i];by_cases h:g=k
   ·have a:(g==k)=true:=beq_iff_eq.mpr h;simp only[zcG,a,yIp (h.trans i)]
   ·have a:(g==k)=false:=beq_eq_false_iff_ne.mpr h;simp only[zcG,a,yIn (λe:g=f=>h (e.trans i.symm))]
  ·rw[yIn i];by_cases h:g=k
   ·have a:(g==k)=true:=beq_iff_eq.mpr h;simp only[zcG,a,yIn (λe:g=f=>i (h.symm.trans e))]
   ·have a:(g==k)=false:=beq_eq_false_iff_ne.mpr h;simp only[zcG,a];exact j
theorem lQ(f:Str)(v:V):∀fs:List (Str×V),f∈(gy f v fs).map (·.1)/\∀g,g∈fs.map (·.1)->g∈(gy f v fs).map (·.1)
 |[]=>⟨by simp[gy],λg h=>by simp at h⟩
 |(k,x)::r=>by
  obtain⟨j,i⟩:=lQ f v r;rw[show gy f v ((k,x)::r)=(if k=f then(k,v)::r else(k,x)::gy f v r) from rfl];by_cases a:k=f
  ·rw[yIp a];subst a;exact⟨by simp,λg h=>by simpa using h⟩
  ·rw[yIn a];refine⟨?_,λg h=>?_⟩
   ·rw[zci];exact zay _ j
   ·rw[zci] at h⊢;rcases zch.mp h with e|e
    ·exact zch.mpr (.inl e)
    ·exact zay _ (i g e)
theorem mz(f:Str)(v:V):∀fs:List (Str×V),(gy f v fs).length<=fs.length+1
 |[]=>by simp[gy]
 |(k,x)::r=>by
  have e:=mz f v r;rw[show gy f v ((k,x)::r)=(if k=f then(k,v)::r else(k,x)::gy f v r) from rfl];by_cases a:k=f
  ·rw[yIp a,zbq,zbq];lia
  ·rw[yIn a,zbq,zbq];lia
theorem jn.some_of{o:Option yai}(r:jn (some v) o):∃u,o=some u/\RelV v u:=by
 cases o with
 |none=>exact(show False from r).elim
 |some u=>exact⟨u,rfl,r⟩
theorem jn.none_of{o:Option yai}(r:jn none o):o=none:=by
 cases o with
 |none=>rfl
 |some u=>exact(show False from r).elim
theorem B8(r:RelV v u):PySem.W.handedIn u=true:=by
 cases v with
 |bB=>cases(show u=Value.none from r);rfl
 |bl b=>cases(show u=Value.bool b from r);rfl
 |int i=>obtain⟨t,e⟩:=(show∃t,u=Value.int i t from r);cases e;rfl
 |str x=>obtain⟨t,e⟩:=(show∃t,u=Value.str x t from r);cases e;rfl
 |wH b=>obtain⟨t,e⟩:=(show∃t,u=Value.bytes b t from r);cases e;rfl
 |Ny b=>obtain⟨t,e⟩:=(show∃t,u=Value.float b t from r);cases e;rfl
 |ref a=>cases(show u=Value.ref a from r);rfl
 |ty n=>cases(show u=Value.type n from r);rfl
section
variable {dx:Addr}{fs fs':List (Str×V)}
theorem ny(hok:jt P w H h)(e:H a=some (.ins C dx fs)):∃mA,yS h a dx C mA/\(∀f,jn (fs.lookup f) (mA f))/\PySem.Within mA (fs.map (·.1))/\fs.length<=1000/\H dx=some (.own a):=by
 obtain⟨d,z,ne,i,mA,n,r,q⟩:=(show bq P w H h a (.ins C dx fs) from hok a _ e)
 exact⟨mA,⟨i,n,ne⟩,r,q,z,d⟩
end
structure CO(K:yaI)(C:Addr):Prop where
 pg:zbG K C Str.empty=true
 hd:zbm K C=true
 po:PySem.W.plainOver K C=true
 sa:zcd K (.ref C) "__setattr__"=some (some (.builtin "object.__setattr__"))
theorem CO.get(c:CO K C)(f:Str):zbG K C f=true:=c.pg
def ff(K:yaI)(C:Addr)(f:Str):Prop:=zcd K (.ref C) f=some none
theorem ff.ON{f:Str}(n:ff K C f):PySem.W.takerIn K C f=some none:=by
 unfold PySem.W.takerIn;rw[show zcd K (.ref C) f=some none from n];rfl
structure Meth(K:yaI)(C:Addr)(m:Str)(f:Addr):Prop where
 at_:zcd K (.ref C) m=some (some (.ref f))
 fn:zcC K (.ref f)=true
 kp:zce K (.ref f)=true
section
variable {σ:St}{dx:Addr}{fs:List (Str×V)}{f:Str}
theorem yl(I:Inv X pins σ H s)(e:H a=some (.ins C dx fs))(c:CO X.K C)(n:ff X.K C f)(l:fs.lookup f=some v)(h:∀u s',Inv X pins σ H s'->RelV v u->Q u s'):yar (model X.prog X.w) A (getAttr (.ref a) f b) Q E s:=by
 obtain⟨mA,O,r,_,_,_⟩:=ny I.hok e;obtain⟨u,i,ru⟩:=jn.some_of (v:=v) (o:=mA f) (by rw[<-l];exact r f);exact get_map I.mH O (c.get f) c.hd n i (B8 ru) (h u _ (I.tok _) ru)
theorem yk{m:Str}{g:Addr}{pl:Sem Bool}{Q:yai×List yai->yah->Prop}(I:Inv X pins σ H s)(e:H a=some (.ins C dx fs))(c:CO X.K C)(k:Meth X.K C m g)(l:fs.lookup m=none)(h:Q (.ref g,[.ref a]) s):yar (model X.prog X.w) A (yaC (.ref a) m pl) Q E s:=by
 obtain⟨mA,O,r,_,_,_⟩:=ny I.hok e;have i:mA m=none:=jn.none_of (by rw[<-l];exact r m);exact Fv I.mH O (c.get m) k.at_ k.fn i h
theorem wX{Q:Unit->yah->Prop}(I:Inv X pins σ H s)(e:H a=some (.ins C dx fs))(c:CO X.K C)(n:ff X.K C f)(L:fs.length<1000)(m:RelV y u)(h:∀s',Inv X pins σ (upd H a (.ins C dx (gy f y fs))) s'->Q () s'):yar (model X.prog X.w) A (setAttr (.ref a) f u) Q E s:=by
 obtain⟨mA,O,r,j,_,l⟩:=ny I.hok e;have hz:(fs.map (·.1)).length<=yag:=by rw[zbJ,yaf];lia
 refine HG I.mH O c.sa c.po n.ON c.hd j hz λF i sb=>h _ ?_;have hd:∃o,F.get? dx=some o:=by obtain⟨o,_,_,G,_⟩:=i.ns;exact⟨o,G⟩
 refine I.write (x:=a) (e:=dx) (by rw[e];exact True.intro) (.inr l) (λb q v z=>(sb.2 b v).trans z) hd ?_;refine⟨by rw[aO O.ne];exact l,?_,O.ne,i.obj,_,i.ns,λg=>?_,λg t=>?_⟩
 ·have:=mz f y fs;lia
 ·show jn ((gy f y fs).lookup g) (if g=f then some u else mA g);rw[mw];by_cases q:g=f
  ·rw[yIp q,yIp q];exact m
  ·rw[yIn q,yIn q];exact r g
 ·by_cases q:g=f
  ·rw[q];exact(lQ f y fs).1
  ·refine(lQ f y fs).2 g (j g λz=>t ?_);show(if g=f then some u else mA g)=none;rw[yIn q];exact z
theorem Inv.made(I:Inv X pins σ H s):Inv X pins σ (upd (upd H s.heap.objs.size (.own (s.heap.objs.size+1))) (s.heap.objs.size+1) (.ins C s.heap.objs.size []))
  {s with heap:=(s.heap.push zbn).push (zbY C s.heap.objs.size)}:=by
 have h:(s.heap.push zbn).get? s.heap.objs.size=some zbn:=zaK s.heap rfl;have m:((s.heap.push zbn).push (zbY C s.heap.objs.size)).get? (s.heap.objs.size+1)=some (zbY C s.heap.objs.size):=by
  have:=zaK (s.heap.push zbn) (o:=zbY C s.heap.objs.size) rfl
  rwa [zcg] at this
 have l:(s.heap.push zbn).Ns s.heap.objs.size (λ_=>none):=⟨zbn,#[],_,h,rfl,(λe j=>absurd j (by simp)),λ_=>rfl⟩
 have n:=I.laid (a:=s.heap.objs.size) (o:=.own (s.heap.objs.size+1)) (h':=s.heap.push zbn) (t':=s.toks) (λb u q=>zaq _ q) (zcI _) ⟨_,h⟩;refine n.laid (a:=s.heap.objs.size+1) (o:=.ins C s.heap.objs.size []) (t':=s.toks) (λb u q=>zaq _ q) (Nat.le_of_eq (zcg _ _)) ?_;have ne:s.heap.objs.size≠s.heap.objs.size+1:=zcv (Nat.lt_succ_self _);refine⟨by rw[aO ne,bF],zcJ _,ne,m,λ_=>none,(Heap.Ns1.of_empty l).at λo q=>zaq _ q,λ_=>True.intro,λy i=>absurd rfl i⟩
theorem JR{f:Str}{s:yah}(i:attributeBase e f env (eval e env)=eval e env)(h:yar (model prog w) A (eval e env) (λo a=>yar (model prog w) A (getAttr o f true) Q E a) E s):yar (model prog w) A (eval (.Attribute e f pos) env) Q E s:=
 Attribute_any_ h (by rw[arm_eval_Attribute,i])
end
def RA(K:yaI)(i:TE)(f:Str):TE:=λh H Q=>i h H λx e=>∃a C j fs v,x=.ref a/\e a=some (.ins C j fs)/\CO K C/\ff K C f/\fs.lookup f=some v/\Q v e
def RQ(K:yaI)(l j:TE)(f:Str):TS:=λD e H=>j e H λy m=>l e m λx i=>∃a C h fs,x=.ref a/\i a=some (.ins C h fs)/\CO K C/\ff K C f/\fs.length<1000/\
 D.nx e (upd i a (.ins C h (gy f y fs)))
section
variable {o:Expr}{f:Str}{tpos:Pos}{ta tv:TE}
theorem dw(y:PE X e ta)(E:attributeBase e f X.env (eval e X.env)=eval e X.env):PE X (.Attribute e f pos) (RA X.K ta f):=by
 intro i s m H Q I h;refine JR E (bQ (y i s m H _ I h) λu U j=>?_);obtain⟨x,O,L,t,a,C,W,fs,v,ex,F,c,n,l,q⟩:=j;subst ex;obtain rfl:u=Value.ref a:=t;exact yl L F c n l λP S G ru=>⟨v,O,G,ru,q⟩
theorem oj(O:PE X o ta)(G:PE X value tv)(L:yat value (some (.Attribute o f pos')) pos.line X.env=pure false):PS X (.Assign [.Attribute o f pos'] value pos) (RQ X.K ta tv f):=by
 intro e s i H D I h;refine plainObj_wpAny_Assign_Attribute (bQ (G e s i H _ I h) λu t m=>?_) L;obtain⟨y,W,U,v,q⟩:=m;refine bQ (O e t i W _ U q) λF Z j=>?_;obtain⟨x,H2,S,E,a,C,dx,fs,ex,P,c,n,l,q2⟩:=j;subst ex;obtain rfl:F=Value.ref a:=E;exact wX S P c n l v λY Q=>⟨i,_,Q,q2⟩
end
section
variable {σ:St}{c:yai}
inductive kI(K:yaI)(H:Hp):V->yai->Prop where
 |bB:kI K H .bB (.type "NoneType")
 |bl (x:Bool):kI K H (.bl x) (.type "bool")
 |int (i:Int):kI K H (.int i) (.type "int")
 |str (x:Str):kI K H (.str x) (.type "str")
 |Ny (x:UInt64):kI K H (.Ny x) (.type "float")
 |lst {a:Addr}{xs:List V} (e:H a=some (.lst xs)):kI K H (.ref a) (.type "list")
 |Ah {a:Addr}{o:Obj}{xs:List V} (e:H a=some (.Ah o (.lst xs))):kI K H (.ref a) (.type "list")
 |tup {a:Addr}{xs:List V} (e:H a=some (.tup xs)):kI K H (.ref a) (.type "tuple")
 |dK {a:Addr}{kvs:List (Key×V)} (e:H a=some (.dK kvs)):kI K H (.ref a) (.type "dict")
 |dT {a:Addr}{kvs:List (List Key×V)} (e:H a=some (.dT kvs)):kI K H (.ref a) (.type "dict")
 |ins {a C dx:Addr}{fs:List (Str×V)} (e:H a=some (.ins C dx fs)) (cl:CO K C) (ha:zcd K (.ref C) "__class__"=some (some (.builtin "object.__class__")))
   (hn:PySem.W.specialIn K (.builtin "object.__class__") "__get__"=some (some (.builtin "getset_descriptor.__get__"))) (htk:PySem.W.takesIn K (.builtin "object.__class__")=some true)
   (hm:PySem.W.mroIn K C (.type "object")=some true):kI K H (.ref a) (.ref C)
theorem B0{x:V}{t:yai}(I:Inv X pins σ H s)(j:RelV x u)(ty:kI X.K H x t)(e:PySem.W.kitOne X.K t c=some b)(h:∀tk,Q (.bool b) {s with toks:=tk}):
  yar (model X.prog X.w) A (call (.builtin "isinstance") [u,c]) Q E s:=by
 cases ty with
 |bB=>cases(show u=Value.none from j);exact zbZ PySem.W.kitx_none I.mH True.intro e (λz=>nomatch z) h
 |bl y=>cases(show u=Value.bool y from j);exact zbZ PySem.W.kitx_bool I.mH True.intro e (λz=>nomatch z) h
 |int i=>obtain⟨t,q⟩:=(show∃t,u=Value.int i t from j);cases q;exact zbZ PySem.W.kitx_int I.mH True.intro e (λz=>nomatch z) h
 |str y=>obtain⟨t,q⟩:=(show∃t,u=Value.str y t from j);cases q;exact zbZ PySem.W.kitx_str I.mH True.intro e (λz=>nomatch z) h
 |Ny y=>obtain⟨t,q⟩:=(show∃t,u=Value.float y t from j);cases q;exact zbZ PySem.W.kitx_float I.mH True.intro e (λz=>nomatch z) h
 |@lst a l ea=>
  cases(show u=Value.ref a from j);obtain⟨_,_,n,_,h1⟩:=(show bq X.prog X.w H s.heap a (.lst l) from I.hok a _ ea)
  exact zbZ PySem.W.kitx_list I.mH ⟨_,h1,rfl⟩ e (λz=>nomatch z) h
 |@Ah a ob l ea=>
  cases(show u=Value.ref a from j);obtain⟨_,_,_,n,_,h1⟩:=(show bq X.prog X.w H s.heap a (.Ah ob (.lst l)) from I.hok a _ ea)
  exact zbZ PySem.W.kitx_list I.mH ⟨_,h1,rfl⟩ e (λz=>nomatch z) h
 |@tup a l ea=>
  cases(show u=Value.ref a from j);obtain⟨_,_,_,p⟩:=(show bq X.prog X.w H s.heap a (.tup l) from I.hok a _ ea)
  obtain⟨o,h1,h2,_⟩:=p;exact zbZ PySem.W.kitx_tuple I.mH ⟨o,h1,h2⟩ e (λz=>nomatch z) h
 |@dK a kvs ea=>
  cases(show u=Value.ref a from j);obtain⟨_,_,vs,_,p⟩:=(show bq X.prog X.w H s.heap a (.dK kvs) from I.hok a _ ea)
  obtain⟨o,m,v,h1,h2,_⟩:=p;exact zbZ PySem.W.kitx_dict I.mH ⟨o,h1,h2.1⟩ e (λz=>nomatch z) h
 |@dT a kvs ea=>
  cases(show u=Value.ref a from j);obtain⟨_,_,l,_,o,m,v,h1,h2,_⟩:=(show bq X.prog X.w H s.heap a (.dT kvs) from I.hok a _ ea)
  exact zbZ PySem.W.kitx_dict I.mH ⟨o,h1,h2.1⟩ e (λz=>nomatch z) h
 |@ins a C dx fs ea cl ha hn htk hm=>
  cases(show u=Value.ref a from j);obtain⟨mA,O,_⟩:=ny I.hok ea;obtain⟨F,J,_⟩:=O.look;exact zbZ (PySem.W.kitx_own (cl.get _) cl.hd ha hn htk hm) I.mH J e (λz=>nomatch z) h
end
structure aX(k:Nat)(A:yal):Prop where
 hd:A.handled=none
 dp:A.depth+3*k+5<recursionLimit
 un:A.units+16*k+200<cLine
 gd:A.guards=some []
theorem aX.mono{k:Nat}(r:aX k A)(h:j<=k):aX j A:=⟨r.hd,by have:=r.dp;lia,by have:=r.un;lia,r.gd⟩
theorem aX.deeper{k:Nat}(r:aX (k+1) A)(env:Env):aX k (A.deeper env):=
 ⟨r.hd,by have:=r.dp;show A.depth+1+3*k+5<_;lia,by have:=r.un;show A.units+3+16*k+200<_;lia,r.gd⟩
theorem ye:(A.under (.builtin "type.__call__" ⟨.ref C::us,kw⟩)).depth=A.depth+1:=by
 first|rfl|simp[Around.under,Code.weight,Code.isCreation,Code.isGuard,Code.isCaller,Code.frames,Code.isFrame,guardIds]
theorem yd:(A.under (.builtin "type.__call__" ⟨.ref C::us,kw⟩)).units=A.units+1:=by
 first|rfl|simp[Around.under,Code.cUnits,Code.frames,Code.isFrame]
theorem aX.make{k:Nat}(r:aX (k+1) A)(C:Addr)(us:List yai)(a:List (Str×yai)):aX k (A.under (.builtin "type.__call__" ⟨.ref C::us,a⟩)):=
 ⟨r.hd,by have:=r.dp;rw[ye];lia,by have:=r.un;rw[yd];lia,r.gd⟩
theorem aX.depth{k:Nat}(r:aX k A):A.depth<recursionLimit:=by have:=r.dp;lia
theorem aX.units{k:Nat}(r:aX k A):A.units+64<cLine:=by have:=r.un;lia
def Hx:TA:=λ_ H Q=>Q [] H
def Dc(h:TE)(tr:TA):TA:=λa H Q=>h a H λx j=>tr a j λe i=>Q (x::e) i
section
variable {es:List Expr}{te:TE}{t:TA}
theorem ak:PA X [] Hx:=λ_ _ _ _ H Q I h=>zbp ⟨[],H,I,.nil,h⟩
theorem Iv(E:PE X e te)(C:PA X es t)(y:yao (e::es) X.env=(false,eval e X.env)::yao es X.env:=by rfl):PA X (e::es) (Dc te t):=by
 intro j a s l H Q I h;rw[y];show yar _ _ (spliced ((false,eval e X.env)::yau j (yao es X.env))) _ _ s;refine zaX (bQ (E a s l H _ I h) λu n i=>?_);obtain⟨x,O,G,q,v⟩:=i;refine bQ (C j a n l O _ G v) λP S i=>?_;obtain⟨m,L,F,o,q2⟩:=i;exact⟨x::m,L,F,.cons q o,q2⟩
def OQ(t:TA):TE:=λh H Q=>t h H λa e=>a.length<=yag/\∀p,e p=none->Q (.ref p) (upd e p (.tup a))
def OX(t:TA):TE:=λh H Q=>t h H λa e=>a.length<=yag/\∀p,e p=none->Q (.ref p) (upd e p (.lst a))
theorem aN{x1}(h:PA X es t):PE X (.Tuple es x1 pos) (OQ t):=by
 intro a s n H Q I x;refine wpAny_Tuple_spliced (bQ (h pos a s n H _ I x) λv i j=>?_);obtain⟨o,m,l,r,z,q⟩:=j;refine⟨by rw[<-r.length];exact z,?_⟩;have y:m i.heap.objs.size=none:=l.hok.fresh (zcI _);refine⟨.ref i.heap.objs.size,upd m i.heap.objs.size (.tup o),l.laid (t':=i.toks) (λb u e=>zaq _ e) (zcI _) ?_,rfl,q _ y⟩;exact⟨z,v,r,⟨_,zaK _ rfl,rfl,_,rfl⟩⟩
theorem aQ(h:PA X es t):PE X (.List es pos) (OX t):=by
 intro a s n H Q I x;refine wpAny_List_spliced (bQ (h pos a s n H _ I x) λv i j=>?_);obtain⟨o,m,l,r,z,q⟩:=j;refine⟨by rw[<-r.length];exact z,?_⟩;have y:m i.heap.objs.size=none:=l.hok.fresh (zcI _);refine⟨.ref i.heap.objs.size,upd m i.heap.objs.size (.lst o),l.laid (t':=i.toks) (λb u e=>zaq _ e) (zcI _) ?_,rfl,q _ y⟩;exact⟨z,v,0,r,zaK _ rfl⟩
end
abbrev Sp:=List V->Hp->VK->XK->Prop
abbrev G3:=List Env->Hp->yah->XK->yai->yah->Prop
structure yU(P:yaj)(w:yak)(K:yaI)(mg:Str->Option yai)(base:Heap)(A:yal)(outer:List Env)(s:yah)(H:Hp):Prop where
 frames:A.frames=some outer
 mod:Mod K mg base
 bs:∀b o,base.get? b=some o->s.heap.get? b=some o/\H b=none
 JP:base.objs.size<=s.heap.objs.size
 m6:s.heap.FunFrames base outer
 Nx:∀b∈frs outer,H b=none
 hok:jt P w H s.heap
 bare:AllBare s.gens
def CE(outer:List Env)(P:yaj)(w:yak)(H:Hp)(s:yah)(Q:VK)(u:yai)(s':yah):Prop:=
 ∃v a,s'.os=s.os/\AllBare s'.gens/\Un (frs outer) [] H a s.heap s'.heap/\jt P w a s'.heap/\RelV v u/\Q v a
def CR(CX:G3)(outer:List Env)(P:yaj)(w:yak)(H:Hp)(s:yah)(Q:VK)(E:XK)(r:Result)(s':yah):Prop:=
 match r with
 |.ok (.ret u)=>CE outer P w H s Q u s'
 |.ok _=>False
 |.error e=>CX outer H s E e s'
structure dX(P:yaj)(w:yak)(K:yaI)(mg:Str->Option yai)(base:Heap)(CX:G3)(k:Nat)(f:Addr)(fd:yap)(ps:List Str)(sp:Sp):Prop where
 len:∀vs H Q E,sp vs H Q E->vs.length=ps.length
 run:∀(A:yal)(outer:List Env)(s:yah)(H:Hp)(args:Args)(us:List yai)(vs:List V)(Q:VK)(E:XK),aX k A->yU P w K mg base A outer s H->yaA s fd args (ps.zip us)->Vals vs us->sp vs H Q E->
  codeAny (model P w) A (.call (.ref f) args) (CR CX outer P w H s Q E) s
theorem dX.imp{CX:G3}{k:Nat}{sp a:Sp}(F:dX P w K mg base CX k f fd ps sp)(h:∀vs H Q E,a vs H Q E->sp vs H Q E):dX P w K mg base CX k f fd ps a:=
 ⟨λvs H Q E q=>F.len vs H Q E (h _ _ _ _ q),λA outer s H e i vs Q E m n o j l=>F.run A outer s H e i vs Q E m n o j (h _ _ _ _ l)⟩
theorem yU.make{outer:List Env}(e:yU P w K mg base A outer s H)(C:Addr)(us:List yai)(a:List (Str×yai)):
  yU P w K mg base (A.under (.builtin "type.__call__" ⟨.ref C::us,a⟩)) outer s H:=⟨by first|exact e.frames|(simpa[Around.under,Code.envs,Code.isFrame,pushEnvs] using e.frames),e.mod,e.bs,e.JP,e.m6,e.Nx,e.hok,e.bare⟩
section
variable {σ:St}{s':yah}
theorem Inv.Qz(I:Inv X pins σ H s):yU X.prog X.w X.K X.mg X.base X.A X.stack s H:=
 ⟨I.ok.frames,I.ok.mod,I.bs,zcw I.ok.JP I.sz,I.stack,I.zc,I.hok,I.bare⟩
theorem Inv.after{Q:VK}(I:Inv X pins σ H s)(h:CE X.stack X.prog X.w H s Q u s'):EP X pins σ Q u s':=by
 obtain⟨v,i,os,bare,un,hok,r,q⟩:=h;obtain⟨e,g,d,t,a⟩:=s';obtain rfl:a=s.os:=os;exact⟨v,i,I.call (h':=e) (g':=g) (d':=d) (t':=t) (ch:=[]) un hok bare (λb z=>absurd z (by simp)),r,q⟩
end
def za(sp:Sp)(a:List V)(E:XK)(t:TA):TE:=λe H Q=>t e H λvs h=>sp (vs++a) h Q E
def Kh(C:Addr)(m:Str)(sp:Sp)(e:List V)(E:XK)(j:TE)(t:TA):TE:=λh H Q=>j h H λx i=>∃a l fs,x=.ref a/\i a=some (.ins C l fs)/\fs.lookup m=none/\
 t h i λvs n=>sp (x::(vs++e)) n Q E
def OW(C:Addr)(sp:Sp)(e:List V)(E:XK)(t:TA):TE:=λi H Q=>t i H λvs h=>∀x a,h x=none->h a=none->a≠x->
 sp (.ref x::(vs++e)) (upd (upd h a (.own x)) x (.ins C a [])) (λv j=>v=.bB/\Q (.ref x) j) E
def Binds(K:yaI)(fd:yap)(ps:List Str)(ds:List yai):Prop:=
 ∀(s:yah)(a:List yai),K.In s.heap->(a++ds).length=ps.length->yaA s fd ⟨a,[]⟩ (ps.zip (a++ds))
theorem Binds.all(h:∀us:List yai,us.length=ps.length->yaz fd ⟨us,[]⟩=pure (ps.zip us)):Binds K fd ps []:=λs us _ a=>by
 rw[zbK] at a⊢;exact .of_eq (h us a)
def Passes(CX:G3)(X:Cx)(E:XK):Prop:=∀(a:List (Addr×Obj))(i:St)(H:Hp)(s:yah)(e:yai)(h:yah),Inv X a i H s->CX X.stack H s E e h->X.xe e h
section
variable {CX:G3}{k:Nat}{sp:Sp}{dvs:List V}{ds:List yai}{E:XK}{m:Str}{o:Expr}{es:List Expr}{ta:TE}{t:TA}
theorem xK{i:St}{Q:VK}{vs:List V}(F:dX X.prog X.w X.K X.mg X.base CX k f fd ps sp)(q:aX k X.A)(x:Binds X.K fd ps ds)(hd:Vals dvs ds)(n:Passes CX X E)(I:Inv X pins i H s)(r:Vals vs us)(h:sp (vs++dvs) H Q E):yar (model X.prog X.w) X.A (call (.ref f) us) (EP X pins i Q) X.xe s:=by
 have j:Vals (vs++dvs) (us++ds):=r.append hd;have v:(us++ds).length=ps.length:=by rw[<-j.length];exact F.len _ _ _ _ h
 refine yaH (yax (F.run X.A X.stack s H ⟨us,[]⟩ (us++ds) (vs++dvs) Q E q I.Qz (x s us I.mH v) j h) λr l a=>?_);cases r with
 |error e=>exact n pins i H s e l I a
 |ok fl=>
  cases fl with
  |ret u=>exact I.after a
  |next=>exact False.elim a
  |brk=>exact False.elim a
  |cont=>exact False.elim a
theorem Iq(F:dX X.prog X.w X.K X.mg X.base CX k f fd ps sp)(y:aX k X.A)(L:Gl X x)(C:X.mg x=some (.ref f))(G:zce X.K (.ref f)=true)(P:Binds X.K fd ps ds)(hd:Vals dvs ds)(v:Passes CX X E)(S:PA X (e::es) t)(l:(x==("__debug__":Str))=false:=by decide)(O:yao (e::es) X.env=(false,eval e X.env)::yao es X.env:=by rfl)(j:(yau pos (yao es X.env)).any (·.1)=false:=by rfl):
  PE X (.Call (.Name x p) (e::es) [] pos) (za sp dvs E t):=by
 intro a s u H Q I h;refine wpAny_Call_Name_kw (nv I L C ?_ l);refine PySem.W.callWith_K (h₀:=X.base) I.ok.mod.Ro G (bQ (S pos a s u H _ I h) λU Y i=>?_) O j;obtain⟨vs,Z,n,r,q⟩:=i;refine⟨n.mH,?_⟩;exact xK F y P hd v n r q
theorem EJ(F:dX X.prog X.w X.K X.mg X.base CX k f fd ps sp)(j:aX k X.A)(q:Gl X x)(l:X.mg x=some (.ref f))(n:zce X.K (.ref f)=true)(u:Binds X.K fd ps ds)(hd:Vals dvs ds)(i:Passes CX X E)(a:(x==("__debug__":Str))=false:=by decide):PE X (.Call (.Name x p) [] [] pos) (za sp dvs E Hx):=by
 intro e s v H Q I h;refine wpAny_Call_Name_kw (nv I q l ?_ a);exact PySem.W.callWith_K0 I.mH n (xK (us:=[]) F j u hd i I .nil h)
theorem cS{pl:Sem Bool}(he:PE X o ta)(c:CO X.K C)(G:Meth X.K C m f)(F:dX X.prog X.w X.K X.mg X.base CX k f fd ps sp)(Z:aX k X.A)(hb:Binds X.K fd ps ds)(hd:Vals dvs ds)(U:Passes CX X E)(ha:PA X (e::es) t)(n:yao (e::es) X.env=(false,eval e X.env)::yao es X.env:=by rfl)(v:(yau pos (yao es X.env)).any (·.1)=false:=by rfl)(Y:eval (.Call (.Attribute o m apos) (e::es) [] pos) X.env=(do
   let ov <-eval o X.env
   standAt apos.atName
   let(f,first) <-holding [ov] (yaC ov m pl)
   callWith pos f first (yau pos (yao (e::es) X.env)) (yaE pos (yaD [] X.env))):=by rfl):
  PE X (.Call (.Attribute o m apos) (e::es) [] pos) (Kh C m sp dvs E ta t):=by
 intro i s y H Q I h;refine PySem.W.methodCall_KW (pl:=pl) (bQ (he i s y H _ I h) λu P j=>?_) Y;obtain⟨x,H1,O,S,a,dx,fs,ex,ea,l,q⟩:=j;subst ex;obtain rfl:u=Value.ref a:=S;refine yk O ea c G l ?_;refine PySem.W.callWith_K (first:=[.ref a]) (h₀:=X.base) I.ok.mod.Ro G.kp (bQ (ha pos i P y H1 _ O q) λus s2 j=>?_) n v;obtain⟨vs,H2,L,r,q2⟩:=j;refine⟨L.mH,?_⟩;exact xK (us:=.ref a::us) (vs:=.ref a::vs) F Z hb hd U L (.cons rfl r) q2
structure Mk(K:yaI)(C f:Addr):Prop where
 makes:PySem.W.makesIn K C=true
 init:zcd K (.ref C) "__init__"=some (some (.ref f))
 fn:zcC K (.ref f)=true
 kp:zce K (.ref C)=true
theorem Ec{l:St}{Q:VK}{vs:List V}(M:Mk X.K C f)(F:dX X.prog X.w X.K X.mg X.base CX k f fd ps sp)(O:aX (k+1) X.A)(S:Binds X.K fd ps ds)(hd:Vals dvs ds)(L:Passes CX X E)(I:Inv X pins l H s)(r:Vals vs us)(h:∀x i,H x=none->H i=none->i≠x->sp (.ref x::(vs++dvs)) (upd (upd H i (.own x)) x (.ins C i [])) (λv Y=>v=.bB/\Q (.ref x) Y) E):
  yar (model X.prog X.w) X.A (call (.ref C) us) (EP X pins l Q) X.xe s:=by
 have q:=h (s.heap.objs.size+1) s.heap.objs.size (I.hok.fresh (zcK _)) (I.hok.fresh (zcI _)) (zcv (Nat.lt_succ_self _));have j:=Inv.made (C:=C) I;have n:Vals (V.ref (s.heap.objs.size+1)::(vs++dvs)) (Value.ref (s.heap.objs.size+1)::(us++ds)):=.cons rfl (r.append hd);have P:(Value.ref (s.heap.objs.size+1)::us++ds).length=ps.length:=by
  have e:=n.length;rw[F.len _ _ _ _ q] at e;exact e.symm
 refine yaH (E1 (f:=f) I.mH M.makes M.init (beq_iff_eq.mp M.fn) (yax (F.run _ X.stack _ _ ⟨Value.ref (s.heap.objs.size+1)::us,[]⟩ (Value.ref (s.heap.objs.size+1)::(us++ds)) _ _ E (O.make C us []) (j.Qz.make C us []) (S _ (Value.ref (s.heap.objs.size+1)::us) j.mH P) n q) λr y a=>?_));cases r with
 |error e=>exact L pins l _ _ e y j a
 |ok fl=>
  cases fl with
  |ret u=>
   obtain⟨v,Z,W,G,U,q3⟩:=j.after a;subst U;exact⟨G,⟨V.ref (s.heap.objs.size+1),Z,W,rfl,q3⟩⟩
  |next=>exact False.elim a
  |brk=>exact False.elim a
  |cont=>exact False.elim a
theorem oA(M:Mk X.K C f)(F:dX X.prog X.w X.K X.mg X.base CX k f fd ps sp)(j:aX (k+1) X.A)(n:Gl X x)(l:X.mg x=some (.ref C))(q:Binds X.K fd ps ds)(hd:Vals dvs ds)(i:Passes CX X E)(a:(x==("__debug__":Str))=false:=by decide):PE X (.Call (.Name x p) [] [] pos) (OW C sp dvs E Hx):=by
 intro e s u H Q I h;refine wpAny_Call_Name_kw (nv I n l ?_ a);exact PySem.W.callWith_K0 I.mH M.kp (Ec (us:=[]) M F j q hd i I .nil h)
end
structure aA(N P:List Str)(sc:Scope):Prop where
 kind:sc.kind=.function
 co:sc.isCoroutine=false
 gen:sc.isGenerator=false
 nd:N.Nodup
 pre:N.take P.length=P
 par:∀x∈P,sc.names.lookup x=some .local∨sc.names.lookup x=some .cell
 MU:∀y∈sc.names,y.2≠ .free
theorem qZ{a:Str->Option NameKind}{x:Str}:∀{binds:List (Str×yai)}{m:Str->Option yai},(∀v,(x,v) ∉ binds)->bindL a binds m x=m x
 |[],_,_=>rfl
 |(n,v)::r,m,h=>by
  unfold bindL;rw[qZ λw hw=>h w (zay _ hw)];split
  ·have:x≠n:=by rintro rfl;exact h v zaL
   simp[this]
  ·rfl
theorem rg{a:Str->Option NameKind}{x:Str}:∀{binds:List (Str×yai)}{m:Str->Option yai},(∀v,(x,v) ∉ binds)->bindC a binds m x=m x
 |[],_,_=>rfl
 |(n,v)::r,m,h=>by
  unfold bindC;rw[rg λw hw=>h w (zay _ hw)];split
  ·rfl
  ·have:x≠n:=by rintro rfl;exact h v zaL
   simp[this]
theorem q9{a:Str->Option NameKind}{x:Str}{v:yai}:∀{P:List Str}{vs:List yai}{i:Nat}{m:Str->Option yai},P.Nodup->P[i]? =some x->vs[i]? =some v->a x=some .local->
  bindL a (P.zip vs) m x=some v
 |[],_,_,_,_,h,_,_=>by simp at h
 |_::_,[],_,_,_,_,h,_=>by simp at h
 |p::P,w::vs,0,m,nd,h1,h2,hk=>by
  simp at h1 h2;subst h1;subst h2;show bindL a ((p,w)::P.zip vs) m p=_;unfold bindL;rw[qZ λv e=>(zbL.mp nd).1 (zbM e).1,yIp hk];simp
 |p::P,w::vs,i+1,m,nd,h1,h2,hk=>by
  show bindL a ((p,w)::P.zip vs) m x=_;unfold bindL;exact q9 (i:=i) (zbL.mp nd).2 (by simpa using h1) (by simpa using h2) hk
theorem rj{a:Str->Option NameKind}{x:Str}{v:yai}:∀{P:List Str}{vs:List yai}{i:Nat}{m:Str->Option yai},P.Nodup->P[i]? =some x->vs[i]? =some v->a x≠some .local->
  bindC a (P.zip vs) m x=some v
 |[],_,_,_,_,h,_,_=>by simp at h
 |_::_,[],_,_,_,_,h,_=>by simp at h
 |p::P,w::vs,0,m,nd,h1,h2,hk=>by
  simp at h1 h2;subst h1;subst h2;show bindC a ((p,w)::P.zip vs) m p=_;unfold bindC;rw[rg λv e=>(zbL.mp nd).1 (zbM e).1,yIn hk];simp
 |p::P,w::vs,i+1,m,nd,h1,h2,hk=>by
  show bindC a ((p,w)::P.zip vs) m x=_;unfold bindC;exact rj (i:=i) (zbL.mp nd).2 (by simpa using h1) (by simpa using h2) hk
noncomputable def start(N:List Str)(vs:List V):St:=vs.map some++zcb (N.length - vs.length) none
noncomputable def lV(CX:G3)(P:yaj)(w:yak)(K:yaI)(mg:Str->Option yai)(base:Heap)(N:List Str)(a:Str)(scope:Scope)(f:Addr)(i:yai)(A:yal)(outer:List Env)(s:yah)(H:Hp)(E:XK):Cx where
 prog:=P
 w:=w
 K:=K
 mg:=mg
 base:=base
 A:=A.deeper (envOfC a scope s.heap.objs.size f i)
 N:=N
 s₀:=s
 H₀:=H
 env:=envOfC a scope s.heap.objs.size f i
 outer:=outer
 stack:=envOfC a scope s.heap.objs.size f i::outer
 ex:=[]
 calm:=true
 fn:=λ_=>true
 pn:=[]
 xe:=λe j=>yar (model P w) (A.deeper (envOfC a scope s.heap.objs.size f i)) (leaving (envOfC a scope s.heap.objs.size f i) e) (λ_ h=>CX outer H s E e h) (λl h=>CX outer H s E l h) j
theorem vI{a:Scope}(h:a.names.lookup x=some .cell):∃c,(cellsFrom n a.names []).lookup x=some c:=by
 have q:=PySem.W.cellsFrom_some a.names n [] (.inl h);exact Option.isSome_iff_exists.mp q
theorem B3{CX:G3}{F:yai}{outer:List Env}{s1:yah}{E:XK}{vs:List V}(S:aA N ps scope)(hd:A.handled=none)(j:yU P w K mg base A outer s H)(U:vs.length=ps.length)(r:Vals vs us)(x:InCallC s s.heap.objs.size (bindL (envOfC qual scope s.heap.objs.size f F).kindOf (ps.zip us) λ_=>none) (cellsFrom (s.heap.objs.size+1) scope.names []) (bindC (envOfC qual scope s.heap.objs.size f F).kindOf (ps.zip us) λ_=>none) s1):
  Inv (lV CX P w K mg base N qual scope f F A outer s H E) [] (start N vs) H s1:=by
 have O:ps.length<=N.length:=by have:=congrArg zcH S.pre;rw[zbr] at this;lia
 obtain⟨h1,tk,rfl,I⟩:=x.done;have l:∀b:Addr,b ∉ (lV CX P w K mg base N qual scope f F A outer s H E).ex:=λb z=>absurd (show b∈([]:List Addr) from z) (by simp);refine⟨⟨j.mod,S.kind,rfl,rfl,zcI _,λy z c h1 h2=>?_,λy m=>?_,λy c _ h=>?_,λ_=>hd,Around.frames_deeper j.frames,.inr ⟨rfl,rfl⟩,λb z=>absurd z (l b),j.bs,j.JP,λb _ _=>l b,λb z=>absurd z (l b),j.m6,j.Nx⟩,rfl,j.bare,Un.kept I,⟨_,x.toInCall.ns,λi y v h1 h2 W=>?_⟩,λy c h=>⟨_,x.cell y c h⟩,j.hok.fresh (zcI _),λy c h=>?_,λp t=>absurd (show p∈([]:List (Addr×Obj)) from t) (by simp),j.hok.kept I,?_⟩
 ·exact name_of_addr x.apart (PySem.mem_of_lookup h1) (PySem.mem_of_lookup h2)
 ·have m:scope.names.lookup y=some .cell∨scope.names.lookup y=some .free:=m;rcases m with m|m
  ·exact vI m
  ·exact absurd rfl (S.MU _ (PySem.mem_of_lookup m))
 ·exact zcx (x.above y c (PySem.mem_of_lookup h))
 ·have C:i<vs.length:=by
   unfold start at h2;by_cases C:i<vs.length
   ·exact C
   ·rw[zab (by simpa using C)] at h2;rw[List.getElem?_replicate] at h2;split at h2<;>cases h2
  have Q:vs[i]? =some v:=by
   unfold start at h2;rw[zae (by simpa using C),zba] at h2;cases e:vs[i]? with
   |none=>rw[e] at h2;cases h2
   |some a=>rw[e] at h2;cases h2;rfl
  obtain⟨u,G,L⟩:=r.get Q;have t:ps[i]? =some y:=by
   rw[<-S.pre,List.getElem?_take_of_lt (by lia)];exact h1
  have o:ps.Nodup:=by rw[<-S.pre];exact S.nd.sublist (List.take_sublist _ _)
  refine⟨u,L,?_⟩;rcases S.par y (zaB t) with k|k
  ·exact .inl ⟨k,q9 o t G k⟩
  ·obtain⟨c,e⟩:=vI (n:=s.heap.objs.size+1) k;refine .inr ⟨.inl k,c,e,?_⟩;have q:=x.cell y c e;rw[rj o t G (by show scope.names.lookup y≠_;rw[k];decide)] at q;exact q
 ·exact j.hok.fresh (zcx (x.above y c (PySem.mem_of_lookup h)))
 ·unfold start;show _=N.length;rw[zaM,zbJ,List.length_replicate];lia
theorem Qx{CX:G3}{k:Nat}{h:Arguments}{dV kV L pm a ct oc:yai}{an od:Option Addr}{sp:Sp}(lk:K.lookup f=some ⟨oc,od,.func (zcD name qual h body scope dV kV L pm an a ct),osl⟩)(Z:zcf K a qual=true)(S:aA N ps scope)(len:∀vs H Q E,sp vs H Q E->vs.length=ps.length)(l:∀(A:yal)(outer:List Env)(s:yah)(H:Hp)(vs:List V)(Q:VK)(E:XK),aX k (A.deeper (envOfC qual scope s.heap.objs.size f a))->sp vs H Q E->∃t,vX (lV CX P w K mg base N qual scope f a A outer s H E) body t/\t {nx:=λ_ H'=>Q .bB H',rt:=Q} (start N vs) H):
  dX P w K mg base CX (k+1) f (zcD name qual h body scope dV kV L pm an a ct) ps sp:=by
 refine⟨len,λA outer s H ab us vs Q E Y G hb r C=>?_⟩;have hl:=len _ _ _ _ C;have KX:K.In s.heap:=G.mod.Ro.keeps λb o e=>(G.bs b o e).1;have X:s.heap.NoLimit:=G.mod.nolimit.keeps λb o e=>(G.bs b o e).1;have j:∀y∈ps.zip us,scope.names.lookup y.1=some .local∨(scope.names.lookup y.1=some .cell/\((cellsFrom (s.heap.objs.size+1) scope.names []).lookup y.1).isSome=true):=λ⟨n,v⟩ hy=>by
  rcases S.par n (zbM hy).1 with q|q
  ·exact .inl q
  ·exact .inr ⟨q,PySem.W.cellsFrom_some _ _ _ (.inl q)⟩
 refine codeAny_call_function Y.depth (KX _ _ lk) rfl S.co S.gen rfl (PySem.W.codeRec_of KX Z) (hb _ _ _ _ ?_);refine wpAny_newFunctionEnv_cells S.kind j λenv he s1 x=>?_;subst he;refine⟨X.keeps x.toInCall.keep,codeAny_func ?_⟩;obtain⟨t,ht,hq⟩:=l A outer s H vs Q E (Y.deeper _) C;have I:Inv (lV CX P w K mg base N qual scope f a A outer s H E) [] (start N vs) H s1:=B3 S Y.hd G hl r x;refine yac (ht [] s1 (start N vs) H _ I hq) (λfl O m=>?_) λe O m=>m;have F:∀{i:St}{H':Hp}{v:V}{u:yai},Inv (lV CX P w K mg base N qual scope f a A outer s H E) [] i H' O->RelV v u->Q v H'->CE outer P w H s Q u O:=
  λ{i H' v u} J U q=>⟨v,H',J.os,J.bare,J.base,J.hok,U,q⟩
 cases fl with
 |ret u=>
  obtain⟨v,i,H',J,U,q⟩:=m;exact F J U q
 |next=>
  obtain⟨i,H',J,q⟩:=m;exact F (v:=V.bB) (u:=Value.none) J rfl q
 |brk=>
  obtain⟨_,_,_,q⟩:=m;exact False.elim q
 |cont=>
  obtain⟨_,_,_,q⟩:=m;exact False.elim q
section
variable {es:List Expr}{t:TA}{id T:String}{r:List V->Hp->VK->Prop}
def O1(r:List V->Hp->VK->Prop)(t:TA):TE:=λa H Q=>t a H λvs e=>r vs e Q
theorem EI(G:b7 X (.builtin id) r)(E:Gl X x)(C:X.mg x=none)(v:bootBuiltins x=some (.builtin id))(L:PA X (e::es) t)(y:x≠"__name__":=by decide)(l:(x==("__debug__":Str))=false:=by decide)(F:yao (e::es) X.env=(false,eval e X.env)::yao es X.env:=by rfl)(j:(yau pos (yao es X.env)).any (·.1)=false:=by rfl):PE X (.Call (.Name x p) (e::es) [] pos) (O1 r t):=by
 intro a s m H Q I h;refine wpAny_Call_Name_kw (cH I E C v ?_ y l);refine PyProof.Rows.callWith_builtin1 (bQ (L pos a s m H _ I h) λn o i=>?_) F j;obtain⟨vs,P,O,q,u⟩:=i;exact G a o m P vs n Q O q u
theorem BA(F:b7 X (.type T) r)(C:Gl X x)(y:X.mg x=none)(u:bootBuiltins x=some (.type T))(G:PA X (e::es) t)(v:x≠"__name__":=by decide)(j:(x==("__debug__":Str))=false:=by decide)(E:yao (e::es) X.env=(false,eval e X.env)::yao es X.env:=by rfl)(i:(yau pos (yao es X.env)).any (·.1)=false:=by rfl):PE X (.Call (.Name x p) (e::es) [] pos) (O1 r t):=by
 intro a s l H Q I h;refine wpAny_Call_Name_kw (cH I C y u ?_ v j);exact PyProof.Rows.callWith_type1 (bQ (G pos a s l H _ I h) λm n ⟨vs,O,L,o,q⟩=>F a n l O vs m Q L o q) E i
end
section
variable {κ:Type}[DecidableEq κ]
noncomputable def ir(kvs:List (κ×V))(k:κ):Option V:=(kvs.find? λa=>decide (a.1=k)).map (·.2)
noncomputable def putK(kvs:List (κ×V))(k:κ)(v:V):List (κ×V):=
 if(kvs.any λa=>decide (a.1=k))=true then kvs.map (λa=>if a.1=k then(a.1,v) else a) else kvs++[(k,v)]
theorem nK{p:κ×V}{r:List (κ×V)}{k:κ}(e:p.1=k):ir (p::r) k=some p.2:=by simp[ir,zbN,e]
theorem nM{p:κ×V}{r:List (κ×V)}{k:κ}(e:¬p.1=k):ir (p::r) k=ir r k:=by simp[ir,zbN,e]
theorem nN(k:κ):∀kvs:List (κ×V),(kvs.any λa=>decide (a.1=k))=(ir kvs k).isSome
 |[]=>rfl
 |p::r=>by
  rw[zcj];by_cases e:p.1=k
  ·simp only[nK e,yDt e,Bool.true_or,Option.isSome_some]
  ·rw[nM e,yDf e,Bool.false_or];exact nN k r
theorem iG(kvs:List (κ×V))(k:κ)(v:V):(putK kvs k v).length<=kvs.length+1:=by
 unfold putK;split
 ·rw[zbJ];lia
 ·rw[zaM,zbq,zbO];lia
theorem jn.fZ{o:Option V}{u:Option yai}(r:jn o u):o.isSome=u.isSome:=by
 cases o with
 |none=>cases u with
  |none=>rfl
  |some _=>exact(show False from r).elim
 |some _=>cases u with
  |none=>exact(show False from r).elim
  |some _=>rfl
theorem KV.val{kvs:List (κ×V)}{vs:List (κ×yai)}(r:KV kvs vs)(k:κ):jn (ir kvs k) (valueAt vs k):=by
 unfold KV at r
 induction r with
 |nil=>exact True.intro
 |@cons p q ps qs h t ih=>
  obtain⟨h1,h2⟩:=h;by_cases e:p.1=k
  ·have a:q.1=k:=h1.symm.trans e;have b:valueAt (q::qs) k=some q.2:=by simp[valueAt,zbN,a]
   rw[nK e,b];exact h2
  ·have a:¬q.1=k:=λz=>e (h1.trans z);have b:valueAt (q::qs) k=valueAt qs k:=by simp[valueAt,zbN,a]
   rw[nM e,b];exact ih
theorem KV.any{kvs:List (κ×V)}{vs:List (κ×yai)}(r:KV kvs vs)(k:κ):(kvs.any λa=>decide (a.1=k))=vs.any λa=>decide (a.1=k):=by
 unfold KV at r
 induction r with
 |nil=>rfl
 |cons h t ih=>rw[zcj,zcj,ih,h.1]
theorem KV.repl{kvs:List (κ×V)}{vs:List (κ×yai)}(r:KV kvs vs)(k:κ)(i:RelV y u):
  KV (kvs.map λa=>if a.1=k then(a.1,y) else a) (vs.map λa=>if a.1=k then(a.1,u) else a):=by
 unfold KV at r⊢
 induction r with
 |nil=>exact .nil
 |@cons p q ps qs h t ih=>
  rw[zci,zci];refine .cons ?_ ih;obtain⟨h1,h2⟩:=h;by_cases e:p.1=k
  ·rw[yIp e,yIp (h1.symm.trans e)];exact⟨h1,i⟩
  ·rw[yIn e,yIn (λz=>e (h1.trans z))];exact⟨h1,h2⟩
theorem KV.put{kvs:List (κ×V)}{vs:List (κ×yai)}(r:KV kvs vs)(k:κ)(a:RelV y u):KV (putK kvs k y) (stored vs k u):=by
 unfold putK stored;rw[r.any k];by_cases e:(vs.any λh=>decide (h.1=k))=true
 ·rw[yIp e,yIp e];exact r.repl k a
 ·rw[yIn e,yIn e];exact Paired.snoc r ⟨rfl,a⟩
theorem KV.length{kvs:List (κ×V)}{vs:List (κ×yai)}(r:KV kvs vs):kvs.length=vs.length:=Paired.length r
end
theorem qM{k:Key}(r:RelV (kV k) u):(bN P w).is k u=true:=by
 cases k with
 |inl i=>obtain⟨t,e⟩:=(show∃t,u=Value.int i t from r);subst e;exact uQ P w i t
 |inr x=>obtain⟨t,e⟩:=(show∃t,u=Value.str x t from r);subst e;exact uP P w x t
theorem qN{P:yaj}{w:yak}:∀{ks:List Key}{us:List yai},Vals (ks.map kV) us->ItemsAre (bN P w) ks us
 |[],_,r=>by rw[zcr] at r;cases r;exact .nil
 |k::ks,_,r=>by
  rw[zci] at r;cases r with
  |cons h t=>exact .cons (qM h) (qN t)
abbrev KT(H:Hp):List (List Key×V)->List (List Key×Addr×yai)->Prop:=Paired λp q=>p.1=q.1/\H q.2.1=some (.tup (p.1.map kV))/\RelV p.2 q.2.2
theorem KT.val{i:List (List Key×Addr×yai)}(r:KT H kvs i)(k:List Key):jn (ir kvs k) ((atKey i k).map (·.2)):=by
 induction r with
 |nil=>exact True.intro
 |@cons p q ps qs h t ih=>
  obtain⟨h1,_,h2⟩:=h;by_cases e:p.1=k
  ·have a:q.1=k:=h1.symm.trans e;have b:atKey (q::qs) k=some q.2:=by simp[atKey,zbN,a]
   rw[nK e,b];exact h2
  ·have a:¬q.1=k:=λz=>e (h1.trans z);have b:atKey (q::qs) k=atKey qs k:=by simp[atKey,zbN,a]
   rw[nM e,b];exact ih
theorem KT.repl{i:List (List Key×Addr×yai)}(r:KT H kvs i)(k:List Key)(j:RelV y u):
  KT H (kvs.map λa=>if a.1=k then(a.1,y) else a) (i.map (putAt k u)):=by
 induction r with
 |nil=>exact .nil
 |@cons p q ps qs h t ih=>
  rw[zci,zci];refine .cons ?_ ih;obtain⟨h1,h2,l⟩:=h;unfold putAt;by_cases e:p.1=k
  ·rw[yIp e,yIp (h1.symm.trans e)];exact⟨h1,h2,j⟩
  ·rw[yIn e,yIn (λz=>e (h1.trans z))];exact⟨h1,h2,l⟩
theorem KT.put{a:List (List Key×Addr×yai)}(r:KT H kvs a)(k:List Key){b:Addr}(j:H b=some (.tup (k.map kV)))(h:RelV y u):
  KT H (putK kvs k y) (storedH a k b u):=by
 have e:(kvs.any λi=>decide (i.1=k))=(atKey a k).isSome:=by
  rw[nN,(r.val k).fZ,zbo]
 unfold putK storedH;rw[e];by_cases q:(atKey a k).isSome=true
 ·rw[yIp q,yIp q];exact r.repl k h
 ·rw[yIn q,yIn q];exact Paired.snoc r ⟨rfl,j,h⟩
theorem KT.keeps{a:List (List Key×Addr×yai)}(r:KT H kvs a)(e:∀b ys,H b=some (.tup ys)->H' b=some (.tup ys)):KT H' kvs a:=
 Paired.Qc r λ_ _ z=>⟨z.1,e _ _ z.2.1,z.2.2⟩
theorem KH{u:HO}(ok:jt P w H h)(e:Rd H a u):bq P w H h a u:=e.ok ok
theorem qQ{kvs:List (Key×V)}(ok:jt P w H h)(e:Rd H a (.dK kvs)):kvs.length<=yag/\(a==yas)=false/\∃vs,KV kvs vs/\h.DictOf (bN P w) a vs:=
 show bq P w H h a (.dK kvs) from KH ok e
theorem K3{kvs:List (Key×V)}(ok:jt P w H h)(e:H a=some (.dK kvs)):kvs.length<=yag/\(a==yas)=false/\∃vs,KV kvs vs/\h.DictOf (bN P w) a vs:=qQ ok (.inl e)
theorem oV{ks:List Key}(ok:jt P w H h)(e:H a=some (.tup (ks.map kV))):(tupleKind (bN P w)).is h ks a:=by
 obtain⟨_,i,r,o,h1,h2,n,j⟩:=(show bq P w H h a (.tup (ks.map kV)) from ok a _ e)
 exact⟨o,i.toArray,n,h1,h2,j,by simpa using qN r⟩
theorem vm(ok:jt P w H h)(e:Rd H a (.dT kvs)):kvs.length<=yag/\(a==yas)=false/\
  ∃j,KT H kvs j/\h.DictOfH (tupleKind (bN P w)) a j:=by
 obtain⟨z,y,j,r,o,v,C,h1,h2,u,s,n⟩:=(show bq P w H h a (.dT kvs) from KH ok e)
 refine⟨z,y,j,r,o,v,C,h1,h2,u,s,λx i=>?_,n⟩;have all:∀{l:List (List Key×V)}{m:List (List Key×Addr×yai)},KT H l m->∀x∈m,(tupleKind (bN P w)).is h x.1 x.2.1:=by
  intro l m q
  induction q with
  |nil=>intro x i;exact nomatch i
  |@cons p q ps qs hq t ih=>
   intro x i;rcases zch.mp i with e|i
   ·subst e;exact oV ok (by rw[<-hq.1];exact hq.2.1)
   ·exact ih x i
 exact all r x i
theorem QA(ok:jt P w H h)(e:H a=some (.dT kvs)):kvs.length<=yag/\(a==yas)=false/\
  ∃i,KT H kvs i/\h.DictOfH (tupleKind (bN P w)) a i:=vm ok (.inl e)
def qh(H:Hp)(a:Addr)(y:V)(r:Option V):Prop:=
 (∃e k,Rd H a (.dK e)/\y=kV k/\r=ir e k)∨∃e k b,Rd H a (.dT e)/\y=.ref b/\H b=some (.tup (k.map kV))/\r=ir e k
def G2(H:Hp)(a:Addr)(y v:V)(H':Hp):Prop:=
 (∃e k,H a=some (.dK e)/\y=kV k/\e.length<yag/\H'=upd H a (.dK (putK e k v)))∨
 ∃e k b,H a=some (.dT e)/\y=.ref b/\H b=some (.tup (k.map kV))/\e.length<yag/\H'=upd H a (.dT (putK e k v))
theorem qh.k{H:Hp}{a:Addr}{kvs:List (Key×V)}{k:Key}(e:H a=some (.dK kvs)):qh H a (kV k) (ir kvs k):=.inl ⟨kvs,k,.inl e,rfl,rfl⟩
theorem G2.k{H:Hp}{a:Addr}{kvs:List (Key×V)}{k:Key}{v:V}(e:H a=some (.dK kvs))(h:kvs.length<yag):G2 H a (kV k) v (upd H a (.dK (putK kvs k v))):=.inl ⟨kvs,k,e,rfl,h,rfl⟩
section
variable {σ:St}{r:yai}{o:Option V}
theorem Inv.big(I:Inv X pins σ H s):yas<s.heap.objs.size:=by
 have h:yaq<s.heap.objs.size:=(I.mod.glob.keeps I.bk).lt;exact zcz (by decide) h
theorem Cb(G:A.units+1<cLine)(I:Inv X pins σ H s)(g:qh H a y (some v))(C:RelV y u)(h:∀m s',Inv X pins σ H s'->RelV v m->Q m s'):
  yar (model X.prog X.w) A (getItem (.ref a) u) Q E s:=by
 rcases g with⟨n,k,e,t,l⟩|⟨n,k,b,e,t,O,l⟩
 ·subst t;obtain⟨z,hd,vs,j,x⟩:=qQ I.hok e;obtain⟨m,hw,i⟩:=jn.some_of (v:=v) (o:=valueAt vs k) (by rw[l];exact j.val k);exact wpAny_getItem_of (qM C) x.mapOf hw (h m _ (I.tok _) i)
 ·subst t;cases(show u=Value.ref b from C);obtain⟨z,hd,F,j,x⟩:=vm I.hok e;obtain⟨m,hw,i⟩:=jn.some_of (v:=v) (o:=(atKey F k).map (·.2)) (by rw[l];exact j.val k);obtain⟨p,L,q⟩:=Option.map_eq_some_iff.mp hw;refine wpAny_getItem_heap (tupleKind_room_in1 G) (oV I.hok O) x L ?_;rw[q];exact h m _ (I.tok _) i
theorem Sm(v:A.units+1<cLine)(I:Inv X pins σ H s)(g:qh H a y o)(t:RelV y u)(h:∀s',Inv X pins σ H s'->Q (.bool o.isSome) s'):
  yar (model X.prog X.w) A (yan .In u (.ref a)) Q E s:=by
 rcases g with⟨j,k,e,m,l⟩|⟨j,k,b,e,m,x,l⟩
 ·subst m;obtain⟨z,hd,vs,i,n⟩:=qQ I.hok e;refine wpAny_in_of (qM t) hd n.mapOf ?_;rw[<-(i.val k).fZ,<-l];exact h _ (I.tok _)
 ·subst m;cases(show u=Value.ref b from t);obtain⟨z,hd,C,i,n⟩:=vm I.hok e;refine wpAny_in_heap (tupleKind_room_in1 v) (oV I.hok x) hd n ?_;have q:=(i.val k).fZ;rw[zbo] at q;rw[<-q,<-l];exact h _ (I.tok _)
theorem Jt(v:A.units+1<cLine)(I:Inv X pins σ H s)(g:qh H a y o)(t:RelV y u)(h:∀s',Inv X pins σ H s'->Q (.bool (!o.isSome)) s'):
  yar (model X.prog X.w) A (yan .NotIn u (.ref a)) Q E s:=by
 rcases g with⟨j,k,e,m,l⟩|⟨j,k,b,e,m,x,l⟩
 ·subst m;obtain⟨z,hd,vs,i,n⟩:=qQ I.hok e;refine wpAny_notIn_of (qM t) hd n.mapOf ?_;rw[<-(i.val k).fZ,<-l];exact h _ (I.tok _)
 ·subst m;cases(show u=Value.ref b from t);obtain⟨z,hd,C,i,n⟩:=vm I.hok e;refine wpAny_notIn_heap (tupleKind_room_in1 v) (oV I.hok x) hd n ?_;have q:=(i.val k).fZ;rw[zbo] at q;rw[<-q,<-l];exact h _ (I.tok _)
theorem sX{ob:HO}(I:Inv X pins σ H s)(h:Q4 (H a))(i:Heap.SameBut a s.heap h')(j:∃q,h'.get? a=some q)(new:bq X.prog X.w (upd H a ob) h' a ob):
  Inv X pins σ (upd H a ob) {s with heap:=h',toks:=t'}:=
 I.write (x:=a) (e:=a) h (.inl rfl) (λb q l z=>(i.2 b l).trans z) j new
theorem Nz{kvs:List (Key×V)}{vs:List (Key×yai)}(z:kvs.length<=yag)(hd:(a==yas)=false)(e:KV kvs vs)(dd:h'.DictOf (bN P w) a vs):
  bq P w H' h' a (.dK kvs):=⟨z,hd,vs,e,dd⟩
theorem Ca{Q:Unit->yah->Prop}(Y:A.units+1<cLine)(I:Inv X pins σ H s)(g:G2 H a y v H')(L:RelV y u)(O:RelV v r)(h:∀s',Inv X pins σ H' s'->Q () s'):
  yar (model X.prog X.w) A (setItem (.ref a) u r) Q E s:=by
 rcases g with⟨j,k,e,C,l,F⟩|⟨j,k,b,e,C,U,l,F⟩
 ·subst C F;obtain⟨z,hd,vs,i,G⟩:=K3 I.hok e;have hz:vs.length<=yag:=by rw[<-i.length];exact z
  have x:(putK j k v).length<=yag:=by have:=iG j k v;lia
  refine wpAny_setItem_pairs (hsz:=hz) (qM L) G λP m t=>h _ ?_;have Z:∃q,P.get? a=some q:=by obtain⟨q,_,_,n,_⟩:=m;exact⟨q,n⟩
  exact sX I (by rw[e];exact True.intro) t Z (Nz x hd (i.put k O) m)
 ·subst C F;cases(show u=Value.ref b from L);obtain⟨z,hd,W,i,G⟩:=QA I.hok e;have hz:W.length<=yag:=by rw[<-Paired.length i];exact z
  have x:(putK j k v).length<=yag:=by have:=iG j k v;lia
  refine wpAny_setItem_heap (hsz:=hz) (tupleKind_room_in1 Y) (oV I.hok U) G λP m t=>h _ ?_;obtain⟨q,es,ep,n,h2,h3,h4,_,h5⟩:=m;refine sX I (by rw[e];exact True.intro) t ⟨q,n⟩ ⟨x,hd,_,(i.put k U O).keeps λc ys S=>?_,q,es,ep,n,h2,h3,h4,h5⟩;rw[aO (P9 S e (λz=>nomatch z))];exact S
end
section
variable {σ:St}{kvs:List (Key×V)}{k:Key}
theorem QC(I:Inv X pins σ H s)(e:Rd H a (.dK kvs))(h:∀t s',Inv X pins σ H s'->Q (.int kvs.length t) s'):yar (model X.prog X.w) A (call (.builtin "len") [.ref a]) Q E s:=by
 obtain⟨z,hd,vs,i,j⟩:=qQ I.hok e;refine call_len_dict hd j (by rw[<-i.length];rw[yaf] at z;lia) ?_;rw[<-i.length];exact h _ _ (I.tok _)
end
def Oz(i:Expr):Prop:=∀a e,subscripted i false a e=operate [a,e] (getItem a e)
theorem Hy{a:Expr}{T id:String}(y:typeLookup (.type T) "__getitem__"=pure (some (.builtin id)))(v:Oz a)(h:yar (model prog w) A (eval value env) (λo m=>yar (model prog w) A (eval a env) (λi e=>e.TypeIs o T/\yar (model prog w) A (getItem o i) Q E e) E m) E s):
  yar (model prog w) A (eval (.Subscript value a pos) env) Q E s:=by
 refine Subscript_ (yac h (λo m t=>yac t (λi e j=>?_) λ_ _ x=>x) λ_ _ x=>x);obtain⟨u,j⟩:=j;unfold subscriptTail;refine yaa ?_;rw[getitemInPython_of_ne u.not_modules];refine yaa (wpAny_specialOf u y ?_);have n:yar (model prog w) A (subscripted a false o i) (λr l=>yar (model prog w) A (letTemporaryGo value o r >>= λ_=>pure r) Q E l) E e:=by
  rw[v o i];exact wpAny_operating (yac j (λr l q=>yaa (wpAny_letTemporaryGo (yab q))) λ_ _ x=>x)
 first
  |exact yab (yaa n)
  |exact yaa (yab (yaa n))
  |exact yaa n
theorem vp{j:St}{o:Option V}(I:Inv X pins j H s)(g:qh H a y o):s.TypeIs (.ref a) "dict":=by
 rcases g with⟨h,k,e,_,_⟩|⟨h,k,b,e,_,_,_⟩
 ·obtain⟨_,_,vs,_,i⟩:=qQ I.hok e;exact i.typeIs
 ·obtain⟨_,_,l,_,i⟩:=vm I.hok e;exact i.typeIs
def Ko(i ty:TE):TE:=λe H Q=>i e H λx j=>ty e j λy h=>∃a v,x=.ref a/\qh h a y (some v)/\Q v h
def KD(j ty i:TE):TS:=λD e H=>i e H λv n=>j e n λx m=>ty e m λy l=>∃a h,x=.ref a/\G2 l a y v h/\D.nx e h
section
variable {o i:Expr}{tpos:Pos}{td ty tv:TE}
theorem Ip(L:X.A.units+1<cLine)(P:PE X o td)(hi:PE X i ty)(O:Oz i):PE X (.Subscript o i pos) (Ko td ty):=by
 intro e s n H Q I h;refine Hy PySem.F.slot_dict_getitem.lookup O (bQ (P e s n H _ I h) λu t l=>?_);obtain⟨x,Y,U,E,G⟩:=l;refine bQ (hi e t n Y _ U G) λiv s2 j=>?_;obtain⟨y,W,q,C,a,v,ex,g,q2⟩:=j;subst ex;obtain rfl:u=Value.ref a:=E;exact⟨vp q g,Cb L q g C λZ s3 S m=>⟨v,W,S,m,q2⟩⟩
theorem Im(O:X.A.units+1<cLine)(Q:PE X o td)(hi:PE X i ty)(L:PE X value tv)(P:yat value (some (.Subscript o i pos')) pos.line X.env=pure false):
  PS X (.Assign [.Subscript o i pos'] value pos) (KD td ty tv):=by
 intro e s j H D I h;refine wpAny_Assign_Subscript (bQ (L e s j H _ I h) λr t n=>?_) P;obtain⟨v,H1,Y,F,G⟩:=n;refine bQ (Q e t j H1 _ Y G) λu q m=>?_;obtain⟨x,H2,W,E,q2⟩:=m;refine bQ (hi e q j H2 _ W q2) λiv s3 l=>?_;obtain⟨y,H3,U,C,a,Z,ex,g,q3⟩:=l;subst ex;obtain rfl:u=Value.ref a:=E;exact Ca O U g C F λs4 S=>⟨j,Z,S,q3⟩
end
theorem FE(h:Heap)(a:yas<h.objs.size):bq P w H (h.push {cls:=.type "dict",data:=.dict #[]}) h.objs.size (.dK []):=
 ⟨zcJ _,beq_eq_false_iff_ne.mpr (Ne.symm (zcv a)),[],.nil,Heap.DictOf.new h⟩
def C9:TE:=λ_ H Q=>∀p,H p=none->Q (.ref p) (upd H p (.dK []))
theorem fT:PE X (.Dict [] [] pos) C9:=λe s i H Q I h=>
 wpAny_Dict_empty ⟨.ref s.heap.objs.size,_,I.laid (a:=s.heap.objs.size) (o:=.dK []) (t':=s.toks) (λ_ _ q=>zaq _ q) (zcI _) (FE s.heap I.big),rfl,h _ (I.hok.fresh (zcI _))⟩
structure M1(X:Cx)(o:Expr)(m:Str)(apos:Pos)(e:Expr)(cpos:Pos):Prop where
 base:attributeBase o m X.env (eval o X.env)=eval o X.env
 few:((yau cpos (yao [e] X.env)).all (λx=>!x.1)&&(yaE cpos (yaD [] X.env)).all (λx=>x.1.isSome)&&decide (([e]:List Expr).length+([]:List Keyword).length+(if([]:List Keyword).isEmpty then 0 else 1)<30))=true
 line:(apos.endLine==cpos.line)=true
 trees:yau cpos (yao [e] X.env)=[(false,eval e X.env)]
structure M2(X:Cx)(o:Expr)(m:Str)(apos:Pos)(e f:Expr)(cpos:Pos):Prop where
 base:attributeBase o m X.env (eval o X.env)=eval o X.env
 few:((yau cpos (yao [e,f] X.env)).all (λx=>!x.1)&&(yaE cpos (yaD [] X.env)).all (λx=>x.1.isSome)&&decide (([e,f]:List Expr).length+([]:List Keyword).length+(if([]:List Keyword).isEmpty then 0 else 1)<30))=true
 line:(apos.endLine==cpos.line)=true
 trees:yau cpos (yao [e,f] X.env)=[(false,eval e X.env),(false,eval f X.env)]
end L2
variable {te:L2.TE}
namespace HT
open PySem PyProof.Rows
theorem JN{t b:Addr}{vs ws:List yai}(G:IsTup s.heap t vs.toArray)(H:IsTup s.heap b ws.toArray)(v:vs≠[])(h1:ws=[]->Q (.ref t) s)(h2:ws≠[]->Q (.ref s.heap.objs.size) {s with heap:=s.heap.push {cls:=.type "tuple",data:=.seq (vs++ws).toArray}})(hsz:vs.length+ws.length<=yag):yar (model prog w) A (binaryOp .Add (.ref t) (.ref b)) Q E s:=by
 obtain⟨⟨cls,y,data,q⟩,m,x,n,hd⟩:=id G;obtain⟨⟨C,l,o,h⟩,a,j,u,i⟩:=id H;simp only at x hd j i;subst x hd j i;have e:vs.toArray++ws.toArray=(vs++ws).toArray:=by simp
 by_cases hw:ws=[]
 ·exact concat_meets ⟨_,m,rfl⟩ ⟨_,a,rfl⟩ noFill_tuple_add seq_tuple_add PySem.F.slot_tuple_add PySem.F.entry_tuple_add (PySem.F.args_tuple_add_2 _ _)
   (tuple_addW1 t b vs.toArray ws.toArray n u y l q h (by simpa using v) (by simp[hw])) ⟨m,a,h1 hw⟩
 ·refine concat_meets ⟨_,m,rfl⟩ ⟨_,a,rfl⟩ noFill_tuple_add seq_tuple_add PySem.F.slot_tuple_add PySem.F.entry_tuple_add (PySem.F.args_tuple_add_2 _ _)
   (tuple_addW2 t b vs.toArray ws.toArray n u y l q h (by simpa using v) (by simpa using hw) (by rw[zaY,zaY];exact hsz)) ⟨m,a,?_⟩
  rw[e];exact h2 hw
noncomputable def lz(n d:Nat):Option Int->Nat
 |none=>d
 |some v=>if v<0 then(v+(n:Int)).toNat else min v.toNat n
theorem zD(n d k:Nat):lz n d (some (k:Int))=min k n:=by
 show(if(k:Int)<0 then((k:Int)+(n:Int)).toNat else min (k:Int).toNat n)=min k n;rw[yIn (by lia),zbk]
end HT
namespace L2
open PySem PySem.Spec PyProof.Rows
abbrev TO:=St->Hp->(Option Int->Hp->Prop)->Prop
def PO(X:Cx)(e:Option Expr)(t:TO):Prop:=
 ∀(a:List (Addr×Obj))(s:yah)(h:St)(H:Hp)(Q:Option Int->Hp->Prop),Inv X a h H s->t h H Q->
  yar (model X.prog X.w) X.A (evalPart e X.env) (λu j=>∃o i,Inv X a h i j/\IsPart u o/\Q o i) X.xe s
def yZ:TO:=λ_ H Q=>Q none H
def Ke(t:TE):TO:=λa H Q=>t a H λx e=>∃i,x=.int i/\Q (some i) e
theorem intsAre_of{ns:List Int}:∀{us:List yai},Vals (ns.map V.int) us->IntsAre us ns:=by
 induction ns with
 |nil=>intro us r;rw[zcr] at r;cases r;exact .nil
 |cons n ns ih=>
  intro us r;rw[zci] at r;cases r with
  |cons r1 r2=>
   obtain⟨t,e⟩:=r1;subst e;exact .cons n t (ih r2)
section
variable {lo hi:Option Expr}{tl th:TO}
theorem j4:PO X none yZ:=by
 intro a s e H Q I h;rw[evalPart_none];exact yab ⟨none,H,I,.none,h⟩
theorem gA(h:PE X e te):PO X (some e) (Ke te):=by
 intro a s l H Q I hw;rw[evalPart_some];refine bQ (h a s l H _ I hw) λu y j=>?_;obtain⟨x,v,o,m,n⟩:=j;obtain⟨i,rfl,q⟩:=n;obtain⟨t,rfl⟩:=m;exact⟨some i,v,o,.int i t,q⟩
def Oq(X:Cx)(r:V->Option Int->Option Int->Hp->VK->Prop):Prop:=
 ∀(a:List (Addr×Obj))(s:yah)(e:St)(H:Hp)(x:V)(v i h:yai)(lo hi:Option Int)(j:Addr)(Q:VK),Inv X a e H s->RelV x v->s.heap.IsSliceOf j i h .none->IsPart i lo->IsPart h hi->r x lo hi H Q->
  ∃T id,typeLookup (.type T) "__getitem__"=pure (some (.builtin id))/\s.TypeIs v T/\yar (model X.prog X.w) X.A (getItem v (.ref j)) (EP X a e Q) X.xe s
theorem Oq.or{r n:V->Option Int->Option Int->Hp->VK->Prop}(h:Oq X r)(h':Oq X n):Oq X (λx lo hi H Q=>r x lo hi H Q∨n x lo hi H Q):=by
 intro a s e H x v j i lo hi l Q I m o pl pu q;rcases q with q|q
 ·exact h a s e H x v j i lo hi l Q I m o pl pu q
 ·exact h' a s e H x v j i lo hi l Q I m o pl pu q
def SN(r:V->Option Int->Option Int->Hp->VK->Prop)(e:TE)(tl th:TO):TE:=λa H Q=>e a H λx j=>tl a j λl i=>th a i λu h=>r x l u h Q
theorem fS{r:V->Option Int->Option Int->Hp->VK->Prop}(P:Oq X r)(W:PE X e te)(S:PO X lo tl)(L:PO X hi th):PE X (.Subscript e (.Slice lo hi none p2) pos) (SN r te tl th):=by
 intro a s m H Q I h;refine Subscript_ (bQ (W a s m H _ I h) λv E j=>?_);obtain⟨x,H1,I1,F,G⟩:=j;refine wpAny_Slice (bQ (S a E m H1 _ I1 G) λo C j=>?_);obtain⟨l,H2,I2,pl,q2⟩:=j;refine bQ (L a C m H2 _ I2 q2) λn i t=>?_;obtain⟨u,y,I3,pu,q3⟩:=t;rw[evalPart_none];refine yab ?_;have Z:Inv X a m y {i with heap:=i.heap.push {cls:=.type "slice",data:=.fields #[o,n,.none]}}:=I3.kept (t':=i.toks) λb ob q=>zaq _ q;obtain⟨T,id,Y,O,U⟩:=P a {i with heap:=i.heap.push {cls:=.type "slice",data:=.fields #[o,n,.none]}} m y x v o n l u i.heap.objs.size Q Z F (Heap.IsSliceOf.new ..) pl pu q3;show yar (model X.prog X.w) X.A (subscriptTail e (.Slice lo hi none p2) v (.ref i.heap.objs.size)) (EP X a m Q) X.xe {i with heap:=i.heap.push {cls:=.type "slice",data:=.fields #[o,n,.none]}};exact tail_any (ops:=[.ref i.heap.objs.size,v]) O Y U (by with_unfolding_all rfl)
noncomputable def Cc(a:List V)(lo hi:Option Int):List V:=(a.drop (HT.lz a.length 0 lo)).take (HT.lz a.length a.length hi - HT.lz a.length 0 lo)
theorem vz(a:List V)(lo hi:Option Int):(Cc a lo hi).length<=a.length:=by
 unfold Cc;rw[zbr,zbs];lia
def PL(K:yaI):R2:=λx y H Q=>∃a b h e,x=.ref a/\y=.ref b/\dJ K H a h/\dJ K H b e/\h≠[]/\h.length+e.length<=yag/\
 (e=[]->Q (.ref a) H)/\(e≠[]->∀p,H p=none->Q (.ref p) (upd H p (.tup (h++e))))
theorem Vals.sH(r:Vals xs us):us=[]↔xs=[]:=by
 cases r with
 |nil=>simp
 |cons _ _=>simp
theorem IA:fE X (binaryOp .Add) (PL X.K):=by
 intro j s U H x y v u Q I C t h;obtain⟨a,b,n,m,rfl,rfl,S,P,O,hz,E,q2⟩:=h;cases C;cases t;obtain⟨L,i,G,_⟩:=I.tuple S;obtain⟨l,e,F,_⟩:=I.tuple P;refine HT.JN G F (λz=>O (i.sH.mp z)) (λz=>⟨.ref a,H,I,rfl,E (e.sH.mp z)⟩) (λz=>?_) (by rw[<-i.length,<-e.length];exact hz);refine⟨.ref s.heap.objs.size,_,I.laid (t':=s.toks) (o:=.tup (n++m)) (λb W q=>zaq _ q) (zcI _) ?_,rfl,q2 (λw=>z (e.sH.mpr w)) _ (I.hok.fresh (zcI _))⟩;exact⟨by rw[zaM];exact hz,_,i.append e,IsTup.new _ _⟩
end
noncomputable def CS(n:Nat)(i:Int):Option Nat:=if 0<=i then(if i<n then some i.toNat else none) else if -(n:Int)<=i then some (i+n).toNat else none
noncomputable def fJ{α:Type}(a:List α)(i:Int):Option α:=(CS a.length i).bind λj=>a[j]?
theorem z8{i:Int}(h:CS n i=some j):seqIndex? i n=some j/\j<n/\-(n:Int)<=i/\i<n:=by
 unfold CS at h;by_cases a:0<=i
 ·rw[yIp a] at h;by_cases h1:i<n
  ·rw[yIp h1] at h;have e:i.toNat=j:=zcL.inj h;exact⟨by rw[seqIndex_of a h1,e],by lia,by lia,h1⟩
  ·rw[yIn h1] at h;cases h
 ·rw[yIn a] at h;by_cases h1: -(n:Int)<=i
  ·rw[yIp h1] at h;have e:(i+n).toNat=j:=zcL.inj h;exact⟨by rw[seqIndex_neg (by lia) h1,e],by lia,h1,by lia⟩
  ·rw[yIn h1] at h;cases h
theorem tG{α:Type}{a:List α}{i:Int}{v:α}(h:fJ a i=some v):∃j,seqIndex? i a.length=some j/\a[j]? =some v/\j<a.length/\-(a.length:Int)<=i/\i<a.length:=by
 unfold fJ at h;cases e:CS a.length i with
 |none=>rw[e] at h;cases h
 |some j=>
  rw[e] at h;obtain⟨h1,h2,m,l⟩:=z8 e;exact⟨j,h1,h,h2,m,l⟩
theorem cE{α:Type}{a:List α}{v:α}(h:a[j]? =some v):fJ a (j:Int)=some v:=by
 have i:j<a.length:=(zad.mp h).1;have e:CS a.length (j:Int)=some j:=by
  unfold CS;rw[yIp (by lia),yIp (by lia)];simp
 unfold fJ;rw[e];exact h
def nH(b:Expr):Prop:=∀o i,subscripted b false o i=operate [o,i] (getItem o i)
def Hl(X:Cx)(r:R2):Prop:=
 ∀(h a:Expr)(e:List (Addr×Obj))(s:yah)(i:St)(H:Hp)(x y:V)(v u:yai)(Q:VK),Inv X e i H s->RelV x v->RelV y u->r x y H Q->
  subscripted a false v u=operate [v,u] (getItem v u)->yar (model X.prog X.w) X.A (subscriptTail h a v u) (EP X e i Q) X.xe s
def CJ(X:Cx)(id:String)(r:V->List V->Hp->VK->Prop):Prop:=
 ∀(a:List (Addr×Obj))(s:yah)(e:St)(H:Hp)(x:V)(h:List V)(v:yai)(i:List yai)(Q:VK),Inv X a e H s->RelV x v->Vals h i->r x h H Q->
  yar (model X.prog X.w) X.A (call (.builtin id) (v::i)) (EP X a e Q) X.xe s
section
variable {a b:Expr}{ta tb:TE}
theorem Hl.or{r o:R2}(h:Hl X r)(h':Hl X o):Hl X (λx y H Q=>r x y H Q∨o x y H Q):=by
 intro e i j s l H x y v u Q I n m q t;rcases q with q|q
 ·exact h e i j s l H x y v u Q I n m q t
 ·exact h' e i j s l H x y v u Q I n m q t
theorem CJ.or{id:String}{r o:V->List V->Hp->VK->Prop}(h:CJ X id r)(h':CJ X id o):CJ X id (λx i H Q=>r x i H Q∨o x i H Q):=by
 intro e s j H x i v l Q I m n q;rcases q with q|q
 ·exact h e s j H x i v l Q I m n q
 ·exact h' e s j H x i v l Q I m n q
theorem zQ{r:R2}(o:Hl X r)(C:PE X a ta)(t:PE X b tb)(n:nH b):PE X (.Subscript a b pos) (OU r ta tb):=by
 intro e s i H Q I h;exact Subscript_ (N5 C t I h λv u j x y F E m l q=>o a b e j i F x y v u Q E m l q (n _ _))
def PK(K:yaI):R2:=λx y H Q=>∃p e i v,x=.ref p/\y=.int i/\cN K H p e/\fJ e i=some v/\Q v H
def PF(K:yaI):R2:=λx y H Q=>∃p e i v,x=.ref p/\y=.int i/\dJ K H p e/\fJ e i=some v/\Q v H
def PJ:R2:=λx y H Q=>∃z i c,x=.str z/\y=.int i/\z.length<=yag/\fJ z.cps.toList i=some c/\Q (.str ⟨#[c]⟩) H
theorem IZ:Hl X (PK X.K):=by
 intro m n e s F H x y v u Q I U S h G;obtain⟨p,xs,i,z,rfl,rfl,W,Z,q⟩:=h;cases U;obtain⟨t,rfl⟩:=S;obtain⟨C,r,pl,hz⟩:=I.list W;obtain⟨j,h1,h2,h3,h4,h5⟩:=tG Z;obtain⟨w,O,o⟩:=r.get h2;have Y:=r.length;have hn:=lP;have l:EP X e F Q w s:=⟨z,H,I,o,q⟩
 by_cases L:0<=i
 ·have E:i.toNat=j:=by
   rw[seqIndex_of L h5] at h1;exact zcL.inj h1
  exact item_listR pl.isList L (by lia) (by rw[E];simpa using O) l G
 ·have E:(i+(C.toArray.size:Int)).toNat=j:=by
   rw[seqIndex_neg (by lia) h4] at h1;rw[zaY,<-Y];exact zcL.inj h1
  exact subscriptTail_builtinR (x:=w) pl.isList.typeIs slot_list_getitem.lookup
   (wpAny_getItem_list_neg (Q:=λr P=>r=w/\EP X e F Q r P) pl.isList (by lia) (by rw[zaY]<;>lia) (by lia) (by rw[E];simpa using O) ⟨rfl,l⟩) G
theorem aq:Hl X (PF X.K):=by
 intro l m e s C H x y v u Q I G F h O;obtain⟨p,Y,i,z,rfl,rfl,P,U,q⟩:=h;cases G;obtain⟨t,rfl⟩:=F;obtain⟨L,r,pl,hz⟩:=I.tuple P;obtain⟨j,h1,h2,h3,h4,h5⟩:=tG U;obtain⟨w,W,n⟩:=r.get h2;have S:=r.length;have Z:=lP;have o:EP X e C Q w s:=⟨z,H,I,n,q⟩
 exact subscriptTail_builtinR (x:=w) pl.typeIs slot_tuple_getitem.lookup
  (getItem_tuple (j:=j) (Q:=λr E=>r=w/\EP X e C Q r E) pl (by lia) (by lia) (by rw[zaY,<-S];exact h1) (by simpa using W) ⟨rfl,o⟩) O
theorem Nl:Hl X PJ:=by
 intro e l m s S H x y v u Q I o n h C;obtain⟨z,i,c,rfl,rfl,hz,F,q⟩:=h;obtain⟨t,rfl⟩:=o;obtain⟨U,rfl⟩:=n;obtain⟨j,h1,h2,Y,L,G⟩:=tG F;have E:z.cps.toList.length=z.length:=by simp[Str.length]
 rw[E] at h1 L G;have W:=lP;exact tail_any (typeIs_str s z t) slot_str_getitem.lookup (getItem_str (c:=c) (by
  have P:decide (i< -(2 ^ 63:Int))=false:=yDf (by lia);have O:decide (i≥2 ^ 63)=false:=yDf (by lia);rw[P,O,zcm]) (by rw[h1];simpa using h2) ⟨.str ⟨#[c]⟩,H,I.tok _,⟨_,rfl⟩,q⟩) C
def rIx(K:yaI):R2:=λx y H Q=>PK K x y H Q∨PF K x y H Q∨PJ x y H Q
theorem Nm:Hl X (rIx X.K):=IZ.or (aq.or Nl)
theorem yc(its:List yai)(n j:Nat)(u:yai):Obj.mapSeq (·.setIfInBounds j u) {cls:=.type "list",data:=.seq its.toArray n}={cls:=.type "list",data:=.seq (its.set j u).toArray n}:=by
 simp[Obj.mapSeq]
theorem Inv.lst{i:St}{p:Addr}(I:Inv X pins i H s)(h:H p=some (.lst xs)):
  ∃(its:List yai)(n:Nat),Vals xs its/\s.heap.get? p=some {cls:=.type "list",data:=.seq its.toArray n}/\xs.length<=yag:=by
 obtain⟨z,its,n,r,e⟩:=I.hok p _ h;exact⟨its,n,r,e,z⟩
theorem Inv.M4{j:St}{p:Addr}{ys:List V}{its its':List yai}{i:Nat}{f:Obj->Obj}(I:Inv X pins j H s)(h:H p=some (.lst xs))(m:s.heap.get? p=some {cls:=.type "list",data:=.seq its.toArray n})(l:f {cls:=.type "list",data:=.seq its.toArray n}={cls:=.type "list",data:=.seq its'.toArray i})(r:Vals ys its')(hz:ys.length<=yag)(t:Nat):
  Inv X pins j (upd H p (.lst ys)) {s with heap:=s.heap.update p f,toks:=t}:=by
 have e:(s.heap.update p f).get? p=some {cls:=.type "list",data:=.seq its'.toArray i}:=by
  rw[zax f m (by rw[l]<;>rfl),l]
 refine I.write (x:=p) (e:=p) (by rw[h];trivial) (.inl rfl) (λb u o q=>(zar _ _ (Ne.symm o)).trans q) ⟨_,e⟩ ?_;exact⟨hz,its',i,r,e⟩
def KI:V->V->V->Hp->(Hp->Prop)->Prop:=λo i v H Q=>∃p e k j,o=.ref p/\i=.int k/\H p=some (.lst e)/\CS e.length k=some j/\Q (upd H p (.lst (e.set j v)))
theorem set_list:QZ X KI:=by
 intro e s O H o i v ov iv u Q I U Y S h;obtain⟨p,P,k,j,rfl,rfl,C,Z,q⟩:=h;cases U;obtain⟨t,rfl⟩:=Y;obtain⟨l,n,r,m,hz⟩:=I.lst C;obtain⟨h1,h2,F,E⟩:=z8 Z;have x:=r.length;have hn:=lP;have L:Inv X e O (upd H p (.lst (P.set j v))) {s with heap:=s.heap.update p (Obj.mapSeq (·.setIfInBounds j u))}:=
  I.M4 C m (yc l n j u) (r.set S j) (by rw[zbP];exact hz) s.toks
 by_cases G:0<=k
 ·have y:k.toNat=j:=by
   rw[seqIndex_of G E] at h1;exact zcL.inj h1
  exact PySem.W.ki_setAt m G (by lia) (by rw[zaY,<-x];exact E) (by rw[y];exact⟨_,L,q⟩)
 ·have y:(k+(l.toArray.size:Int)).toNat=j:=by
   rw[seqIndex_neg (by lia) F] at h1;rw[zaY,<-x];exact zcL.inj h1
  exact PySem.W.ki_setBack m (by lia) (by rw[zaY,<-x];exact F) (by lia) (by rw[y];exact⟨_,L,q⟩)
theorem rR(lo hi:Option Int)(n:Nat):(sliceBounds lo hi none n).1=((HT.lz n 0 lo:Nat):Int)/\(sliceBounds lo hi none n).2.1=((HT.lz n n hi:Nat):Int)/\(sliceBounds lo hi none n).2.2=1:=by
 refine⟨?_,?_,rfl⟩
 ·cases lo with
  |none=>simp[sliceBounds,HT.lz]
  |some i=>
   simp only[sliceBounds,HT.lz,Option.getD_none,show(1:Int)> 0 by decide,if_true];by_cases h:i<0
   ·simp only[h,if_true]<;>lia
   ·simp only[h,if_false]<;>lia
 ·cases hi with
  |none=>simp[sliceBounds,HT.lz]
  |some i=>
   simp only[sliceBounds,HT.lz,Option.getD_none,show(1:Int)> 0 by decide,if_true];by_cases h:i<0
   ·simp only[h,if_true]<;>lia
   ·simp only[h,if_false]<;>lia
theorem pZ(its:List yai)(lo hi:Option Int):slicePick its.toArray lo hi none=((its.drop (HT.lz its.length 0 lo)).take (HT.lz its.length its.length hi - HT.lz its.length 0 lo)).toArray:=by
 obtain⟨h1,h2,e⟩:=rR lo hi its.toArray.size;unfold slicePick;rw[h1,h2,e];simp only[sliceRange_one,pick_run,zaY]<;>rfl
def RW(K:yaI):V->Option Int->Option Int->Hp->VK->Prop:=λx lo h H Q=>∃a e,x=.ref a/\cN K H a e/\∀p,H p=none->Q (.ref p) (upd H p (.lst (Cc e lo h)))
theorem HC:Oq X (RW X.K):=by
 intro l s C H x v F E lo j G Q I n y pl pu h;obtain⟨a,e,rfl,u,q⟩:=h;cases n;obtain⟨t,r,m,hz⟩:=I.list u;have i:=r.length;refine⟨"list",_,slot_list_getitem.lookup,m.isList.typeIs,?_⟩;refine wpAny_getItem_list_slice m.isList y pl pu .none (by simp) ?_ (by rw[zaY]<;>lia);rw[pZ,<-i];refine⟨.ref s.heap.objs.size,_,I.laid (t':=s.toks) (o:=.lst (Cc e lo j)) (λb L q=>zaq _ q) (zcI _) ?_,rfl,q _ (I.hok.fresh (zcI _))⟩;exact⟨zcw (vz e lo j) hz,_,0,(r.drop (HT.lz e.length 0 lo)).take (HT.lz e.length e.length j - HT.lz e.length 0 lo),zaK _ rfl⟩
theorem tF:b7 X (.type "list") (λG H Q=>∃p ys,G=[.ref p]/\(cN X.K H p ys∨dJ X.K H p ys)/\∀l,H l=none->Q (.ref l) (upd H l (.lst ys))):=by
 intro v s O H G S Q I r h;obtain⟨p,ys,rfl,x,q⟩:=h;obtain⟨u,rfl,P⟩:=vals1 r;cases P;have C:∀(i:List yai),Vals ys i->ys.length<=yag->∀(j:Heap)(t:Nat),(∀b L,s.heap.get? b=some L->j.get? b=some L)->
   j.get? s.heap.objs.size=some {cls:=.type "list",dict:=none,data:=.seq i.toArray t,slots:=#[]}->EP X v O Q (.ref s.heap.objs.size) {s with heap:=j}:=λi m hz j t kp e=>
  ⟨.ref s.heap.objs.size,_,I.laid (t':=s.toks) kp (zcI _) (show bq X.prog X.w _ j _ (.lst ys) from⟨hz,i,t,m,e⟩),rfl,q _ (I.hok.fresh (zcI _))⟩
 rcases x with x|x
 ·obtain⟨i,m,pl,hz⟩:=I.list x;have y:=m.length;obtain⟨o,E,F,n,hd⟩:=pl.isList;exact call_list_seq p (.inl rfl) E F hd (λj t kp e=>C i m hz j t kp e) (by simp only[zaY]<;>lia)
 ·obtain⟨i,m,pl,hz⟩:=I.tuple x;have y:=m.length;obtain⟨o,E,F,n,hd⟩:=pl;exact call_list_seq p (.inr rfl) E F hd (λj t kp e=>C i m hz j t kp e) (by simp only[zaY]<;>lia)
theorem qc:b7 X (.type "tuple") (λx H Q=>∃p ys,x=[.ref p]/\((cN X.K H p ys/\∀l,H l=none->Q (.ref l) (upd H l (.tup ys)))∨(dJ X.K H p ys/\Q (.ref p) H))):=by
 intro i s v H x G Q I r h;obtain⟨p,ys,rfl,h⟩:=h;obtain⟨u,rfl,E⟩:=vals1 r;cases E;rcases h with⟨t,q⟩|⟨t,q⟩
 ·obtain⟨j,n,pl,hz⟩:=I.list t;have y:=n.length;refine call_tuple_list pl.isList (λm kp=>?_) (by simp only[zaY]<;>lia);have C:Inv X i v H {s with heap:=m}:=I.kept (t':=s.toks) kp;have F:Inv X i v (upd H m.objs.size (.tup ys)) {s with heap:=m.push {cls:=.type "tuple",data:=.seq j.toArray}}:=
   C.laid (t':=s.toks) (λb o e=>zaq _ e) (zcI _) (show bq X.prog X.w _ _ _ (.tup ys) from⟨hz,j,n,IsTup.new _ _⟩)
  exact⟨.ref m.objs.size,_,F,rfl,q _ (C.hok.fresh (zcI _))⟩
 ·obtain⟨j,n,pl,hz⟩:=I.tuple t;exact call_tuple_same pl ⟨.ref p,H,I,rfl,q⟩
def Rh(K:yaI)(T:String)(x:V)(H:Hp):Prop:=match x with
 |.str _=>T="str"
 |.int _=>T="int"
 |.ref p=>(T="list"/\∃h,cN K H p h)∨(T="tuple"/\∃o,K.lookup p=some o/\o.cls=.type "tuple"/\o.dict=none)∨
   (T="dict"/\((∃e,H p=some (.dK e))∨∃e,H p=some (.dT e)))∨(T="set"/\∃S n,H p=some (.set S n))
 |_=>False
theorem CZ{m:St}{T:String}{x:V}{v:yai}(I:Inv X pins m H s)(r:RelV x v)(ty:Rh X.K T x H):
  s.TypeIs v T/\∀a,v=.ref a->∃ob,s.heap.get? a=some ob/\ob.dict=none:=by
 cases x with
 |str z=>
  obtain⟨t,rfl⟩:=r;cases(show T="str" from ty);exact⟨typeIs_str s z t,λ_ e=>nomatch e⟩
 |int i=>
  obtain⟨t,rfl⟩:=r;cases(show T="int" from ty);exact⟨typeIs_int s i t,λ_ e=>nomatch e⟩
 |ref p=>
  cases r;rcases ty with⟨rfl,C,u⟩|⟨rfl,o,h,y,hd⟩|⟨rfl,h⟩|⟨rfl,S,n,h⟩
  ·obtain⟨q,_,pl,_⟩:=I.list u;refine⟨pl.isList.typeIs,λa e=>?_⟩;cases e;obtain⟨o,n,e,c,hd,_⟩:=pl;exact⟨o,e,hd⟩
  ·refine⟨⟨o,I.mH p o h,y⟩,λa e=>?_⟩;cases e;exact⟨o,I.mH _ o h,hd⟩
  ·have z:∃o,s.heap.get? p=some o/\o.ExactDict:=by
    rcases h with⟨j,h⟩|⟨j,h⟩
    ·obtain⟨_,_,_,_,o,_,_,e,ex,_⟩:=I.hok p _ h;exact⟨o,e,ex⟩
    ·obtain⟨_,_,_,_,o,_,_,e,ex,_⟩:=I.hok p _ h;exact⟨o,e,ex⟩
   obtain⟨o,e,ex⟩:=z;refine⟨⟨o,e,ex.1⟩,λa l=>?_⟩;cases l;exact⟨o,e,ex.2.1⟩
  ·obtain⟨o,_,_,_,e,ex,_⟩:=I.hok p _ h;refine⟨⟨o,e,ex.1⟩,λa l=>?_⟩;cases l;exact⟨o,e,ex.2.1⟩
 |_=>exact False.elim ty
def Lu(K:yaI)(T:String)(r:V->List V->Hp->VK->Prop)(to:TE):TE:=λh H Q=>to h H λx e=>Rh K T x e/\r x [] e Q
def RB(K:yaI)(T:String)(r:V->List V->Hp->VK->Prop)(to:TE)(t:TA):TE:=λe H Q=>to e H λx h=>Rh K T x h/\t e h λi j=>r x i j Q
variable {o:Expr}{es:List Expr}{to:TE}{t:TA}{cpos:Pos}{T id:String}{r:V->List V->Hp->VK->Prop}
theorem xT(E:PlainAttrs T)(slot:Slot T name id)(m:typeOf (.builtin id)=pure (.type "method_descriptor"))(G:CJ X id r)(F:PE X o to)(j:attributeBase o name X.env (eval o X.env)=eval o X.env:=by rfl)(i:(apos.endLine==cpos.line)=true:=by rfl):PE X (.Call (.Attribute o name apos) [] [] cpos) (Lu X.K T r to):=by
 intro e s n H Q I h;refine wpAny_Call_method0_late j i (bQ (F e s n H _ I h) λv y l=>?_);obtain⟨x,L,u,q,ty,C⟩:=l;obtain⟨h1,h2⟩:=CZ u q ty;exact⟨T,id,E,slot,m,h1,h2,Calls.callWith_builtin rfl (PySem.evalArgs_none (G e y n L x [] v [] Q u q .nil C))⟩
theorem gT(U:PlainAttrs T)(slot:Slot T name id)(y:typeOf (.builtin id)=pure (.type "method_descriptor"))(Z:CJ X id r)(Y:PE X o to)(ha:PA X (e::es) t)(n:attributeBase o name X.env (eval o X.env)=eval o X.env:=by rfl)(q:((yau cpos (yao (e::es) X.env)).all (λx=>!x.1)&&(yaE cpos (yaD [] X.env)).all (λx=>x.1.isSome)&&decide ((e::es).length+([]:List Keyword).length+(if([]:List Keyword).isEmpty then 0 else 1)<30))=true:=by rfl)(m:(apos.endLine==cpos.line)=true:=by rfl)(W:yao (e::es) X.env=(false,eval e X.env)::yao es X.env:=by rfl)(j:(yau cpos (yao es X.env)).any (·.1)=false:=by rfl):
  PE X (.Call (.Attribute o name apos) (e::es) [] cpos) (RB X.K T r to t):=by
 intro i s u H Q I h;refine wpAny_Call_method_late n q m rfl (bQ (Y i s u H _ I h) λv O l=>?_);obtain⟨x,H1,F,C,ty,S⟩:=l;obtain⟨h1,h2⟩:=CZ F C ty;refine⟨T,id,U,slot,y,h1,h2,?_⟩;have E:=ha cpos i O u H1 _ F S;rw[W] at E⊢;refine Calls.callWith_builtin (by show(false||(yau cpos (yao es X.env)).any (·.1))=false;rw[j]<;>rfl) (Calls.evalArgs_plain ?_);refine bQ E λG L l=>?_;obtain⟨vs,H2,I2,P,q2⟩:=l;exact Z i L u H2 x vs v G Q I2 C P q2
end
def SE(X:Cx)(id:String)(r:V->List V->Hp->VK->Prop):Prop:=
 ∀(a:List (Addr×Obj))(s:yah)(e:St)(H:Hp)(x:V)(h:List V)(v:yai)(i:List yai)(Q:VK),Inv X a e H s->RelV x v->Vals h i->r x h H Q->
  yar (model X.prog X.w) X.A (call (.builtin id) (v::i)) (EP X a e Q) X.xe s
theorem Vals.one:∀{x:V}{us:List yai},Vals [x] us->∃u,us=[u]/\RelV x u:=by
 intro x us h;cases h with
 |cons r t=>cases t;exact⟨_,rfl,r⟩
theorem Vals.zero:∀{us:List yai},Vals [] us->us=[]
 |_,.nil=>rfl
theorem Vals.dropLast(h:Vals xs us):Vals xs.dropLast us.dropLast:=by
 induction h with
 |nil=>exact .nil
 |cons r t ih=>
  cases t with
  |nil=>exact .nil
  |cons q t'=>exact .cons r ih
theorem Vals.rep(h:Vals xs us):∀k:Nat,Vals (zcb k xs).flatten (zcb k us).flatten
 |0=>.nil
 |k+1=>by
  rw[zaE,zaE,zbb,zbb];exact Vals.append h (Vals.rep h k)
theorem yr{α:Type}(l:List α):l.eraseIdx (l.length - 1)=l.dropLast:=by
 induction l with
 |nil=>rfl
 |cons a r ih=>
  cases r with
  |nil=>rfl
  |cons b r=>
   have e:(a::b::r).length - 1=((b::r).length - 1)+1:=by
    have h1:(a::b::r).length=r.length+2:=rfl;have h2:(b::r).length=r.length+1:=rfl;lia
   rw[e,List.eraseIdx_cons_succ,ih]
   all_goals rfl
theorem foldl_rep(its:List yai):∀(k:Nat)(a:List yai),
  List.foldl (λi h=>i++h) a.toArray (zcb k its.toArray)=(a++(zcb k its).flatten).toArray
 |0,a=>by simp
 |k+1,a=>by
  have e:a.toArray++its.toArray=(a++its).toArray:=by simp
  have j:(a++its)++(zcb k its).flatten=a++(zcb (k+1) its).flatten:=by
   rw[zaE,zbb,zbc]
  rw[<-j,<-foldl_rep its k (a++its),<-e,zaE,zbQ]
section
variable {σ:St}{b:Addr}{ys zs:List V}
theorem Inv.IU{its its':List yai}{f:Array yai->Array yai}(I:Inv X pins σ H s)(m:H l=some (.lst xs))(e:s.heap.get? l=some {cls:=.type "list",data:=.seq its.toArray n})(i:f its.toArray=its'.toArray)(a:Vals ys its')(hz:ys.length<=yag):
  Inv X pins σ (upd H l (.lst ys)) {s with heap:=s.heap.update l (Obj.mapSeq f),toks:=t'}:=by
 have q:=PySem.IsL.update e f;rw[i] at q;refine I.write (x:=l) (e:=l) (by rw[m];exact trivial) (.inl rfl) (λo u j h=>(zar s.heap (Obj.mapSeq f) (Ne.symm j)).trans h) ⟨_,q⟩ ?_;exact⟨hz,its',_,a,q⟩
theorem Inv.Qf{its:List yai}(I:Inv X pins σ H s)(a:Vals ys its)(hz:ys.length<=yag):
  Inv X pins σ (upd H s.heap.objs.size (.lst ys)) {s with heap:=s.heap.push {cls:=.type "list",data:=.seq its.toArray},toks:=t'}:=
 I.laid (λ_ _ q=>zaq _ q) (zcI _) ⟨hz,its,0,a,zaK _ rfl⟩
theorem Inv.fresh(I:Inv X pins σ H s):H s.heap.objs.size=none:=I.hok.fresh (zcI _)
theorem Inv.uV(I:Inv X pins σ H s)(a:H l=some (.lst xs)):xs.length<=yag/\∃(its:List yai)(n:Nat),Vals xs its/\xs.length=its.length/\s.heap.get? l=some {cls:=.type "list",data:=.seq its.toArray n}:=by
 obtain⟨z,its,n,r,e⟩:=I.hok l _ a;exact⟨z,its,n,r,r.length,e⟩
theorem oJ(h:n<=yag):Builtin.List.listTooLong n=false:=by
 unfold Builtin.List.listTooLong;exact yDf (by lia)
end
def zK:V->List V->Hp->VK->Prop:=λx vs H Q=>∃l a y,x=.ref l/\vs=[y]/\H l=some (.lst a)/\a.length<yag/\Q .bB (upd H l (.lst (a++[y])))
theorem BN:SE X "list.append" zK:=by
 intro i s t H x vs v E Q I m o h;obtain⟨l,C,y,rfl,rfl,j,hz,q⟩:=h;cases m;obtain⟨u,rfl,ru⟩:=o.one;obtain⟨z,a,n,r,G,e⟩:=I.uV j;refine call_meets F.slot_list_append ⟨_,e,rfl⟩ F.entry_list_append (F.args_list_append_2 _ _) (PySem.list_append l a.toArray n u (by rw[zaY];lia)) ⟨e,?_⟩;refine⟨.bB,_,I.IU (its':=a++[u]) j e (by simp) (r.append (.cons ru .nil)) ?_,rfl,q⟩;rw[zaM,List.length_singleton];lia
def zJ:V->List V->Hp->VK->Prop:=λx vs H Q=>∃l b e a,x=.ref l/\vs=[.ref b]/\H l=some (.lst e)/\H b=some (.lst a)/\e.length+a.length<=yag/\Q .bB (upd H l (.lst (e++a)))
theorem BL:SE X "list.extend" zJ:=by
 intro m s S H x vs v Z Q I y C h;obtain⟨l,b,Y,U,rfl,rfl,o,O,hz,q⟩:=h;cases y;obtain⟨u,rfl,ru⟩:=C.one;cases ru;obtain⟨z,i,n,r,hl,e⟩:=I.uV o;obtain⟨W,a,G,E,L,P⟩:=I.uV O;have j:i.toArray.size+a.toArray.size<=yag:=by rw[zaY,zaY];lia
 have t:¬(!i.toArray.isEmpty&&Builtin.List.listTooLong (i.toArray.size+a.toArray.size))=true:=by
  rw[oJ j,Bool.and_false];exact zaT
 refine call_meets F.slot_list_extend ⟨_,e,rfl⟩ F.entry_list_extend (F.args_list_extend_2 _ _)
  (AutoSeq1.list_extend_list_list_0 l i.toArray n b a.toArray G t (by rw[zaY];lia) (by lia)) ⟨e,P,?_⟩
 refine⟨.bB,_,I.IU (its':=i++a) o e (by simp) (r.append E) ?_,rfl,q⟩;rw[zaM];lia
def PC:V->List V->Hp->VK->Prop:=λx vs H Q=>∃l a y,x=.ref l/\vs=[]/\H l=some (.lst a)/\a[a.length - 1]? =some y/\Q y (upd H l (.lst a.dropLast))
theorem MX:SE X "list.pop" PC:=by
 intro m s O H x vs v S Q I t C h;obtain⟨l,P,y,rfl,rfl,o,E,q⟩:=h;cases t;have j:=C.zero;subst j;obtain⟨z,a,n,r,L,e⟩:=I.uV o;obtain⟨u,G,ru⟩:=r.get E;have i:a.toArray[a.toArray.size - 1]? =some u:=by
  show a.toArray[a.length - 1]? =some u;rw[<-zaw,<-L];exact G
 refine call_meets F.slot_list_pop ⟨_,e,rfl⟩ F.entry_list_pop (F.args_list_pop_1 _) (MeetsSeq.list_pop_last l a.toArray n u i (by rw[zaY];lia)) ⟨e,?_⟩;refine⟨y,_,I.IU (its':=a.dropLast) o e ?_ r.dropLast ?_,ru,q⟩
 ·show a.toArray.eraseIdxIfInBounds (a.toArray.size - 1)=a.dropLast.toArray;rw[zaY,List.eraseIdxIfInBounds_toArray,yr]
 ·rw[List.length_dropLast];lia
def R3:R2:=λx y H Q=>∃l b e a,x=.ref l/\y=.ref b/\H l=some (.lst e)/\H b=some (.lst a)/\e.length+a.length<=yag/\∀p,H p=none->Q (.ref p) (upd H p (.lst (e++a)))
theorem MN:fE X (binaryOp .Add) R3:=by
 intro j s O H x y v u Q I o m h;obtain⟨l,b,W,S,rfl,rfl,E,F,hz,q⟩:=h;cases o;cases m;obtain⟨z,i,n,r,Z,e⟩:=I.uV E;obtain⟨U,a,Y,t,C,L⟩:=I.uV F;refine PySem.P.add_list e L ?_ (by rw[zaY,zaY];lia);have G:i.toArray++a.toArray=(i++a).toArray:=by simp
 rw[G];exact⟨.ref _,_,I.Qf (t':=s.toks) (r.append t) (by rw[zaM];lia),rfl,q _ I.fresh⟩
def RX:R2:=λx y H Q=>∃l k a,x=.ref l/\y=.int k/\H l=some (.lst a)/\-(2 ^ 63)<=k/\k<2 ^ 63/\a.length*k.toNat<=yag/\
 ∀p,H p=none->Q (.ref p) (upd H p (.lst (zcb k.toNat a).flatten))
theorem len_rep{α:Type}(a:List α)(k:Nat):(zcb k a).flatten.length=k*a.length:=by
 induction k with
 |zero=>simp
 |succ k ih=>rw[zaE,zbb,zaM,ih,Nat.succ_mul,Nat.add_comm]
theorem MD:fE X (binaryOp .Mult) RX:=by
 intro O s σ H x y v u Q I Y W h;obtain⟨l,k,xs,rfl,rfl,hH,h1,h2,hz,q⟩:=h;cases Y;obtain⟨t,rfl⟩:=W;obtain⟨z,i,n,r,Z,e⟩:=I.uV hH;have o:i.toArray.size*k.toNat<=yag:=by rw[zaY,<-Z];exact hz
 have E:¬i.toArray.size*k.toNat> (2 ^ 63 - 1) / 8:=by
  have:(yag:Nat)<=(2 ^ 63 - 1) / 8:=by decide
  lia
 have C:¬(!Builtin.List.listFitsIndex k)=true:=by
  rw[fitsIndex_both h1 h2];exact zaT
 have P:¬Builtin.List.listTooLong (i.toArray.size*k.toNat)=true:=by
  rw[oJ o];exact zaT
 have j:List.foldl (λL G=>L++G) #[] (zcb (if i.toArray.isEmpty=true then 0 else k.toNat) i.toArray)=(zcb k.toNat i).flatten.toArray:=by
  have f0:∀m:Nat,List.foldl (λL G=>L++G) #[] (zcb m i.toArray)=(zcb m i).flatten.toArray:=λm=>by
   have:=foldl_rep i m [];rw[zbR] at this;exact this
  rw[f0];cases i with
  |nil=>simp
  |cons a r'=>rw[yIn (by simp)]
 refine wpAny_binaryOp_repeat_ref (T:="list") (U:="int") (by decide) ⟨_,e,rfl⟩ (λS=>typeIs_int S k t) noFill_list_mul F.fills_int_mul F.slot_int_rmul repeat_list F.slot_int_index.lookup
  (call_meets F.slot_int_rmul (typeIs_int s k t) F.entry_int_rmul (F.args_int_rmul_2 _ _) (int___rmul___int_list k t l i.toArray n) ⟨e,rfl,⟨_,e,rfl⟩,call_meets F.slot_list_mul ⟨_,e,rfl⟩ F.entry_list_mul (F.args_list_mul_2 _ _) (AutoListH.list___mul___list_int_3 l i.toArray n k t C E P) ⟨e,?_⟩⟩)
 rw[j];exact⟨.ref _,_,I.Qf (t':=s.toks) (r.rep k.toNat) (by rw[len_rep,Nat.mul_comm];exact hz),rfl,q _ I.fresh⟩
end L2
namespace Att
open PySem PySem.W PySem.Calls PyProof.Rows
theorem m5{P:Params}:∀(ns:List Int)(vs:List yai),WellAll P h vs (ns.map WData.int)->IntsAre vs ns:=by
 intro ns
 induction ns with
 |nil=>
  intro vs w;rw[zcr] at w;cases w;exact .nil
 |cons n ns ih=>
  intro vs w;rw[zci] at w;cases w with
  |cons a b=>
   cases a;exact .cons _ _ (ih _ b)
theorem Bv{l:OpenLaw}(x:l.most=some n){P:Params}{args:List WData}{e:List yai}(i:l.row.toRowW.claim.pre args=true)(s:WellAll P h e args):
  ∃a vs ns,e=[Value.ref a]/\args=[WData.list (ns.map WData.int)]/\h.get? a=some {cls:=.type "list",data:=.seq vs.toArray}/\IntsAre vs ns/\ns.length<=n:=by
 have t:WShape.hasAll [] args [.list .int]=true:=(pre_splitW i).1;have u:l.pre.holds [] {args:=args}=true:=(pre_splitW i).2;obtain⟨d,r,rfl,h1,h2⟩:=hasAllW_cons t;obtain rfl:=hasAllW_nil h2;obtain⟨C,rfl,y⟩:=hasW_list h1;obtain⟨ns,rfl⟩:=items_int y;have j:ns.length<=n:=by
  unfold OpenLaw.pre at u;have o:(WTm.not (.lt (.lit (.int (n:Int))) (.len (.arg 0)))).holds [] {args:=[.list (ns.map .int)]}=true:=by
   have o:=(holds_andW u).1;rw[x] at o;exact o
  have m:=condW_of o (w_not (w_lt w_lit (w_len_list (w_arg rfl))));rw[zbJ] at m;refine Nat.le_of_not_lt λq=>?_;have v:(n:Int)<((ns.length:Nat):Int):=by lia
  first
   |(rw[yDt v] at m;exact absurd m (by decide))
   |(simp at m;lia)
 cases s with
 |cons w1 w2=>
  cases w2;cases w1 with
  |list ho hall=>exact⟨_,_,ns,rfl,rfl,ho,m5 ns _ hall,j⟩
theorem By(l:OpenLaw)(args:List WData):l.row.toRowW.claim.post args (.bool true) args=true:=
 postW_of (r:=l.row.toRowW) (X:=(true==true))
  (show WShape.has [] (.bool true) .bool=true by first|rfl|decide|simp[WShape.has,WShape.arms,WShape.armsAll])
  (show(WTm.eq .res (.lit (.bool true))).value [] {args:=args,res:=some (.bool true),after:=args}=some (.bool (true==true)) from w_eq_bool (w_res rfl) w_lit) rfl
theorem vM{l:OpenLaw}{q:yaj}{d:DefRec}(Q:l.most=some n)(y:d.params.defaults=[])(call:∀(w:yak)(s₀ e:yah)(mg mb:Str->Option yai)(t:Addr)(o:Obj)(pm u i:yai)(a:Addr)(vs:List yai)(ns:List Int),Ground q loose [] XP w s₀ mg mb e.heap->YP w e.heap->e.heap.get? t=some o->o.data=.func (docDef d.name d.params d.body d.scope pm u i)->e.heap.CodeRec u d.name->mg d.name=some (.ref t)->e.heap.get? a=some {cls:=.type "list",data:=.seq vs.toArray}->IntsAre vs ns->ns.length<=n->e.gens=#[]->codeAny (model l.prog w) callerA (.call (.ref t) ⟨[.ref a],[]⟩) (λr s'=>r=.ok (.ret (.bool true))/\OldK e.heap s'.heap/\s'.os=e.os/\AllBare s'.gens) e):
  WalkO q loose XP YP l.row.toRowW d [] (λf vs=>PySem.call f vs):=by
 intro w s₀ e mg mb G Y t o pm u i dV kV P hd C H x W I E as j F L v U;obtain rfl:dV=.none:=Dflts.none H y;obtain rfl:kV=.none:=Dflts.noKw H;obtain⟨a,vs,ns,rfl,rfl,m,h,s⟩:=Bv Q j v;refine enter_call (yax (call w s₀ e mg mb t o pm u i a vs ns G Y P (fd_plain hd) C x m h s W) λr s' O=>?_);obtain⟨rfl,h2,Z,X⟩:=O;exact⟨.inl ⟨.bool true,.bool true,[],rfl,λ_=>rfl,.bool true,By l _,λ_=>⟨List.Pairwise.nil,λ_ S=>(nomatch S)⟩⟩,h2,Z,X⟩
end Att
namespace L2
open PySem PySem.Spec PyProof.Rows
theorem lA:∀{vs:List yai}{ns:List Int},IntsAre vs ns->Vals (ns.map V.int) vs:=by
 intro vs ns h
 induction h with
 |nil=>exact .nil
 |cons n t h ih=>exact .cons ⟨t,rfl⟩ ih
def Ox(H:Hp):Prop:=∀b,H b=none∨∃o a,H b=some (.Ah o (.lst a))
theorem Fe{mb:Str->Option yai}{CX:G3}{k:Nat}{fa:Addr}{sp:Sp}{i:yah}{vs:List yai}{ns:List Int}(KX:K.In i.heap)(G:i.heap.Ns yaq mg)(j:i.heap.Ns builtinsNs mb)(Y:∀x:Str,x≠"__name__"->mb x=bootBuiltins x)(I:i.heap.NoLimit)(hg:i.gens=#[])(S:i.heap.get? a=some {cls:=.type "list",data:=.seq vs.toArray})(hi:IntsAre vs ns)(hl:ns.length<=yag)(hr:aX k callerA)(F:∀base:Heap,K.In base->base.Ns yaq mg->dX P w K mg base CX k fa fd [x] sp)(y:∀(s:yah)(u:yai),yaA s fd ⟨[u],[]⟩ [(x,u)])(W:∀H:Hp,Ox H->cN K H a (ns.map V.int)->sp [.ref a] H (λv _=>v=.bl true) λ_ _ _=>False)(Z:∀H e s',CX [] H i (λ_ _ _=>False) e s'->False):
  codeAny (model P w) callerA (.call (.ref fa) ⟨[.ref a],[]⟩) (λr s'=>r=.ok (.ret (.bool true))/\OldK i.heap s'.heap/\s'.os=i.os/\AllBare s'.gens) i:=by
 have rv:=lA hi;have Sb:=hi.length;have t:∀H:Hp,Ox H->cN K H a (ns.map V.int)->jt P w H i.heap->(∀b,H b≠none->b=a)->(H a≠none->K.lookup a=none)->
   codeAny (model P w) callerA (.call (.ref fa) ⟨[.ref a],[]⟩) (λr s'=>r=.ok (.ret (.bool true))/\OldK i.heap s'.heap/\s'.os=i.os/\AllBare s'.gens) i:=by
  intro H hO hS hok hA hK;have Az:∀{b:Addr}{o:Obj},i.heap.get? b=some o->H b=none->(sU i.heap H).get? b=some o:=λe n=>Fo e n;have U:∀{b:Addr}{o:Obj}{O:Array yav}{Q:Nat},i.heap.get? b=some o->o.data=.dict O Q->H b=none:=λ{b o O Q} e d=>by
   cases q:H b with
   |none=>rfl
   |some u=>
    have e':b=a:=hA b (by rw[q];simp);subst e';rw[S] at e;cases e;have d':Data.seq vs.toArray _=Data.dict O Q:=d;cases d'
  have l:∀{b:Addr}{m:Str->Option yai},i.heap.Ns b m->(sU i.heap H).Ns b m:=λ{b m} ⟨o,O,Q,e,d,r⟩=>⟨o,O,Q,Az e (U e d),d,r⟩
  have L:K.In (sU i.heap H):=λb o e=>Az (KX b o e) (by
   cases q:H b with
   |none=>rfl
   |some u=>
    have e':b=a:=hA b (by rw[q];simp);subst e';rw[hK (by rw[q];simp)] at e;cases e)
  have hM:Mod K mg (sU i.heap H):=⟨L,l G,⟨mb,l j,Y⟩,by obtain⟨mc,h1,h2⟩:=I;exact⟨mc,l h1,h2⟩⟩
  have e0:yU P w K mg (sU i.heap H) callerA [] i H:=⟨rfl,hM,λb o e=>ID e,Nat.le_of_eq (B7 _ _),trivial,λb j=>absurd (show b∈([]:List Addr) from j) (by simp),hok,.of_eq hg⟩
  refine yax ((F _ L (l G)).run callerA [] i H ⟨[.ref a],[]⟩ [.ref a] [.ref a] _ _ hr e0 (y i (.ref a)) (.cons rfl .nil) (W H hO hS)) λr s' h=>?_;cases r with
  |error e=>exact(Z H e s' h).elim
  |ok fl=>
   cases fl with
   |next=>exact False.elim h
   |brk=>exact False.elim h
   |cont=>exact False.elim h
   |ret u=>
    obtain⟨v,H',os,bare,un,E,r',q⟩:=h;have q':v=.bl true:=q;subst q';obtain rfl:u=Value.bool true:=r';refine⟨rfl,OldK.of_keep λb o e=>?_,os,bare⟩;cases q:H b with
    |none=>exact un.keep b o e q (by intro z;exact absurd (show b∈([]:List Addr) from z) (by simp)) (by simp)
    |some u=>
     rcases hO b with z|⟨ob,xs,z⟩
     ·rw[q] at z;cases z
     ·have z2:=un.p9 b ob _ z;obtain⟨e1,_⟩:=hok b _ z;obtain⟨e2,_⟩:=E b _ z2;rw[e] at e1;cases e1;exact e2
 cases X:K.lookup a with
 |some o=>
  have e:=KX a o X;rw[S] at e;cases e;refine t (λ_=>none) (λ_=>.inl rfl) (.inr ⟨_,vs.toArray,_,X,rfl,rfl,rfl,by rw[zaY,Sb];exact hl,by simpa using rv⟩) (λb u z=>by have C:(none:Option HO)=some u:=z;cases C) (λb z=>absurd rfl z) λz=>absurd rfl z
 |none=>
  refine t (λb=>if b=a then some (.Ah {cls:=.type "list",data:=.seq vs.toArray} (.lst (ns.map V.int))) else none) (λb=>?_) (.inl (.inr ⟨{cls:=.type "list",data:=.seq vs.toArray},yIp rfl⟩)) (λb u z=>?_) (λb z=>?_) λ_=>X
  ·by_cases j:b=a
   ·exact .inr ⟨_,_,yIp j⟩
   ·exact .inl (yIn j)
  ·by_cases j:b=a
   ·have C:=(yIp j).symm.trans z;cases C;subst j;exact⟨S,by rw[zbJ];exact hl,vs,_,rv,S⟩
   ·have C:=(yIn j).symm.trans z;cases C
  ·by_cases j:b=a
   ·exact j
   ·exact absurd (yIn j) z
theorem Hq{l:PySem.W.OpenLaw}{k:Nat}{q:yaj}{d:DefRec}{K:Params->yaI}{CX:yak->G3}{sp:yak->Sp}(S:l.most=some n)(E:n<=yag)(L:d.params.defaults=[])(Q:aX k callerA)(hY:∀(w:yak)(h:Heap),YP w h->(K w.params).In h)(F:∀(w:yak)(mg:Str->Option yai)(y:Addr)(h:Heap),(K w.params).In h->h.Ns yaq mg->mg d.name=some (.ref y)->∃fd:yap,(∀(s:yah)(u:yai),yaA s fd ⟨[u],[]⟩ [(x,u)])/\∀base:Heap,(K w.params).In base->base.Ns yaq mg->dX l.prog w (K w.params) mg base (CX w) k y fd [x] (sp w))(C:∀(w:yak)(H:Hp)(a:Addr)(ns:List Int),ns.length<=n->Ox H->cN (K w.params) H a (ns.map V.int)->sp w [.ref a] H (λv _=>v=.bl true) λ_ _ _=>False)(O:∀(w:yak)(H:Hp)(s:yah)(e:yai)(s':yah),CX w [] H s (λ_ _ _=>False) e s'->False):
  PySem.W.WalkO q loose XP YP l.row.toRowW d [] (λf vs=>PySem.call f vs):=by
 refine Att.vM S L λw s₀ m mg mb y o pm cd doc a vs ns G Y ho hd X I t j i U=>?_;have P:=hY w _ Y;obtain⟨fd,Z,hF⟩:=F w mg y _ P G.T.g I;exact Fe P G.T.g G.T.b G.T.builtins G.T.nolimit U t j (zcw i E) Q hF Z (λH hO hS=>C w H a ns i hO hS) λH e s'=>O w H m e s'
noncomputable def inClass(s:Stmt)(j:Nat):Stmt:=match s with
 |.ClassDef _ _ _ body _ _ _ _ _ _ _=>body.getD j (.Pass ⟨0,0,0,0⟩)
 |_=>.Pass ⟨0,0,0,0⟩
noncomputable def cD(s:Stmt):Arguments:=match s with
 |.FunctionDef _ a _ _ _ _ _ _ _ _=>a
 |_=>{posonlyargs:=[],args:=[],vararg:=none,kwonlyargs:=[],kw_defaults:=[],kwarg:=none,defaults:=[]}
noncomputable def bC(s:Stmt):List Stmt:=match s with
 |.FunctionDef _ _ b _ _ _ _ _ _ _=>b
 |_=>[]
noncomputable def ah(s:Stmt):Scope:=match s with
 |.FunctionDef _ _ _ _ _ _ sc _ _ _=>sc
 |_=>{kind:=.function,names:=[],isGenerator:=false,isCoroutine:=false}
abbrev nJ:G3:=λ_ _ _ _ _ _=>False
abbrev E0:XK:=λ_ _ _=>False
theorem zR:Passes nJ X E0:=λ_ _ _ _ _ _ _ h=>h.elim
structure GZ(K:yaI)(x qual:Str)(st:Stmt)(f:Addr)(fd:yap):Prop where
 ex:∃(oc:yai)(od:Option Addr)(kV doc pm:yai)(an:Option Addr)(cdv ct:yai)(osl:Array (Option yai)),
  fd=zcD x qual (cD st) (bC st) (ah st) .none kV doc pm an cdv ct/\K.lookup f=some ⟨oc,od,.func fd,osl⟩/\zcf K cdv qual=true
 kp:zce K (.ref f)=true
theorem GZ.ok{k:Nat}{sp:Sp}(F:GZ K x qual st f fd)(S:aA N ps (ah st))(len:∀vs H Q E,sp vs H Q E->vs.length=ps.length)(e:∀(a:yai)(A:yal)(outer:List Env)(s:yah)(H:Hp)(vs:List V)(Q:VK)(E:XK),aX k (A.deeper (envOfC qual (ah st) s.heap.objs.size f a))->sp vs H Q E->∃t,vX (lV nJ P w K mg base N qual (ah st) f a A outer s H E).G8 (bC st) t/\t {nx:=λ_ H'=>Q .bB H',rt:=Q} (start N vs) H):dX P w K mg base nJ (k+1) f fd ps sp:=by
 obtain⟨oc,u,kV,o,pm,v,a,ct,l,rfl,m,j⟩:=F.ex;refine Qx m j S len λA outer s H vs Q E n i=>?_;obtain⟨t,h,q⟩:=e a A outer s H vs Q E n i;exact⟨t,h.G8,q⟩
theorem GZ.binds(F:GZ K x qual st f fd)(h:∀(kV a pm:yai)(i:Option Addr)(e ct:yai)(us:List yai),us.length=ps.length->yaz (zcD x qual (cD st) (bC st) (ah st) .none kV a pm i e ct) ⟨us,[]⟩=pure (ps.zip us)):Binds K fd ps []:=by
 obtain⟨oc,m,kV,a,pm,i,e,ct,j,rfl,n,l⟩:=F.ex;exact .all (h kV a pm i e ct)
theorem jH{oc:yai}{i h:Option Addr}{kV e pm a ct:yai}(l:K.lookup f=some ⟨oc,i,.func (zcD x qual (cD st) (bC st) (ah st) .none kV e pm h a ct),osl⟩)(c:zcf K a qual=true)(k:zce K (.ref f)=true):GZ K x qual st f (zcD x qual (cD st) (bC st) (ah st) .none kV e pm h a ct):=⟨⟨oc,i,kV,e,pm,h,a,ct,osl,rfl,l,c⟩,k⟩
theorem di{k:Nat}(a:aX k A):A.units+1<cLine:=Nat.lt_of_le_of_lt (Nat.add_le_add_left (by decide:1<=64) _) a.units
theorem Ck:b7 X (.builtin "len") (λe H Q=>∃a kvs,e=[V.ref a]/\H a=some (.dK kvs)/\Q (.int kvs.length) H):=by
 intro i s m H e n Q I r h;obtain⟨a,kvs,rfl,j,q⟩:=h;obtain⟨u,rfl,ru⟩:=vals1 r;cases ru;exact QC I (.inl j) λt o l=>⟨.int kvs.length,H,l,⟨t,rfl⟩,q⟩
theorem sR{A B:Prop}(h:B):if false=true then A else B:=by
 rw[yIn zaT];exact h
theorem sQ{A B:Prop}(h:A):if true=true then A else B:=by
 rw[yIp rfl];exact h
theorem ee{c A B:Prop}[Decidable c](h1:c->A)(h2:¬c->B):if c then A else B:=by
 by_cases h:c
 ·rw[yIp h];exact h1 h
 ·rw[yIn h];exact h2 h
def ig(H H':Hp):Prop:=∀b o,H b=some o->H' b=some o
theorem ig.refl(H:Hp):ig H H:=λ_ _ h=>h
theorem ig.trans{i e:Hp}(a:ig H i)(b:ig i e):ig H e:=λc o h=>b c o (a c o h)
theorem ig.free(e:ig H H')(h:H' l=Option.none):H l=Option.none:=by
 cases q:H l with
 |none=>rfl
 |some o=>
  rw[e l o q] at h;cases h
theorem ig.seq(e:ig H H')(h:cN K H a xs):cN K H' a xs:=by
 rcases h with(h|⟨o,h⟩)|h
 ·exact .inl (.inl (e _ _ h))
 ·exact .inl (.inr ⟨o,e _ _ h⟩)
 ·exact .inr h
end L2
set_option maxHeartbeats 4000000
namespace L2
open PySem PySem.Spec PyProof.Rows
theorem jt.t7{D:Addr}{o:HO}(ok:jt P w H h)(a:H D=none)(new:bq P w (upd H D o) h D o):jt P w (upd H D o) h:=λb u e=>by
 by_cases i:b=D
 ·subst i;rw[bF] at e;cases e;exact new
 ·rw[aO i] at e;refine(ok b u e).stay (λ_ _ _ q=>q) (λc q=>?_) (λc j q=>?_)
  ·rw[aO (bE q a)];exact q
  ·rw[aO (bE q a)];exact q
theorem Inv.t7{D:Addr}{o:HO}(I:Inv X pins σ H s)(i:H D=none)(F:X.s₀.heap.objs.size<=D)(E:D≠X.env.locals)(C:∀x c,X.env.cells.lookup x=some c->c≠D)(y:∀p∈X.pn++pins,p.1≠D)(new:bq X.prog X.w (upd H D o) s.heap D o):Inv X pins σ (upd H D o) s:=by
 refine⟨I.ok,I.os,I.bare,⟨I.base.keep,I.base.slot,λb j e n v=>?_,I.base.there,λb l e=>?_,λb j u e=>?_,λb t e=>?_⟩,I.loc,I.cell,?_,λx c e=>?_,λp h=>?_,I.hok.t7 i new,I.len⟩
 ·rw[aO (zcv (zaR (zcF e) F))];exact I.base.free b j e n v
 ·have q:=I.base.tups b l e;rw[aO (bE q i)];exact q
 ·have q:=I.base.p9 b j u e;rw[aO (bE q i)];exact q
 ·obtain⟨m,q⟩:=I.base.rJ b t e;exact⟨m,by rw[aO (bE q i)];exact q⟩
 ·rw[aO (Ne.symm E)];exact I.free
 ·rw[aO (C x c e)];exact I.gU x c e
 ·obtain⟨e,n,a,b,d⟩:=I.pin p h;exact⟨e,by rw[aO (y p h)];exact n,a,b,d⟩
noncomputable def kF(env:Env):List (Str×NameKind)->List (Str×Addr)->List (Str×Addr)
 |[],acc=>acc
 |(n,k)::r,acc=>kF env r (if k==NameKind.free then(n,(env.cells.lookup n).getD 0)::acc else acc)
theorem jJ(env:Env):∀(l:List (Str×NameKind))(i:List (Str×Addr)),(∀n,(n,NameKind.free)∈l->∃c,env.cells.lookup n=some c)->
  (forIn l i (λ(x:Str×NameKind)(r:List (Str×Addr))=>if(x.2==NameKind.free)=true then(do let a <-cellOf env x.1;pure (ForInStep.yield ((x.1,a)::r))) else pure (ForInStep.yield r)):Sem (List (Str×Addr)))=pure (kF env l i)
 |[],i,_=>rfl
 |(n,k)::r,i,h=>by
  rw[List.forIn_cons];by_cases o:(k==NameKind.free)=true
  ·have e:k=.free:=by simpa using o
   subst e;obtain⟨c,q⟩:=h n zaL;have t:cellOf env n=pure c:=by unfold cellOf;rw[q]
   have s:((NameKind.free==NameKind.free)=true)=True:=by simp
   simp only[s,if_true,t,pure_bind];rw[jJ env r _ λm j=>h m (zay _ j)];show _=pure (kF env r (if(NameKind.free==NameKind.free)=true then(n,(env.cells.lookup n).getD 0)::i else i));simp only[s,if_true,q,Option.getD_some]
  ·simp only[yIn o,pure_bind];rw[jJ env r _ λm j=>h m (zay _ j)];show _=pure (kF env r (if(k==NameKind.free)=true then(n,(env.cells.lookup n).getD 0)::i else i));rw[yIn o]
theorem jx(h:∀n,(n,NameKind.free)∈scope.names->∃c,env.cells.lookup n=some c):closureFor scope env=pure (kF env scope.names []):=by
 unfold closureFor;have e:=jJ env scope.names [] h
 first
  |exact e
  |(simp only[bind_pure];exact e)
  |(rw[show(forIn scope.names ([]:List (Str×Addr)) _:Sem (List (Str×Addr)))=_ from e];rfl)
theorem vG(env:Env):∀(l:List (Str×NameKind))(a:List (Str×Addr))(x:Str)(c:Addr),(kF env l a).lookup x=some c->a.lookup x=some c∨(x,NameKind.free)∈l/\c=(env.cells.lookup x).getD 0
 |[],a,x,c,h=>.inl h
 |(n,k)::r,a,x,c,h=>by
  rcases vG env r _ x c h with e|⟨s,q⟩
  ·by_cases m:(k==NameKind.free)=true
   ·rw[yIp m] at e;have o:k=.free:=by simpa using m
    subst o;rw[zbt] at e;by_cases j:(x==n)=true
    ·have ex:x=n:=by simpa using j
     subst ex;rw[j] at e;exact .inr ⟨zaL,(zcL.inj e).symm⟩
    ·have i:(x==n)=false:=by simpa using j
     rw[i] at e;exact .inl e
   ·rw[yIn m] at e;exact .inl e
  ·exact .inr ⟨zay _ s,q⟩
theorem pI(env:Env):∀(l:List (Str×NameKind))(a:List (Str×Addr))(x:Str),((x,NameKind.free)∈l∨∃c,a.lookup x=some c)->∃c,(kF env l a).lookup x=some c
 |[],a,x,h=>by
  rcases h with h|h
  ·simp at h
  ·exact h
 |(n,k)::r,a,x,h=>by
  refine pI env r _ x ?_;rcases h with h|⟨c,h⟩
  ·rcases zch.mp h with e|e
   ·injection e with e1 e2;subst e1 e2;right;exact⟨(env.cells.lookup x).getD 0,by rw[yIp (by rfl),zbt];simp⟩
   ·exact .inl e
  ·right;by_cases m:(k==NameKind.free)=true
   ·rw[yIp m,zbt];by_cases j:(x==n)=true
    ·rw[j];exact⟨_,rfl⟩
    ·have i:(x==n)=false:=by simpa using j
     rw[i];exact⟨c,h⟩
   ·rw[yIn m];exact⟨c,h⟩
theorem iF{scope:Scope}{env:Env}{x:Str}{k:NameKind}:∀{names:List (Str×NameKind)},(names.map λ(n,k)=>if(k==NameKind.free&&env.scope.kind== .function&&env.kindOf n==some .cell) then(n,NameKind.cell) else(n,k)).lookup x=some k->
  names.lookup x=some k∨(k=.cell/\names.lookup x=some .free)
 |[],h=>by simp at h
 |(n,j)::r,h=>by
  have i:=@iF scope env x k r;rw[zci,zbt] at h;rw[zbt];by_cases e:(j==NameKind.free&&env.scope.kind== .function&&env.kindOf n==some .cell)=true
  ·simp only[e,if_true] at h;cases a:x==n with
   |true=>
    rw[a] at h;have l:j=.free:=by
     simp only[zbF] at e;simpa using e.1.1
    exact .inr ⟨(zcL.inj h).symm,by rw[l]⟩
   |false=>rw[a] at h;exact i h
  ·simp only[yIn e] at h;cases a:x==n with
   |true=>rw[a] at h;exact .inl h
   |false=>rw[a] at h;exact i h
theorem jY{scope:Scope}{env:Env}{x:Str}:∀{names:List (Str×NameKind)},names.lookup x=some .free->∃k,(k=NameKind.cell∨k=.free)/\
  (names.map λ(n,k)=>if(k==NameKind.free&&env.scope.kind== .function&&env.kindOf n==some .cell) then(n,NameKind.cell) else(n,k)).lookup x=some k
 |[],h=>by simp at h
 |(n,j)::r,h=>by
  have e:=@jY scope env x r;rw[zbt] at h;rw[zci,zbt];by_cases i:(j==NameKind.free&&env.scope.kind== .function&&env.kindOf n==some .cell)=true
  ·simp only[i,if_true];cases a:x==n with
   |true=>exact⟨.cell,.inl rfl,rfl⟩
   |false=>rw[a] at h;exact e h
  ·simp only[yIn i];cases a:x==n with
   |true=>rw[a] at h;exact⟨.free,.inr rfl,h⟩
   |false=>rw[a] at h;exact e h
noncomputable def qb(caps:List (Option Nat))(a:St):St:=caps.map λo=>o.bind λi=>(a[i]?).getD none
noncomputable def kG(a:List Str)(env:Env)(scope:Scope)(N:List Str)(caps:List (Option Nat)):Bool:=
 caps.length==N.length&&(caps.zip N).all λp=>match p.1 with
  |none=>scope.names.lookup p.2==some .local
  |some i=>a[i]? ==some p.2&&scope.names.lookup p.2==some .free&&(env.scope.names.lookup p.2==some .cell||env.scope.names.lookup p.2==some .free)
noncomputable def jM(X:Cx)(scope:Scope)(N:List Str)(s₀:yah)(H₀:Hp)(C:Addr)(fp:List Addr):Cx where
 prog:=X.prog
 w:=X.w
 K:=X.K
 mg:=X.mg
 base:=X.base
 A:=X.A
 N:=N
 s₀:=s₀
 H₀:=H₀
 env:=compEnvC scope (kF X.env scope.names []) C X.env
 outer:=X.stack
 stack:=X.stack
 ex:=fp
 fn:=λ_=>false
 calm:=X.calm
 pn:=[]
 xe:=λ_ _=>False
structure fh(scope:Scope)(N:List Str):Prop where
 kind:scope.kind=.function
 nd:N.Nodup
 EU:∀y∈scope.names,y.2≠ .cell
 names:∀y∈scope.names,scope.names.lookup y.1=some y.2
theorem FT{a:List Str}(h:kG a env scope N caps=true):
  caps.length=N.length/\∀(j i:Nat)(x:Str),caps[j]? =some (some i)->N[j]? =some x->a[i]? =some x/\scope.names.lookup x=some .free/\(env.kindOf x=some .cell∨env.kindOf x=some .free):=by
 unfold kG at h;rw[zbF] at h;obtain⟨h1,h2⟩:=h;refine⟨by simpa using h1,λj i x m l=>?_⟩;have e:(some i,x)∈caps.zip N:=by
  refine zaB (i:=j) ?_;rw[zaf];exact⟨m,l⟩
 have q:=zbu.mp h2 _ e;simp only[zbF,Bool.or_eq_true,beq_iff_eq] at q;exact⟨q.1.1,q.1.2,q.2⟩
theorem Inv.block{s1:yah}{h1:Heap}{tk:Nat}{m:Str->Option yai}(S:fh scope N)(P:kG X.N X.env scope N caps=true)(t:∀n,(n,NameKind.free)∈scope.names->∃c,X.env.cells.lookup n=some c)(I:Inv X pins σ H s)(U:∀b∈fp,l8 X pins H b)(hfl:∀b∈fp,b<s.heap.objs.size)(hC:s.heap.objs.size<=C)(Q:∀b o,s.heap.get? b=some o->h1.get? b=some o)(hn:h1.Ns C m):
  Inv (jM X scope N s H C fp) [] (qb caps σ) H {s with heap:=h1,toks:=tk}:=by
 obtain⟨L,hat⟩:=FT P;have F:∀x c,(kF X.env scope.names []).lookup x=some c->X.env.cells.lookup x=some c:=λx c e=>by
  rcases vG X.env scope.names [] x c e with z|⟨z1,z2⟩
  ·simp at z
  ·obtain⟨Y,h⟩:=t x z1;rw[h,z2,h];rfl
 have clt:∀x c,X.env.cells.lookup x=some c->c<s.heap.objs.size:=λx c e=>by
  obtain⟨v,o,G,_⟩:=I.cell x c e;exact zcF G
 have RV:∀x,((compEnvC scope (kF X.env scope.names []) C X.env).kindOf x=some .cell∨(compEnvC scope (kF X.env scope.names []) C X.env).kindOf x=some .free)->(x,NameKind.free)∈scope.names:=λx Z=>by
  have sub:∀k,(compEnvC scope (kF X.env scope.names []) C X.env).kindOf x=some k->scope.names.lookup x=some k∨(k=.cell/\scope.names.lookup x=some .free):=λk e=>iF (scope:=scope) (env:=X.env) e;rcases Z with e|e
  ·rcases sub _ e with z|⟨_,z⟩
   ·exact absurd rfl (S.EU _ (PySem.mem_of_lookup z))
   ·exact PySem.mem_of_lookup z
  ·rcases sub _ e with z|⟨z,_⟩
   ·exact PySem.mem_of_lookup z
   ·cases z
 refine⟨⟨I.ok.mod,S.kind,I.ok.glob,I.ok.blt,hC,λx y c e1 e2=>I.ok.inj x y c (F x c e1) (F y c e2),λx Z=>?_,λx c z _=>absurd (show false=true from z) zaT,I.ok.hd,I.ok.frames,.inl rfl,λb E=>?_,I.bs,zcw I.ok.JP I.sz,λb o e E=>?_,λb E hb2=>?_,I.stack,I.zc⟩,rfl,I.bare,Un.kept Q,⟨m,hn,λj x v e1 e2 e3=>?_⟩,λx c e=>?_,I.hok.fresh hC,λx c e=>I.gU x c (F x c e),λp hp=>absurd (show p∈([]:List (Addr×Obj)) from hp) (by simp),I.hok.kept Q,?_⟩
 ·exact pI X.env scope.names [] x (.inl (RV x Z))
 ·exact⟨zcv (zaR (hfl b E) hC),λx c e=>(U b E).2.2.2.2.1 x c (F x c e)⟩
 ·rcases(U b E).2.2.2.1 with z|z
  ·exact I.ok.ET b o e z
  ·exact absurd (zaR (zcF e) (zcw I.ok.JP z)) (zcl _)
 ·rcases zch.mp (I.nT b hb2) with z|z
  ·exact(U b E).2.1 z
  ·exact(U b E).2.2.1 z
 ·have a:(qb caps σ)[j]? =some (some v):=e2;unfold qb at a;rw[zba] at a;cases hc:caps[j]? with
  |none=>rw[hc] at a;cases a
  |some o=>
   rw[hc] at a;cases o with
   |none=>cases a
   |some i=>
    have W:(σ[i]?).getD none=some v:=zcL.inj a;have e5:σ[i]? =some (some v):=by
     cases q:σ[i]? with
     |none=>rw[q] at W;cases W
     |some y=>rw[q] at W;exact congrArg some W
    obtain⟨a1,a2,a3⟩:=hat j i x hc e1;obtain⟨mX,hnX,hl⟩:=I.loc;obtain⟨u,r,l⟩:=hl i x v a1 e5 (a3.elim (λz=>.inr (.inl z)) λz=>.inr (.inr z));refine⟨u,r,.inr ?_⟩;obtain⟨c,hcx,cell⟩:∃c,X.env.cells.lookup x=some c/\s.heap.IsCell c (some u):=by
     rcases l with⟨k,_⟩|⟨_,z⟩
     ·rw[k] at a3;rcases a3 with z|z<;>cases z
     ·exact z
    obtain⟨k,hk2,O⟩:=jY (scope:=scope) (env:=X.env) a2;obtain⟨Y,h⟩:=pI X.env scope.names [] x (.inl (PySem.mem_of_lookup a2));have hcc:Y=c:=zcL.inj ((F x Y h).symm.trans hcx);subst hcc;refine⟨?_,Y,h,?_⟩
    ·rcases hk2 with z|z
     ·subst z;exact .inl O
     ·subst z;exact .inr O
    ·obtain⟨o,G,hd⟩:=cell;exact⟨o,Q _ _ G,hd⟩
 ·obtain⟨v,o,G,hd⟩:=I.cell x c (F x c e);exact⟨v,o,Q _ _ G,hd⟩
 ·show(qb caps σ).length=N.length;unfold qb;rw[zbJ];exact L
theorem iJ{R:Result->yah->Prop}{E a:Expr}{it F:yai}(I:Nat->yah->Prop)(turn:∀n s,I n s->yar (model prog w) A (pyNext it) (λr j=>match r with
   |none=>R (.ok .next) j
   |some v=>yar (model prog w) A (letOwnedTupleGo a it v) (λ_ i=>yar (model prog w) A (assign a env v) (λ_ t=>yar (model prog w) A (forIn ifs true λc r=>if r=true then do let ok <-isTrue c env (eval c env);pure (ForInStep.yield ok) else pure (ForInStep.yield r)) (λok e=>if ok=true then yar (model prog w) A (eval E env) (λx q=>yar (model prog w) A (call (.builtin "list.append") [F,x]) (λ_ o=>∃m,m<n/\I m o) (λ_ _=>False) q) (λ_ _=>False) e else∃m,m<n/\I m e) (λ_ _=>False) t) (λ_ _=>False) i) (λ_ _=>False) j) (λ_ _=>False) s)(n:Nat)(h:I n s):
  codeAny (model prog w) A (.compLoop (.ListComp E [⟨a,iter,ifs,0⟩] scope pos) 0 it F env) R s:=by
 refine codeAny_loop rfl I (λn s O=>?_) n h;show yar _ A ((compTurn (.ListComp E [⟨a,iter,ifs,0⟩] scope pos) 0 it F env).onRaise (λx=>do noteFrame x env;theTreesLotGoes x)) _ _ s;refine wpAny_noted ?_;rw[compTurn_list];refine wpAny_noRaise ?_;refine yaa (yay (yaa (yac (turn n s O) (λr j y=>?_) λ_ _ l=>l)));cases r with
 |none=>exact yab y
 |some v=>
  refine yaa (yac y (λ_ i C=>?_) λ_ _ l=>l);refine yaa (yac C (λ_ t L=>yaa (yac L (λok e u=>?_) λ_ _ l=>l)) λ_ _ l=>l);cases ok with
  |false=>exact yab ⟨rfl,u⟩
  |true=>
   exact yaa (yaa (yac u (λx q H=>yaa (yac H (λ_ o G=>yab (yab ⟨rfl,G⟩)) λ_ _ l=>l)) λ_ _ l=>l))
def K9(X:Cx)(h:List Expr)(t:TT):Prop:=
 ∀(a:List (Addr×Obj))(s:yah)(e:St)(H:Hp)(Q:Bool->Hp->Prop),Inv X a e H s->t e H Q->
  yar (model X.prog X.w) X.A (forIn h true λc r=>if r=true then do let ok <-isTrue c X.env (eval c X.env);pure (ForInStep.yield ok) else pure (ForInStep.yield r)) (TP X a e Q) X.xe s
def OO:TT:=λ_ H Q=>Q true H
theorem dG:K9 X [] OO:=λ_ _ _ H _ I h=>wpAny_tests_nil ⟨H,I,h⟩
theorem cR{t:TT}(h:PT X c t):K9 X [c] t:=λa s e H Q I hw=>wpAny_tests_one (h a s e H Q I hw)
def Kl(J:It)(g:TG)(t:TT)(u:TE)(l:St)(H:Hp)(y:List V->Hp->Prop):Prop:=
 ∃W:Nat->Nat->List V->St->Hp->Prop,(∃m,W 0 m [] l H)/\∀i m h n H,W i m h n H->
  (J.stop i H/\y h H)∨(J.go i H/\∃M:List V->St->Hp->Prop,(∀o e j,M o e j->∃q,q<m/\W (i+1) q o e j)/\∀x j,J.CV i H x j->g x n j λa E=>t a E λb s=>if b=true then u a s λv C=>h.length<yag/\M (h++[v]) a C else M h a s)
noncomputable abbrev lobj(its:List yai)(k:Nat):Obj:={cls:=.type "list",data:=.seq its.toArray k}
theorem vC{elt:Expr}{g:TG}{tt:TT}{J:It}{it:Addr}{tn:Nat->Heap->Prop}{P:Hp}{j:yah}{Qd:List V->Hp->Prop}{RR:yai->Addr->Result->yah->Prop}(S:fh scope N)(am:kG X.N X.env scope N caps=true)(ag:∀n,(n,NameKind.free)∈scope.names->∃c,X.env.cells.lookup n=some c)(hc:X.calm=true)(hg:∀s₀ H₀ C fp,PG (jM X scope N s₀ H₀ C fp) tg g)(ht:∀s₀ H₀ C fp,K9 (jM X scope N s₀ H₀ C fp) ifs tt)(he:∀s₀ H₀ C fp,PE (jM X scope N s₀ H₀ C fp) elt te)(I2:Inv X pins σ P j)(T:Turn X.prog X.w X.K tg J fp it tn)(st2:tn 0 j.heap)(f2:∀b∈fp,l8 X pins P b)(h:Kl J g tt te (qb caps σ) P Qd)(hRR:∀(D C:Addr) m t G (O:yah),Inv X pins σ (upd G D (.lst t)) O->G D=none->O.heap.Ns C m->l8 X pins (upd G D (.lst t)) C->Qd t G->RR (.ref D) C (.ok .next) O):
  yar (model X.prog X.w) X.A (newList []) (λacc F=>yar (model X.prog X.w) X.A (newFunctionEnv scope X.env.globals (kF X.env scope.names []) [] X.env.qual none .none (some X.env)) (λae ai=>codeAny (model X.prog X.w) X.A (.compStart (.ListComp elt [⟨tg,iter,ifs,0⟩] scope pos) 0 (.ref it) acc {ae with scope:=relabel scope X.env}) (RR acc ae.locals) ai) E F) E j:=by
 have hfl:∀b∈fp,b<j.heap.objs.size:=λb l=>by
  obtain⟨o,e,_⟩:=T.obj 0 j.heap st2 b l;exact zcF e
 refine yae (wpAny_newFunctionEnv S.EU (by intro y hy;simp at hy) (λL hns hsb=>?_) S.kind);dsimp only at hns hsb⊢;generalize hHD:j.heap.push {cls:=.type "list",dict:=none,data:=.seq ([]:List yai).toArray}=HD at hns hsb⊢;have hC:HD.objs.size=j.heap.objs.size+1:=by rw[<-hHD,zcg]
 have hDC:j.heap.objs.size≠HD.objs.size:=by rw[hC];exact zcv (Nat.lt_succ_self _)
 have Nu:j.heap.objs.size<=HD.objs.size:=by rw[hC];exact zcK _
 have old:∀b o,j.heap.get? b=some o->L.get? b=some o:=λb o e=>
  hsb.extBut b o (by rw[hC];exact zcv (zbh (zcF e))) (zaq _ (hHD▸zaq _ e))
 have an:L.get? j.heap.objs.size=some (lobj [] 0):=hsb.extBut _ _ hDC (zaq _ (hHD▸zaK _ rfl));obtain⟨W,⟨m0,w0⟩,turn⟩:=h;have IY0:=Inv.block (caps:=caps) (C:=HD.objs.size) (fp:=fp) (s1:=j) (h1:=L) (tk:=j.toks+([]:List (Str×yai)).length) S am ag I2 f2 hfl Nu old hns;have ab:P j.heap.objs.size=none:=I2.hok.fresh (zcI _);have KJ:∀{H:St}{Q:Hp}{s':yah}{a:List yai}{k:Nat},Inv (jM X scope N j P HD.objs.size fp) [] H Q s'->Q j.heap.objs.size=none->s'.heap.get? j.heap.objs.size=some (lobj a k)->
   Inv (jM X scope N j P HD.objs.size fp) [(j.heap.objs.size,lobj a k)] H Q s':=λ{H Q s' a k} I hn e=>I.j5 λp Y=>by
  have ep:p=(j.heap.objs.size,lobj a k):=by simpa using Y
  subst ep;exact⟨e,hn,hDC,λz=>by
   rcases zch.mp (I2.nT _ z) with q|q
   ·exact absurd (q▸I2.lt) (zcl _)
   ·exact I2.P8 (zcI _) q,λv z=>by cases z⟩
 have fY:∀{Q:Hp}{a:List yai}{k:Nat},(∀b∈fp,Q b=none)->∀b∈fp,l8 (jM X scope N j P HD.objs.size fp) [(j.heap.objs.size,lobj a k)] Q b:=λ{Q a k} hn b l=>by
  have z:=f2 b l;refine⟨hn b l,zcv (zaR (hfl b l) Nu),λq=>?_,.inl l,λx c e=>IY0.ok.Sj b l |>.2 x c e,λp Y=>?_⟩
  ·rcases zch.mp (I2.nT b q) with q|q
   ·exact z.2.1 q
   ·exact z.2.2.1 q
  ·have ep:p=(j.heap.objs.size,lobj a k):=by
    have:p∈[]++[(j.heap.objs.size,lobj a k)]:=Y;simpa using this
   subst ep;exact zcy (hfl b l)
 have fin:∀{H:St}{G:Hp}{O:yah}{t:List V}{a:List yai}{k:Nat},Inv (jM X scope N j P HD.objs.size fp) [(j.heap.objs.size,lobj a k)] H G O->Vals t a->t.length<=yag->Qd t G->
   RR (.ref j.heap.objs.size) HD.objs.size (.ok .next) O:=λ{H G O t a k} I r hz q=>by
  have Z:=I.pin (j.heap.objs.size,lobj a k) (by show _∈[]++[_];simp);have IX:Inv X pins σ G O:=I2.QK (s':=O) (ch:=fp) I.os I.base I.hok I.bare λb l=>⟨(f2 b l).2.2.2.1,(f2 b l).2.1,(f2 b l).2.2.2.2.1,(f2 b l).2.2.2.2.2⟩
  have fD:l8 X pins G j.heap.objs.size:=I2.sV (zcI _) Z.2.1;have fC:l8 X pins G HD.objs.size:=I2.sV Nu I.free;have IT:Inv X pins σ (upd G j.heap.objs.size (.lst t)) O:=IX.t7 Z.2.1 I2.sz fD.2.1 (λx c e=>fD.2.2.2.2.1 x c e) (λp Y=>fD.2.2.2.2.2 p Y) ⟨hz,a,k,r,Z.1⟩;obtain⟨m,hn,_⟩:=I.loc;exact hRR _ _ m t G O IT Z.2.1 hn ⟨by rw[aO (Ne.symm hDC)];exact fC.1,fC.2⟩ q
 have ac:∀F:yah,F={j with heap:=L,toks:=j.toks+([]:List (Str×yai)).length}->
   codeAny (model X.prog X.w) X.A (.compLoop (.ListComp elt [⟨tg,iter,ifs,0⟩] scope pos) 0 (.ref it) (.ref j.heap.objs.size) (compEnvC scope (kF X.env scope.names []) HD.objs.size X.env)) (RR (.ref j.heap.objs.size) HD.objs.size) F:=by
  rintro F rfl;refine iJ (λn s'=>∃i t a k H Q,Inv (jM X scope N j P HD.objs.size fp) [(j.heap.objs.size,lobj a k)] H Q s'/\tn i s'.heap/\(∀b∈fp,Q b=none)/\Vals t a/\t.length<=yag/\W i n t H Q) ?_ m0
   ⟨0,[],[],0,_,_,KJ IY0 ab an,T.keep 0 _ _ st2 λb _ o e=>old b o e,λb l=>(f2 b l).1,.nil,zcJ _,w0⟩
  rintro n s3 ⟨i,t,a,k,H,G,I3,st3,fr3,r3,z3,w3⟩;rcases turn i n t H G w3 with⟨stop,qn⟩|⟨go,M,hM,step⟩
  ·refine yac (T.done (jM X scope N j P HD.objs.size fp) rfl rfl rfl hc i _ s3 H G (λ_ _=>False) I3 (fY fr3) st3 stop) (λr O s=>?_) λ_ _ z=>z;obtain⟨hr,I4⟩:=s;subst hr;exact fin I4 r3 z3 qn
  ·refine yac (T.item (jM X scope N j P HD.objs.size fp) rfl rfl rfl hc i _ s3 H G (λ_ _=>False) I3 (fY fr3) st3 go) (λr O s=>?_) λ_ _ z=>z;obtain⟨u,hr,h4⟩:=s;subst hr;refine yac h4 (λ_ s5 s=>?_) λ_ _ z=>z;obtain⟨x,H5,I5,r5,y5,st5,fr5⟩:=s;have I5':=I5.pinned (fY fr5) (T.obj _ _ st5);have KW:∀{τ7:St}{H7:Hp}{s7:yah},Inv (jM X scope N j P HD.objs.size fp) ([(j.heap.objs.size,lobj a k)]++jF fp s5.heap) τ7 H7 s7->tn (i+1) s7.heap/\∀b∈fp,H7 b=none:=λ{τ7 H7 s7} I7=>by
    refine⟨T.keep _ _ _ st5 λb l o e=>(I7.pin (b,o) (zas _ (zas _ (gE l e)))).1,λb l=>?_⟩;obtain⟨o,e,d⟩:=T.obj _ _ st5 b l;exact(I7.pin (b,o) (zas _ (zas _ (gE l e)))).2.1
   refine yac (hg _ _ _ _ _ s5 H H5 x u _ I5' r5 (step x H5 y5)) (λ_ s6 s=>?_) λ_ _ z=>z;obtain⟨U,H6,I6,q6⟩:=s;refine yac (ht _ _ _ _ _ s6 U H6 _ I6 q6) (λok s7 s=>?_) λ_ _ z=>z;obtain⟨H7,I7,q7⟩:=s;cases ok with
   |false=>
    rw[yIn zaT] at q7⊢;obtain⟨m',hm,w7⟩:=hM _ _ _ q7;obtain⟨a1,a2⟩:=KW I7;exact⟨m',hm,i+1,t,a,k,U,H7,I7.fM,a1,a2,r3,z3,w7⟩
   |true=>
    rw[yIp rfl] at q7⊢;refine yac (he _ _ _ _ _ s7 U H7 _ I7 q7) (λv s8 s=>?_) λ_ _ z=>z;obtain⟨y,H8,I8,r8,q8⟩:=s;obtain⟨hz,q8⟩:=q8;obtain⟨m',hm,w8⟩:=hM _ _ _ q8;obtain⟨a1,a2⟩:=KW I8;have Z:=I8.pin (j.heap.objs.size,lobj a k) (zas _ (zaz _ (by simp)));have ap:=r3.length;refine wpAny_list_append_plain (items:=a.toArray) ⟨k,Z.1⟩ (λh' Y hs=>?_) (by rw[zaY];lia);obtain⟨k',Y⟩:=Y;have I9:Inv (jM X scope N j P HD.objs.size fp) [] U H8 {s8 with heap:=h'}:=
     (I8.j5 (pins':=[]) (by simp)).turned (t':=s8.toks) (it:=j.heap.objs.size) (λb o l e=>(hs.2 b l).trans e) Z.2.1 Z.2.2.1 (.inr (zcI _))
      (λx c e z=>by
       have q:=IY0.cell x c e;obtain⟨v,o,ho,hd⟩:=I8.cell x c e;have e1:s8.heap.get? j.heap.objs.size=some (lobj a k):=Z.1;rw[z,e1] at ho;cases ho;cases hd) (by intro p Y;exact absurd (show p∈([]:List (Addr×Obj))++[] from Y) (by simp))
    have hp':({s8 with heap:=h'}:yah).heap.get? j.heap.objs.size=some (lobj (a++[v]) k'):=by
     show h'.get? _=_;rw[Y];simp
    have hkt:tn (i+1) h':=T.keep _ _ _ a1 λb l o e=>(hs.2 b (zcv (hfl b l))).trans e;refine⟨m',hm,i+1,t++[y],a++[v],k',U,H8,KJ I9 Z.2.1 hp',hkt,a2,r3.append (.cons r8 .nil),?_,w8⟩;rw[zaM];exact hz
 exact codeAny_compStart_list (ac _ rfl) (T.self X.A 0 _ _ _ (T.keep 0 _ _ st2 λb _ o e=>old b o e) (ac _ rfl))
noncomputable def freeOk(env:Env)(scope:Scope):Bool:=scope.names.all λp=>p.2 != .free||env.scope.names.lookup p.1==some .cell||env.scope.names.lookup p.1==some .free
theorem Inv.freeOk{H:Hp}{scope:Scope}(I:Inv X pins σ H s)(h:freeOk X.env scope=true):∀n,(n,NameKind.free)∈scope.names->∃c,X.env.cells.lookup n=some c:=λn a=>by
 have q:=zbu.mp h _ a;simp only[Bool.or_eq_true,beq_iff_eq,bne_iff_ne] at q;refine I.ok.has n ?_;rcases q with(q|q)|q
 ·exact absurd rfl q
 ·exact .inl q
 ·exact .inr q
def Dd(caps:List (Option Nat))(i:TI)(g:TG)(j:TT)(l:TE):TE:=λa H Q=>i a H λJ m=>Kl J g j l (qb caps a) m λh e=>∀p,e p=none->Q (.ref p) (upd e p (.lst h))
theorem nj{n:Expr}{F:TI}{g:TG}{G:TT}(S:fh scope N)(j:kG X.N X.env scope N caps=true)(i:L2.freeOk X.env scope=true)(hc:X.calm=true)(hi:PI X tg iter F)(Z:∀s₀ H₀ C fp,PG (jM X scope N s₀ H₀ C fp) tg g)(U:∀s₀ H₀ C fp,K9 (jM X scope N s₀ H₀ C fp) ifs G)(he:∀s₀ H₀ C fp,PE (jM X scope N s₀ H₀ C fp) n te)(W:∀x,foldedSetIterable iter X.env x=pure x:=by intro _;rfl):PE X (.ListComp n [⟨tg,iter,ifs,0⟩] scope pos) (Dd caps F g G te):=by
 intro a s E H Q I h;rw[eval_ListComp];refine wpAny_comprehension_free (use:=none) rfl W (jx (I.freeOk i)) S.kind (λx P u=>u▸S.names x P) ?_;refine bQ (hi a s E H _ I h) λv s1 h1=>bQ h1 λO s2 h2=>?_;obtain⟨it,fp,tn,J,H2,rfl,I2,T,t,f2,u⟩:=h2;refine vC (RR:=λy C=>compPost (model X.prog X.w) X.A X.xe none (EP X a E Q) y C) S j (I.freeOk i) hc Z U he I2 T t f2 u ?_;intro D C m xs H3 L IT hD Y l q;refine⟨m,Y,λh' sb=>⟨.ref D,_,?_,rfl,q D hD⟩⟩;exact IT.turned (t':=L.toks) (it:=C) (λb o hb e=>(sb.2 b hb).trans e) l.1 l.2.1 l.2.2.2.1 l.2.2.2.2.1 l.2.2.2.2.2
theorem gz{j:Expr}{l:Pos}{wi:TI}{g:TG}{tt:TT}(hN:X.N.Nodup)(Y:X.N[i]? =some x)(G:X.env.scope.names.lookup x=some .local)(S:fh scope N)(y:kG X.N X.env scope N caps=true)(t:L2.freeOk X.env scope=true)(hc:X.calm=true)(hi:PI X tg iter wi)(hg:∀s₀ H₀ C fp,PG (jM X scope N s₀ H₀ C fp) tg g)(ht:∀s₀ H₀ C fp,K9 (jM X scope N s₀ H₀ C fp) ifs tt)(he:∀s₀ H₀ C fp,PE (jM X scope N s₀ H₀ C fp) j te)(P:yat (.ListComp j [⟨tg,iter,ifs,0⟩] scope pos) (some (.Name x pos')) l.line X.env=pure true:=by rfl)(hs:∀x,foldedSetIterable iter X.env x=pure x:=by intro _;rfl):PS X (.Assign [.Name x pos'] (.ListComp j [⟨tg,iter,ifs,0⟩] scope pos) l) (De (Dd caps wi g tt te) (Ae i)):=by
 intro a s σ H D I h;rw[exec_Assign_Name_used _ _ _ _ P];refine yaa (yay (yaa ?_));show yar _ X.A (do let _ <-comprehension (.ListComp j [⟨tg,iter,ifs,0⟩] scope pos) scope X.env _ (newList []) false (eval iter X.env) (some (assign (.Name x pos') X.env))) _ _ s;refine yaa (yac (wpAny_comprehension_free (use:=some (assign (.Name x pos') X.env)) (Q:=λ_ E=>SP X a D .next E) rfl hs (jx (I.freeOk t)) S.kind (λx G W=>W▸S.names x G) (bQ (hi a s σ H _ I h) λv s1 h1=>bQ h1 λitv s2 h2=>?_)) (λ_ E hq=>yab (yab hq)) λ_ _ e=>e);obtain⟨it,fp,tn,J,H2,rfl,I2,T,O,f2,W⟩:=h2;refine vC (RR:=λacc C=>compPost (model X.prog X.w) X.A X.xe (some (assign (.Name x pos') X.env)) (λ_ E=>SP X a D .next E) acc C) S y (I.freeOk t) hc hg ht he I2 T O f2 W ?_;intro L C m xs H3 s4 IT hD hn n q;show yar _ X.A (assign (.Name x pos') X.env (.ref L)) _ _ _;obtain⟨F,es,ep,U,u,rC⟩:=id hn;have IP:Inv X (a++[(C,F)]) σ (upd H3 L (.lst xs)) s4:=IT.j5 λp hp=>(zbI.mp hp).elim (λz=>IT.pin p (zas _ z)) λz=>by
  have e:p=(C,F):=by simpa using z
  subst e;exact⟨U,n.1,n.2.1,n.2.2.1,λv z=>by rw[u] at z;cases z⟩
 refine wpAny_assign_Name (jQ (v:=.ref L) IP hN Y (.inl G) rfl (λs5 I5=>?_) (.inr G));have Z:=I5.pin (C,F) (zas _ (zas _ (by simp)));refine⟨m,⟨F,es,ep,Z.1,u,rC⟩,λh' sb=>⟨_,_,?_,q L hD⟩⟩;exact I5.fM.turned (t':=s5.toks) (it:=C) (λb o hb e=>(sb.2 b hb).trans e) n.1 n.2.1 n.2.2.2.1 n.2.2.2.2.1 n.2.2.2.2.2
noncomputable def Rw(x:Str):It:=⟨λi _=>i<x.cps.size,λi H v a=>a=H/\∃c,x.cps[i]? =some c/\v=.str ⟨#[c]⟩,λi _=>i=x.cps.size⟩
theorem qi(a:A.handled=none)(I:Addr)(x:Str)(t:Tok):Walks prog w A I [I] [I] x.cps.size (SignAt x) (λi h=>h.IsStrIter I (strIterType x) x t i):=by
 unfold strIterType;split
 ·exact Walks.strAscii a I x t
 ·exact Walks.strWide a I x t
theorem C0(it:Addr)(x:Str)(t:Tok):Turn P w K tg (Rw x) [it] it (λi h=>h.IsStrIter it (strIterType x) x t i) where
 mem:=by simp
 obj:=λi h a b l=>by
  have e:b=it:=by simpa using l
  subst e;obtain⟨o,e,c,d⟩:=a;exact⟨o,e,λv z=>by rw[d] at z;cases z⟩
 keep:=λi h q a k=>by obtain⟨o,C,r⟩:=a;exact⟨o,k it (by simp) o C,r⟩
 item:=by
  intro X U hw Y S i j s σ H E I n a F;subst U hw Y;obtain⟨f0,f1,f2,f3,f4,Z⟩:=n it (by simp);have W:=qi (prog:=X.prog) (w:=X.w) (I.ok.hd S) it x t;refine W.item i s _ _ F a λv q tk hv m y=>?_;obtain⟨c,u,L,rfl⟩:=hv;have I1:Inv X j σ H {s with heap:=q,toks:=tk}:=I.turned (λb o l e=>y b o (by simpa using l) e) f0 f1 f3 f4 Z;obtain⟨o,C,O,G⟩:=id m;refine⟨_,rfl,vf (s:={s with heap:=q,toks:=tk}) C O G (by unfold strIterType;split<;>decide) ⟨.str ⟨#[c]⟩,H,I1,⟨u,rfl⟩,⟨rfl,c,L,rfl⟩,m,λb l=>(n b l).1⟩⟩
 done:=by
  intro X U hw Y S i j s σ H E I n a F;subst U hw Y;obtain⟨f0,f1,f2,f3,f4,Z⟩:=n it (by simp);have W:=qi (prog:=X.prog) (w:=X.w) (I.ok.hd S) it x t;have e:i=x.cps.size:=F;subst e;exact W.done s _ _ a λq tk y=>⟨rfl,I.turned (t':=tk) (λb o l e=>y b o (by simpa using l) e) f0 f1 f3 f4 Z⟩
 self:=λA i s Q E a h=>by
  have a:s.heap.IsStrIter it (strIterType x) x t i:=a;unfold strIterType at a;split at a
  ·exact wpAny_pyIter_striter_ascii a h
  ·exact wpAny_pyIter_striter_wide a h
mutual
def cO(K:yaI)(H:Hp):yam->V->Prop
 |.none,v=>v=.bB
 |.bool b,v=>v=.bl b
 |.int i,v=>v=.int i
 |.str x,v=>v=.str x
 |.list ds,v=>∃a e,v=.ref a/\cN K H a e/\k7 K H ds e
 |.tuple ds,v=>∃a e,v=.ref a/\dJ K H a e/\k7 K H ds e
 |.dict _,_=>False
def k7(K:yaI)(H:Hp):List yam->List V->Prop
 |[],xs=>xs=[]
 |d::ds,xs=>∃x r,xs=x::r/\cO K H d x/\k7 K H ds r
end
theorem dJ.same(e:∀b o,H b=some o->H' b=some o)(h:dJ K H a xs):dJ K H' a xs:=by
 rcases h with(h|⟨o,h⟩)|h
 ·exact .inl (.inl (e _ _ h))
 ·exact .inl (.inr ⟨o,e _ _ h⟩)
 ·exact .inr h
section
variable {σ:St}
mutual
theorem Inv.reads(I:Inv X pins σ H s):∀(d:yam)(v:V)(u:yai),cO X.K H d v->RelV v u->∃as,Reads s.heap u d as
 |.none,v,u,h,r=>by
  simp only[cO] at h;subst h;cases r;exact⟨_,.none⟩
 |.bool b,v,u,h,r=>by
  simp only[cO] at h;subst h;cases r;exact⟨_,.bool b⟩
 |.int i,v,u,h,r=>by
  simp only[cO] at h;subst h;obtain⟨t,rfl⟩:=r;exact⟨_,.int i t⟩
 |.str x,v,u,h,r=>by
  simp only[cO] at h;subst h;obtain⟨t,rfl⟩:=r;exact⟨_,.str x t⟩
 |.list ds,v,u,h,r=>by
  simp only[cO] at h;obtain⟨a,l,rfl,h2,C⟩:=h;cases r;obtain⟨j,m,⟨o,n,e,y,_,hd⟩,_⟩:=I.list h2;obtain⟨as,q⟩:=Inv.readsAll I ds l j C m;exact⟨_,.list e y hd (by simpa using q)⟩
 |.tuple ds,v,u,h,r=>by
  simp only[cO] at h;obtain⟨a,l,rfl,h2,C⟩:=h;cases r;obtain⟨j,m,⟨o,e,y,n,hd⟩,_⟩:=I.tuple h2;obtain⟨as,q⟩:=Inv.readsAll I ds l j C m;exact⟨_,.tuple e y hd (by simpa using q)⟩
 |.dict _,_,_,h,_=>by simp only[cO] at h
theorem Inv.readsAll(I:Inv X pins σ H s):∀(ds:List yam)(a:List V)(us:List yai),k7 X.K H ds a->Vals a us->∃as,ReadsAll s.heap us ds as
 |[],a,us,h,r=>by
  simp only[k7] at h;subst h;cases r;exact⟨_,.nil⟩
 |d::ds,a,us,h,r=>by
  simp only[k7] at h;obtain⟨x,e,rfl,h2,j⟩:=h;cases r with
  |cons r1 r2=>
   obtain⟨as,i⟩:=Inv.reads I d x _ h2 r1;obtain⟨bs,q2⟩:=Inv.readsAll I ds e _ j r2;exact⟨_,.cons i q2⟩
end
def RZ(K:yaI):List V->Hp->VK->Prop:=λe H Q=>∃x c t u b,e=[x,c]/\RelV c u/\(∀a,RelV c a->a=u)/\kI K H x t/\PySem.W.kitOne K t u=some b/\Q (.bl b) H
theorem FW:b7 X (.builtin "isinstance") (RZ X.K):=by
 intro i s σ H n o Q I r h;obtain⟨x,c,t,u,b,rfl,y,l,ty,e,q⟩:=h;obtain⟨v,j,rfl,m,a⟩:=vals2 r;cases l j a;exact B0 I m ty e λtk=>⟨.bl b,H,I.tok tk,rfl,q⟩
theorem Eu{n:String}:RelV (.ty n) (.type n)/\∀a,RelV (.ty n) a->a=.type n:=⟨rfl,λa h=>h⟩
theorem BG:fE X (yan .LtE) (λx y H Q=>∃i j,x=.str i/\y=.str j/\Q (.bl (!decide (j.cps.toList<i.cps.toList))) H):=by
 intro a s σ H x y v u Q I l e h;obtain⟨i,j,rfl,rfl,q⟩:=h;obtain⟨t,rfl⟩:=l;obtain⟨m,rfl⟩:=e;exact PySem.P.le_str (aU I q rfl)
theorem xU:fE X (binaryOp .Mult) (λx y H Q=>∃i n,x=.str i/\y=.int n/\MulOk i n/\Q (.str (Txt.mul i n)) H):=by
 intro a s σ H x y v u Q I l j h;obtain⟨i,n,rfl,rfl,m,q⟩:=h;obtain⟨t,rfl⟩:=l;obtain⟨e,rfl⟩:=j;exact SB.mul m λe k=>⟨.str _,H,I.tok _,⟨_,rfl⟩,q⟩
theorem zb:∀{ys:List Str}{its:List yai},Vals (ys.map V.str) its->StrsAre its ys
 |[],_,.nil=>.nil
 |y::ys,_,.cons r t=>by
  obtain⟨tk,e⟩:=(show∃t,_=Value.str y t from r)
  subst e;exact .cons y tk (zb t)
end
noncomputable def notStar:Expr->Bool
 |.Starred _ _=>false
 |_=>true
theorem aM(es:List Expr)(env:Env)(h:notStar e=true):yao (e::es) env=(false,eval e env)::yao es env:=by
 cases e<;>first|rfl|cases h
theorem fN{a:Pos}{env:Env}:∀(es:List Expr),es.all notStar=true->(yau a (yao es env)).any (·.1)=false
 |[],_=>rfl
 |e::es,h=>by
  rw[zck,zbF] at h;rw[aM es env h.1];show(false||(yau a (yao es env)).any (·.1))=false;rw[fN es h.2];rfl
theorem t9{a:Pos}{env:Env}:∀(es:List Expr),es.all notStar=true->(yau a (yao es env)).all (λx=>!x.1)=true
 |[],_=>rfl
 |e::es,h=>by
  rw[zck,zbF] at h;rw[aM es env h.1];show(true&&(yau a (yao es env)).all (λx=>!x.1))=true;rw[t9 es h.2];rfl
section
variable {es:List Expr}{t:TA}{id T:String}{r:List V->Hp->VK->Prop}
theorem aD(i:PE X e te)(h:PA X es t)(a:notStar e=true:=by rfl):PA X (e::es) (Dc te t):=Iv i h (aM es X.env a)
theorem R6(n:b7 X (.builtin id) r)(m:Gl X x)(l:X.mg x=none)(h:bootBuiltins x=some (.builtin id))(o:PA X (e::es) t)(j:x≠"__name__":=by decide+kernel)(a:(x==("__debug__":Str))=false:=by decide+kernel)(i:(e::es).all notStar=true:=by rfl):PE X (.Call (.Name x p) (e::es) [] pos) (O1 r t):=by
 have h2:=i;rw[zck,zbF] at h2;exact EI n m l h o j a (aM es X.env h2.1) (fN es h2.2)
theorem R5(n:b7 X (.type T) r)(m:Gl X x)(l:X.mg x=none)(h:bootBuiltins x=some (.type T))(o:PA X (e::es) t)(j:x≠"__name__":=by decide+kernel)(a:(x==("__debug__":Str))=false:=by decide+kernel)(i:(e::es).all notStar=true:=by rfl):PE X (.Call (.Name x p) (e::es) [] pos) (O1 r t):=by
 have h2:=i;rw[zck,zbF] at h2;exact BA n m l h o j a (aM es X.env h2.1) (fN es h2.2)
end
structure Src(K:yaI)(mg:Str->Option yai)(x:Str)(ps:List Str)(st:Stmt):Prop where
 ex:∃f fd,GZ K x x st f fd/\mg x=some (.ref f)/\Binds K fd ps []
structure Def(P:yaj)(w:yak)(K:yaI)(mg:Str->Option yai)(base:Heap)(k:Nat)(x:Str)(ps:List Str)(sp:Sp):Prop where
 ex:∃f fd,dX P w K mg base nJ k f fd ps sp/\mg x=some (.ref f)/\zce K (.ref f)=true/\Binds K fd ps []
theorem Src.def{k:Nat}{sp:Sp}(F:Src K mg x ps st)(S:aA N ps (ah st))(len:∀vs H Q E,sp vs H Q E->vs.length=ps.length)(a:∀(f:Addr)(e:yai)(A:yal)(outer:List Env)(s:yah)(H:Hp)(vs:List V)(Q:VK)(E:XK),aX k (A.deeper (envOfC x (ah st) s.heap.objs.size f e))->sp vs H Q E->∃t,vX (lV nJ P w K mg base N x (ah st) f e A outer s H E).G8 (bC st) t/\t {nx:=λ_ H'=>Q .bB H',rt:=Q} (start N vs) H):Def P w K mg base (k+1) x ps sp:=by
 obtain⟨f,fd,F,h,i⟩:=F.ex;exact⟨f,fd,F.ok S len (a f),h,F.kp,i⟩
theorem Def.imp{k:Nat}{sp a:Sp}(D:Def P w K mg base k x ps sp)(h:∀vs H Q E,a vs H Q E->sp vs H Q E):Def P w K mg base k x ps a:=by
 obtain⟨f,fd,F,e,i,j⟩:=D.ex;exact⟨f,fd,F.imp h,e,i,j⟩
section
variable {es:List Expr}{t:TA}{k:Nat}{sp:Sp}
theorem gB(D:Def X.prog X.w X.K X.mg X.base k x ps sp)(j:aX k X.A)(n:Gl X x)(h:Passes nJ X E0)(q:PA X (e::es) t)(a:(x==("__debug__":Str))=false:=by decide+kernel)(i:(e::es).all notStar=true:=by rfl):
  PE X (.Call (.Name x p) (e::es) [] pos) (za sp [] E0 t):=by
 obtain⟨f,fd,F,l,m,o⟩:=D.ex;have h2:=i;rw[zck,zbF] at h2;exact Iq F j n l m o .nil h q a (aM es X.env h2.1) (fN es h2.2)
theorem gR(T:String)(i:Gl X x)(h:X.mg x=none)(a:bootBuiltins x=some (.type T))(e:x≠"__name__":=by decide+kernel)(hd:(x==("__debug__":Str))=false:=by decide+kernel):PE X (.Name x pos) (tC (.ty T)):=
 Iu i h a rfl e hd
end
noncomputable def N4(scope:Scope)(N:List Str):Bool:=
 (match scope.kind with|.function=>true|_=>false)&&decide N.Nodup&&scope.names.all λy=>y.2 != .cell&&scope.names.lookup y.1==some y.2
theorem vK(h:N4 scope N=true):fh scope N:=by
 unfold N4 at h;rw[zbF,zbF] at h;obtain⟨⟨h1,h2⟩,a⟩:=h;have a:=zbu.mp a;refine⟨?_,of_decide_eq_true h2,λy i=>?_,λy i=>?_⟩
 ·cases e:scope.kind<;>rw[e] at h1<;>first|rfl|cases h1
 ·have:=a y i;rw[zbF] at this;simpa using this.1
 ·have:=a y i;rw[zbF] at this;simpa using this.2
section
variable {o:Expr}{es:List Expr}{to:TE}{t:TA}{cpos:Pos}{T id:String}{r:V->List V->Hp->VK->Prop}
theorem Ir(i:PlainAttrs T)(slot:Slot T name id)(h:typeOf (.builtin id)=pure (.type "method_descriptor"))(l:CJ X id r)(j:PE X o to)(e:attributeBase o name X.env (eval o X.env)=eval o X.env:=by rfl)(a:(apos.endLine==cpos.line)=true:=by rfl)(m:X.K=K:=by rfl):PE X (.Call (.Attribute o name apos) [] [] cpos) (Lu K T r to):=by
 subst m;exact xT i slot h l j e a
theorem MA(m:PlainAttrs T)(slot:Slot T name id)(j:typeOf (.builtin id)=pure (.type "method_descriptor"))(q:CJ X id r)(n:PE X o to)(s:PA X (e::es) t)(h:attributeBase o name X.env (eval o X.env)=eval o X.env:=by rfl)(l:(e::es).all notStar=true:=by rfl)(i:decide ((e::es).length+0+0<30)=true:=by rfl)(a:(apos.endLine==cpos.line)=true:=by rfl)(u:X.K=K:=by rfl):PE X (.Call (.Attribute o name apos) (e::es) [] cpos) (RB K T r to t):=by
 subst u;have h2:=l;rw[zck,zbF] at h2;refine gT m slot j q n s h ?_ a (aM es X.env h2.1) (fN es h2.2);rw[t9 _ l];show(true&&true&&decide ((e::es).length+0+0<30))=true;rw[i];rfl
end
end L2
set_option maxHeartbeats 400000
set_option maxHeartbeats 1000000
set_option maxHeartbeats 4000000
namespace J
open PySem PySem.Spec PyProof.Rows L2
theorem FY{p:List yai->Prop}(h:∀a,p [a])(us:List yai)(e:us.length=1):p us:=by
 cases us with
 |nil=>cases e
 |cons a r=>
  have e:r=[]:=zaa (Nat.succ.inj e);subst e;exact h a
theorem Au{p:List yai->Prop}(h:∀a b,p [a,b])(us:List yai)(e:us.length=2):p us:=by
 cases us with
 |nil=>cases e
 |cons a r=>exact FY (p:=λr=>p (a::r)) (h a) r (Nat.succ.inj e)
theorem Hi{p:List yai->Prop}(h:∀a b c,p [a,b,c])(us:List yai)(e:us.length=3):p us:=by
 cases us with
 |nil=>cases e
 |cons a r=>exact Au (p:=λr=>p (a::r)) (h a) r (Nat.succ.inj e)
theorem by4{p:List yai->Prop}(h:∀a b c d,p [a,b,c,d])(us:List yai)(e:us.length=4):p us:=by
 cases us with
 |nil=>cases e
 |cons a r=>exact Hi (p:=λr=>p (a::r)) (h a) r (Nat.succ.inj e)
theorem Ly{oc:yai}{m j:Option Addr}{kV i pm e ct:yai}(X:K.In h)(G:h.Ns yaq mg)(a:zcE K yaq x=some (some (.ref f)))(l:K.lookup f=some ⟨oc,m,.func (zcD x x (cD st) (bC st) (ah st) .none kV i pm j e ct),osl⟩)(c:zcf K e x=true)(k:zce K (.ref f)=true)(b:∀(kV i pm:yai)(j:Option Addr)(e ct:yai)(us:List yai),us.length=ps.length->yaz (zcD x x (cD st) (bC st) (ah st) .none kV i pm j e ct) ⟨us,[]⟩=pure (ps.zip us)):Src K mg x ps st:=
 ⟨f,_,jH (st:=st) l c k,zcq X G a,(jH (st:=st) l c k).binds b⟩
end J
namespace M
open PySem L2
inductive D where
 |bB|bl (b:Bool)|int (i:Int)|str (x:Str)|tup (ds:List D)|lst (ds:List D)|dct (ks:List Key) (ds:List D)|loc (n:Nat)|ty (n:String)|lq (ns:List Int)|fd|fn (a:Addr)
inductive MO where
 |lst (ds:List D)|dct (ks:List Key) (ds:List D)|feed (n:Nat)|ins (C:Addr) (ks:List Str) (ds:List D)|Hh (F:Addr->List Addr->Heap->Prop) (ks:List D)
noncomputable def fd3(l s d:Int):List (Key×V):=[(.inr "left",.int l),(.inr "seed",.int s),(.inr "drawn",.int d)]
abbrev aL:=List (Option MO)
noncomputable def MO.d:MO->D
 |.lst ds=>.lst ds
 |.dct ks ds=>.dct ks ds
 |.feed _=>.fd
 |.ins _ _ _=>.fd
 |.Hh _ _=>.fd
inductive R where
 |dat (d:D)|new (o:MO)
noncomputable def R.d:R->D
 |.dat d=>d
 |.new o=>o.d
theorem al{p:Addr}{o:HO}(a:H p=none):ig H (upd H p o):=λb h e=>by rw[aO (bE e a)];exact e
structure Wd where
 B:Hp
 r:Nat->Option Addr
structure Wd.le(w w':Wd):Prop where
 b:ig w.B w'.B
 r:∀n a,w.r n=some a->w'.r n=some a
theorem Wd.le.refl{w:Wd}:w.le w:=⟨ig.refl _,λ_ _ h=>h⟩
theorem Wd.le.trans{w j i:Wd}(h:w.le j)(g:j.le i):w.le i:=⟨h.b.trans g.b,λn a e=>g.r n a (h.r n a e)⟩
mutual
def Rep(K:yaI)(w:Wd):D->V->Prop
 |.bB,v=>v=.bB
 |.bl b,v=>v=.bl b
 |.int i,v=>v=.int i
 |.str x,v=>v=.str x
 |.ty n,v=>v=.ty n
 |.fd,v=>∃a,v=.ref a
 |.fn a,v=>v=.ref a
 |.loc n,v=>∃a,w.r n=some a/\v=.ref a
 |.tup ds,v=>∃a h,v=.ref a/\dJ K w.B a h/\ao K w ds h
 |.lst ds,v=>∃a h,v=.ref a/\w.B a=some (.lst h)/\ao K w ds h
 |.lq ns,v=>∃a,v=.ref a/\cN K w.B a (ns.map V.int)
 |.dct ks ds,v=>∃a e,v=.ref a/\w.B a=some (.dK e)/\e.map (·.1)=ks/\ao K w ds (e.map (·.2))
def ao(K:yaI)(w:Wd):List D->List V->Prop
 |[],xs=>xs=[]
 |d::ds,xs=>∃x r,xs=x::r/\Rep K w d x/\ao K w ds r
end
mutual
theorem Rep.le{K:yaI}{w m:Wd}(e:w.le m):∀(d:D)(v:V),Rep K w d v->Rep K m d v
 |.bB,_,h=>by simpa[Rep] using h
 |.bl b,_,h=>by simpa[Rep] using h
 |.int i,_,h=>by simpa[Rep] using h
 |.str x,_,h=>by simpa[Rep] using h
 |.ty x,_,h=>by simpa[Rep] using h
 |.fd,_,h=>by simpa[Rep] using h
 |.fn _,_,h=>by simpa[Rep] using h
 |.loc n,v,h=>by
  simp only[Rep] at h⊢;obtain⟨a,h1,h2⟩:=h;exact⟨a,e.r _ _ h1,h2⟩
 |.lst ds,v,h=>by
  simp only[Rep] at h⊢;obtain⟨a,j,h1,h2,l⟩:=h;exact⟨a,j,h1,e.b _ _ h2,ao.le e ds j l⟩
 |.lq ns,v,h=>by
  simp only[Rep] at h⊢;obtain⟨a,h1,h2⟩:=h;exact⟨a,h1,e.b.seq h2⟩
 |.tup ds,v,h=>by
  simp only[Rep] at h⊢;obtain⟨a,j,h1,h2,l⟩:=h;exact⟨a,j,h1,dJ.same e.b h2,ao.le e ds j l⟩
 |.dct ks ds,v,h=>by
  simp only[Rep] at h⊢;obtain⟨a,j,h1,h2,l,o⟩:=h;exact⟨a,j,h1,e.b _ _ h2,l,ao.le e ds _ o⟩
theorem ao.le{K:yaI}{w i:Wd}(e:w.le i):∀(ds:List D)(a:List V),ao K w ds a->ao K i ds a
 |[],_,h=>by simpa[ao] using h
 |d::ds,a,h=>by
  simp only[ao] at h⊢;obtain⟨x,r,h1,h2,j⟩:=h;exact⟨x,r,h1,Rep.le e d x h2,ao.le e ds r j⟩
end
section
variable {w w':Wd}
theorem ao.nil:ao K w [] []:=by simp[ao]
theorem ao.cons{d:D}{ds:List D}{vs:List V}(h:Rep K w d v)(t:ao K w ds vs):ao K w (d::ds) (v::vs):=by
 simp only[ao];exact⟨v,vs,rfl,h,t⟩
theorem ao.length:∀{ds:List D}{vs:List V},ao K w ds vs->vs.length=ds.length
 |[],_,h=>by simp only[ao] at h;subst h;rfl
 |d::ds,vs,h=>by
  simp only[ao] at h;obtain⟨x,r,rfl,_,h⟩:=h;simp[ao.length h]
theorem ao.get:∀{ds:List D}{vs:List V}{i:Nat}{d:D},ao K w ds vs->ds[i]? =some d->∃v,vs[i]? =some v/\Rep K w d v
 |[],_,_,_,_,e=>by simp at e
 |d::ds,vs,0,d',h,e=>by
  simp only[ao] at h;obtain⟨x,r,rfl,h1,h⟩:=h;simp at e;subst e;exact⟨x,rfl,h1⟩
 |d::ds,vs,i+1,d',h,e=>by
  simp only[ao] at h;obtain⟨x,r,rfl,h1,h⟩:=h;obtain⟨v,j,a⟩:=ao.get (i:=i) h (by simpa using e);exact⟨v,by simpa using j,a⟩
theorem ao.append:∀{ds es:List D}{vs us:List V},ao K w ds vs->ao K w es us->ao K w (ds++es) (vs++us)
 |[],_,_,_,h,g=>by simp only[ao] at h;subst h;exact g
 |d::ds,es,vs,us,h,g=>by
  simp only[ao] at h;obtain⟨x,r,rfl,h1,h⟩:=h;exact ao.cons h1 (ao.append h g)
theorem ao.snoc{ds:List D}{vs:List V}{d:D}(h:ao K w ds vs)(g:Rep K w d v):ao K w (ds++[d]) (vs++[v]):=h.append (.cons g .nil)
theorem ao.take:∀(n:Nat){ds:List D}{vs:List V},ao K w ds vs->ao K w (ds.take n) (vs.take n)
 |0,_,_,_=>by simp[ao]
 |n+1,[],_,h=>by simp only[ao] at h;subst h;simp[ao]
 |n+1,d::ds,vs,h=>by
  simp only[ao] at h;obtain⟨x,r,rfl,h1,h⟩:=h;exact ao.cons h1 (ao.take n h)
theorem ao.drop:∀(n:Nat){ds:List D}{vs:List V},ao K w ds vs->ao K w (ds.drop n) (vs.drop n)
 |0,_,_,h=>h
 |n+1,[],_,h=>by simp only[ao] at h;subst h;simp[ao]
 |n+1,d::ds,vs,h=>by
  simp only[ao] at h;obtain⟨x,r,rfl,h1,h⟩:=h;exact ao.drop n h
theorem ao.set{d:D}(g:Rep K w d v):∀(n:Nat){ds:List D}{vs:List V},ao K w ds vs->ao K w (ds.set n d) (vs.set n v)
 |_,[],_,h=>by simp only[ao] at h;subst h;simp[ao]
 |0,e::ds,vs,h=>by
  simp only[ao] at h;obtain⟨x,r,rfl,h1,h⟩:=h;exact ao.cons g h
 |n+1,e::ds,vs,h=>by
  simp only[ao] at h;obtain⟨x,r,rfl,h1,h⟩:=h;exact ao.cons h1 (ao.set g n h)
end
def l6(K:yaI)(w:Wd):MO->HO->Prop
 |.lst ds,u=>∃h,u=.lst h/\ao K w ds h
 |.dct ks ds,u=>∃e,u=.dK e/\e.map (·.1)=ks/\ao K w ds (e.map (·.2))
 |.feed n,u=>∃l s:Int,u=.dK (fd3 l s n)/\0<=l/\0<=s/\s<1000003
 |.ins C ks ds,u=>∃i fs,u=.ins C i fs/\fs.map (·.1)=ks/\ao K w ds (fs.map (·.2))
 |.Hh F ks,u=>∃(a:Addr)(bs:List Addr),u=.ext (F a bs)/\ao K w ks (bs.map V.ref)
theorem l6.le{w l:Wd}(e:w.le l):∀{o:MO}{u:HO},l6 K w o u->l6 K l o u:=by
 intro o u h;cases o with
 |lst ds=>obtain⟨i,h1,h2⟩:=h;exact⟨i,h1,h2.le e⟩
 |dct ks ds=>obtain⟨i,h1,h2,j⟩:=h;exact⟨i,h1,h2,j.le e⟩
 |feed n=>exact h
 |ins C ks ds=>obtain⟨m,fs,h1,h2,j⟩:=h;exact⟨m,fs,h1,h2,j.le e⟩
 |Hh F ks=>obtain⟨a,bs,h1,h2⟩:=h;exact⟨a,bs,h1,h2.le e⟩
structure Ok(K:yaI)(w:Wd)(H:Hp)(S:aL):Prop where
 base:ig w.B H
 live:∀n o,S[n]? =some (some o)->∃a u,w.r n=some a/\w.B a=none/\H a=some u/\l6 K w o u
 inj:∀n m o o',S[n]? =some (some o)->S[m]? =some (some o')->w.r n=w.r m->n=m
 top:∀n,S.length<=n->w.r n=none
def CI(K:yaI)(w:Wd)(H:Hp)(S:aL):R->V->Prop
 |.dat d,v=>Rep K w d v
 |.new o,v=>∃a u,v=.ref a/\w.B a=none/\H a=some u/\l6 K w o u/\∀n e,S[n]? =some (some e)->w.r n≠some a
def ef(K:yaI)(w:Wd)(δ:List (Option D))(a:St):Prop:=δ.length=a.length/\∀(i:Nat)(d:D),δ[i]? =some (some d)->∃v,a[i]? =some (some v)/\Rep K w d v
theorem ef.le{w j:Wd}{δ:List (Option D)}{a:St}(h:ef K w δ a)(e:w.le j):ef K j δ a:=⟨h.1,λi d q=>by
 obtain⟨v,h1,h2⟩:=h.2 i d q;exact⟨v,h1,h2.le e⟩⟩
theorem ef.set{w:Wd}{δ:List (Option D)}{m:St}{d:D}(h:ef K w δ m)(g:Rep K w d v)(i:Nat):ef K w (δ.set i (some d)) (m.set i (some v)):=by
 refine⟨by simp[h.1],λj e q=>?_⟩;by_cases a:i=j
 ·subst a;rw[zbd] at q⊢;rw[yIp rfl] at q⊢;by_cases l:i<δ.length
  ·rw[yIp l] at q;rw[yIp (by rw[<-h.1];exact l)];have:d=e:=by simpa using q
   subst this;exact⟨v,rfl,g⟩
  ·rw[yIn l] at q;cases q
 ·rw[zaA a] at q⊢;exact h.2 j e q
section
variable {w w':Wd}{S S':aL}
theorem freeze{r:R}(k:Ok K w H S)(h:CI K w H S r v):∃w',w.le w'/\Ok K w' H S/\Rep K w' r.d v:=by
 cases r with
 |dat d=>exact⟨w,.refl,k,h⟩
 |new o=>
  obtain⟨a,u,rfl,y,E,q,x⟩:=h;have le:w.le ⟨upd w.B a u,w.r⟩:=⟨al y,λ_ _ e=>e⟩
  refine⟨⟨upd w.B a u,w.r⟩,le,⟨λb i e=>?_,λn i e=>?_,k.inj,k.top⟩,?_⟩
  ·by_cases j:b=a
   ·subst j;have e:upd w.B b u b=some i:=e;rw[bF] at e;rw[E];exact e
   ·have e:upd w.B a u b=some i:=e;rw[aO j] at e;exact k.base b i e
  ·obtain⟨m,t,h1,h2,I,G⟩:=k.live n i e;have:m≠a:=by intro z;subst z;exact x n i e h1
   exact⟨m,t,h1,by show upd w.B a u m=none;rw[aO this];exact h2,I,G.le le⟩
  ·cases o with
   |lst ds=>
    obtain⟨s,rfl,h⟩:=q;show Rep K _ (.lst ds) _;simp only[Rep];exact⟨a,s,rfl,bF,h.le le⟩
   |dct ks ds=>
    obtain⟨l,rfl,h1,h⟩:=q;show Rep K _ (.dct ks ds) _;simp only[Rep];exact⟨a,l,rfl,bF,h1,h.le le⟩
   |feed n=>
    show Rep K _ .fd _;simp only[Rep];exact⟨a,rfl⟩
   |ins C ks ds=>
    show Rep K _ .fd _;simp only[Rep];exact⟨a,rfl⟩
   |Hh F ks=>
    show Rep K _ .fd _;simp only[Rep];exact⟨a,rfl⟩
theorem store{o:MO}(k:Ok K w H S)(h:CI K w H S (.new o) v):∃w',w.le w'/\Ok K w' H (S++[some o])/\Rep K w' (.loc S.length) v:=by
 obtain⟨a,u,rfl,L,O,I,l⟩:=h;let C:Nat->Option Addr:=λn=>if n=S.length then some a else w.r n;have le:w.le ⟨w.B,C⟩:=⟨ig.refl _,λn b e=>by
  have:n≠S.length:=by
   intro z;subst z;rw[k.top _ (zcI _)] at e;cases e
  show(if n=S.length then some a else w.r n)=some b;rw[yIn this];exact e⟩
 have at_:∀n i,(S++[some o])[n]? =some (some i)->(n=S.length/\i=o)∨(n<S.length/\S[n]? =some (some i)):=λn i e=>by
  by_cases t:n<S.length
  ·rw[zae t] at e;exact .inr ⟨t,e⟩
  ·rw[zab (by lia)] at e;have:n - S.length=0:=by
    cases q:n - S.length with
    |zero=>rfl
    |succ j=>rw[q] at e;simp at e
   rw[this] at e;have e:o=i:=by simpa using e
   exact .inl ⟨by lia,e.symm⟩
 refine⟨⟨w.B,C⟩,le,⟨k.base,λn i e=>?_,λn m x s U F e=>?_,λn l=>?_⟩,?_⟩
 ·rcases at_ n i e with⟨rfl,rfl⟩|⟨t,e⟩
  ·exact⟨a,u,by show(if _ then _ else _)=_;rw[yIp rfl],L,O,I.le le⟩
  ·obtain⟨W,G,h1,h2,Q,P⟩:=k.live n i e;exact⟨W,G,le.r _ _ h1,h2,Q,P.le le⟩
 ·rcases at_ n x U with⟨rfl,rfl⟩|⟨t,E⟩
  ·rcases at_ m s F with⟨rfl,rfl⟩|⟨y,q2⟩
   ·rfl
   ·exfalso;have e:(if S.length=S.length then some a else w.r S.length)=(if m=S.length then some a else w.r m):=e;rw[yIp rfl,yIn (by lia)] at e;exact l m s q2 e.symm
  ·rcases at_ m s F with⟨rfl,rfl⟩|⟨y,q2⟩
   ·exfalso;have e:(if n=S.length then some a else w.r n)=(if S.length=S.length then some a else w.r S.length):=e;rw[yIp rfl,yIn (by lia)] at e;exact l n x E e
   ·have e:(if n=S.length then some a else w.r n)=(if m=S.length then some a else w.r m):=e;rw[yIn (by lia),yIn (by lia)] at e;exact k.inj n m x s E q2 e
 ·rw[zaM] at l;have:n≠S.length:=by simp at l;lia
  show(if n=S.length then some a else w.r n)=none;rw[yIn this];exact k.top n (by simp at l;lia)
 ·simp only[Rep];exact⟨a,by show(if _ then _ else _)=_;rw[yIp rfl],rfl⟩
theorem Ok.alloc{p:Addr}{o:HO}(k:Ok K w H S)(h:H p=none):Ok K w (upd H p o) S:=
 ⟨k.base.trans (al h),λn i e=>by
  obtain⟨a,u,h1,h2,l,j⟩:=k.live n i e;exact⟨a,u,h1,h2,al h _ _ l,j⟩,k.inj,k.top⟩
theorem Ok.free{p:Addr}(k:Ok K w H S)(a:H p=none):w.B p=none:=k.base.free a
theorem Ok.fresh{p:Addr}{o:HO}{m:MO}(k:Ok K w H S)(i:H p=none)(h:l6 K w m o):CI K w (upd H p o) S (.new m) (.ref p):=
 ⟨p,o,rfl,k.free i,bF,h,λn l e z=>by
  obtain⟨a,u,h1,h2,j,q⟩:=k.live n l e;rw[z] at h1;cases h1;rw[i] at j;cases j⟩
theorem Ok.sI{p:Addr}{ds:List D}(k:Ok K w H S)(l:H p=none)(h:ao K w ds xs):∃w',w.le w'/\Ok K w' (upd H p (.tup xs)) S/\Rep K w' (.tup ds) (.ref p):=by
 have q:=k.free l;have le:w.le ⟨upd w.B p (.tup xs),w.r⟩:=⟨al q,λ_ _ e=>e⟩
 refine⟨⟨upd w.B p (.tup xs),w.r⟩,le,⟨λb o e=>?_,λn o e=>?_,k.inj,k.top⟩,?_⟩
 ·by_cases j:b=p
  ·subst j;have e:upd w.B b (.tup xs) b=some o:=e;rw[bF] at e⊢;exact e
  ·have e:upd w.B p (.tup xs) b=some o:=e;rw[aO j] at e⊢;exact k.base b o e
 ·obtain⟨a,u,h1,h2,m,s⟩:=k.live n o e;have i:a≠p:=bE m l;exact⟨a,u,h1,by show upd w.B p _ a=none;rw[aO i];exact h2,by rw[aO i];exact m,s.le le⟩
 ·simp only[Rep];exact⟨p,xs,rfl,dJ.of bF,h.le le⟩
theorem Ok.put{n:Nat}{a:Addr}{o o':MO}{s:HO}(k:Ok K w H S)(e:S[n]? =some (some o))(v:w.r n=some a)(h:l6 K w o' s):Ok K w (upd H a s) (S.set n (some o')):=by
 have L:n<S.length:=by
  rcases zcA n S.length with h|h
  ·exact h
  ·rw[zat h] at e;cases e
 have at_:∀m q,(S.set n (some o'))[m]? =some (some q)->(m=n/\q=o')∨(m≠n/\S[m]? =some (some q)):=λm q z=>by
  by_cases i:n=m
  ·subst i;rw[zbd,yIp rfl,yIp L] at z;have z:o'=q:=by simpa using z
   exact .inl ⟨rfl,z.symm⟩
  ·rw[zaA i] at z;exact .inr ⟨λy=>i y.symm,z⟩
 obtain⟨X,U,h1,h2,W,_⟩:=k.live n o e;rw[v] at h1;cases h1;refine⟨λb q z=>?_,λm q z=>?_,λm l q I z F y=>?_,λm i=>k.top m (by simpa using i)⟩
 ·rw[aO (by intro y;subst y;rw[h2] at z;cases z)];exact k.base b q z
 ·rcases at_ m q z with⟨rfl,rfl⟩|⟨i,z⟩
  ·exact⟨a,s,v,h2,bF,h⟩
  ·obtain⟨b,u,x,Q,P,O⟩:=k.live m q z;have:b≠a:=by
    intro y;subst y;exact i (k.inj m n q o z e (x.trans v.symm))
   exact⟨b,u,x,Q,by rw[aO this];exact P,O⟩
 ·have j:∀m q,(S.set n (some o'))[m]? =some (some q)->∃t,S[m]? =some (some t):=λm q z=>by
   rcases at_ m q z with⟨rfl,rfl⟩|⟨i,z⟩
   ·exact⟨o,e⟩
   ·exact⟨q,z⟩
  obtain⟨t,E⟩:=j m q z;obtain⟨G,C⟩:=j l I F;exact k.inj m l t G E C y
end
noncomputable def aS(S:aL):D->D
 |.loc n=>match S[n]? with
  |some (some o)=>o.d
  |_=>.loc n
 |d=>d
section
variable {w:Wd}{S:aL}
theorem bz{d:D}{ds:List D}(k:Ok K w H S)(h:Rep K w d v)(e:aS S d=.lst ds):∃a i,v=.ref a/\H a=some (.lst i)/\ao K w ds i:=by
 cases d with
 |loc n=>
  simp only[Rep] at h;obtain⟨a,h1,rfl⟩:=h;simp only[aS] at e;split at e
  next o q=>
   obtain⟨x,u,j,t,s,m⟩:=k.live n o q;rw[h1] at j;cases j;cases o with
   |lst es=>
    have:es=ds:=by simpa[MO.d] using e
    subst this;obtain⟨i,rfl,g⟩:=m;exact⟨a,i,rfl,s,g⟩
   |dct ks es=>simp[MO.d] at e
   |feed n=>simp[MO.d] at e
   |ins C ks ds=>simp[MO.d] at e
   |Hh F ks=>simp[MO.d] at e
  next=>cases e
 |lst es=>
  have:es=ds:=by simpa[aS] using e
  subst this;simp only[Rep] at h;obtain⟨a,i,h1,h2,l⟩:=h;exact⟨a,i,h1,k.base _ _ h2,l⟩
 |_=>simp[aS] at e
theorem bX{d:D}{ds:List D}(k:Ok K w H S)(h:Rep K w d v)(e:aS S d=.tup ds):∃a i,v=.ref a/\dJ K H a i/\ao K w ds i:=by
 cases d with
 |loc n=>
  simp only[aS] at e;split at e
  next o q=>cases o<;>simp[MO.d] at e
  next=>cases e
 |tup es=>
  have:es=ds:=by simpa[aS] using e
  subst this;simp only[Rep] at h;obtain⟨a,i,h1,h2,j⟩:=h;exact⟨a,i,h1,dJ.same k.base h2,j⟩
 |_=>simp[aS] at e
theorem fq{d:D}{ks:List Key}{ds:List D}(k:Ok K w H S)(h:Rep K w d v)(e:aS S d=.dct ks ds):∃a kvs,v=.ref a/\H a=some (.dK kvs)/\kvs.map (·.1)=ks/\ao K w ds (kvs.map (·.2)):=by
 cases d with
 |loc n=>
  simp only[Rep] at h;obtain⟨a,h1,rfl⟩:=h;simp only[aS] at e;split at e
  next o q=>
   obtain⟨x,u,i,t,s,m⟩:=k.live n o q;rw[h1] at i;cases i;cases o with
   |lst es=>simp[MO.d] at e
   |feed n=>simp[MO.d] at e
   |ins C ks ds=>simp[MO.d] at e
   |Hh F ks=>simp[MO.d] at e
   |dct ks' es=>
    have:ks'=ks/\es=ds:=by simpa[MO.d] using e
    obtain⟨rfl,rfl⟩:=this;obtain⟨kvs,rfl,g⟩:=m;exact⟨a,kvs,rfl,s,g⟩
  next=>cases e
 |dct ks' es=>
  have:ks'=ks/\es=ds:=by simpa[aS] using e
  obtain⟨rfl,rfl⟩:=this;simp only[Rep] at h;obtain⟨a,j,h1,h2,l⟩:=h;exact⟨a,j,h1,k.base _ _ h2,l⟩
 |_=>simp[aS] at e
end
abbrev bx:=List (Option D)
abbrev AK:=R->aL->Prop
abbrev AE:=bx->aL->AK->Prop
abbrev AT:=bx->aL->(Bool->aL->Prop)->Prop
abbrev AA:=bx->aL->(List D->aL->Prop)->Prop
abbrev AO:=bx->aL->(Option Int->aL->Prop)->Prop
structure k9 where
 nx:bx->aL->Prop
 rt:AK
 bk:bx->aL->Prop:=λ_ _=>False
 ct:bx->aL->Prop:=λ_ _=>False
abbrev AS:=k9->bx->aL->Prop
abbrev AG:=D->bx->aL->(bx->aL->Prop)->Prop
abbrev Ho:=List D->bx->aL->(bx->aL->Prop)->Prop
abbrev AI:=bx->aL->(List D->(aL->Prop)->aL->Prop)->Prop
abbrev A2:=D->D->aL->AK->Prop
abbrev A1:=D->aL->AK->Prop
abbrev AN:=List D->aL->AK->Prop
section
variable (K:yaI)(w:Wd)
def dZ(i:AK)(Q:VK):Prop:=∀r e v a h,w.le a->Ok K a h e->CI K a h e r v->i r e->Q v h
def Bh(i:Bool->aL->Prop)(Q:Bool->Hp->Prop):Prop:=∀b e a h,w.le a->Ok K a h e->i b e->Q b h
def Rf(j:List D->aL->Prop)(Q:List V->Hp->Prop):Prop:=∀e h vs a i,w.le a->Ok K a i h->ao K a e vs->j e h->Q vs i
def Rb(j:Option Int->aL->Prop)(Q:Option Int->Hp->Prop):Prop:=∀i e a h,w.le a->Ok K a h e->j i e->Q i h
def mR(l:bx->aL->Prop)(Q:St->Hp->Prop):Prop:=∀h i e a j,w.le a->Ok K a j i->ef K a h e->l h i->Q e j
structure Bg(Da:k9)(D:Ends):Prop where
 nx:mR K w Da.nx D.nx
 rt:dZ K w Da.rt D.rt
 bk:mR K w Da.bk D.bk
 ct:mR K w Da.ct D.ct
structure Q6(J:It)(ds:List D)(P:aL->Prop):Prop where
 go:∀i H S w' d,w.le w'->Ok K w' H S->P S->ds[i]? =some d->J.go i H
 CV:∀i H S w' d x H',w.le w'->Ok K w' H S->P S->ds[i]? =some d->J.CV i H x H'->∃w3,w'.le w3/\Ok K w3 H' S/\Rep K w3 d x
 stop:∀i H S w',w.le w'->Ok K w' H S->P S->i=ds.length->J.stop i H
def Rg(j:List D->(aL->Prop)->aL->Prop)(R:It->Hp->Prop):Prop:=∀e P h J a i,w.le a->Ok K a i h->Q6 K a J e P->j e P h->R J i
end
section
variable {w w':Wd}
theorem dZ.le{a:AK}{Q:VK}(h:dZ K w a Q)(e:w.le w'):dZ K w' a Q:=λr S v i H l=>h r S v i H (e.trans l)
theorem Bh.le{Qa}{Q}(h:Bh K w Qa Q)(e:w.le w'):Bh K w' Qa Q:=λr S a H l=>h r S a H (e.trans l)
theorem mR.le{Qa}{Q}(h:mR K w Qa Q)(e:w.le w'):mR K w' Qa Q:=λr S v a H l=>h r S v a H (e.trans l)
theorem Bg.le{a:k9}{D:Ends}(h:Bg K w a D)(e:w.le w'):Bg K w' a D:=⟨h.nx.le e,h.rt.le e,h.bk.le e,h.ct.le e⟩
end
section
variable (K:yaI)
def aR(a:AE):TE:=λi H Q=>∃w e S h,Ok K w H S/\ef K w e i/\a e S h/\dZ K w h Q
def ie(a:AT):TT:=λi H Q=>∃w e S h,Ok K w H S/\ef K w e i/\a e S h/\Bh K w h Q
def lW(a:AA):TA:=λi H Q=>∃w e S h,Ok K w H S/\ef K w e i/\a e S h/\Rf K w h Q
def FQ(a:AO):TO:=λi H Q=>∃w e S h,Ok K w H S/\ef K w e i/\a e S h/\Rb K w h Q
def gJ(a:AS):TS:=λD i H=>∃w e S h,Ok K w H S/\ef K w e i/\a h e S/\Bg K w h D
def yu(a:AG):TG:=λx i H Q=>∃w d e S h,Ok K w H S/\ef K w e i/\Rep K w d x/\a d e S h/\mR K w h Q
def vA(a:Ho):J1:=λl j H Q=>∃w h e S i,Ok K w H S/\ef K w e j/\ao K w h l/\a h e S i/\mR K w i Q
def Cf(a:AI):TI:=λi H R=>∃w e S h,Ok K w H S/\ef K w e i/\a e S h/\Rg K w h R
def vB(a:A2):R2:=λx y H Q=>∃w d e S h,Ok K w H S/\Rep K w d x/\Rep K w e y/\a d e S h/\dZ K w h Q
def QJ(a:A1):V->Hp->VK->Prop:=λx H Q=>∃w d S e,Ok K w H S/\Rep K w d x/\a d S e/\dZ K w e Q
def NY(a:AN):List V->Hp->VK->Prop:=λi H Q=>∃w e S h,Ok K w H S/\ao K w e i/\a e S h/\dZ K w h Q
def NZ(a:D->List D->aL->AK->Prop):V->List V->Hp->VK->Prop:=λx i H Q=>∃w d e S h,Ok K w H S/\Rep K w d x/\ao K w e i/\a d e S h/\dZ K w h Q
def av(a:AN):Sp:=λvs H Q _=>NY K a vs H Q
end
structure GE(X:Cx)(e:Expr)(a:AE):Prop where
 p:PE X e (aR X.K a)
structure GT(X:Cx)(e:Expr)(a:AT):Prop where
 p:PT X e (ie X.K a)
structure GW(X:Cx)(e:Expr)(a:AT):Prop where
 p:PW X e (ie X.K a)
structure GA(X:Cx)(e:List Expr)(a:AA):Prop where
 p:PA X e (lW X.K a)
structure GO(X:Cx)(e:Option Expr)(a:AO):Prop where
 p:PO X e (FQ X.K a)
structure GS(X:Cx)(s:Stmt)(a:AS):Prop where
 p:PS X s (gJ X.K a)
structure CM(X:Cx)(s:List Stmt)(a:AS):Prop where
 p:vX X s (gJ X.K a)
structure GG(X:Cx)(e:Expr)(a:AG):Prop where
 p:PG X e (yu X.K a)
structure Rx(X:Cx)(e:List Expr)(a:Ho):Prop where
 p:Ow X e (vA X.K a)
structure GI(X:Cx)(tg e:Expr)(a:AI):Prop where
 p:PI X tg e (Cf X.K a)
structure Q8(X:Cx)(e:List Expr)(a:AT):Prop where
 p:K9 X e (ie X.K a)
structure mQ(X:Cx)(f:yai->yai->Sem yai)(a:A2):Prop where
 p:fE X f (vB X.K a)
structure Tf(X:Cx)(f:yai->Sem yai)(a:A1):Prop where
 p:OJ X f (QJ X.K a)
structure tW(X:Cx)(f:yai)(a:AN):Prop where
 p:b7 X f (NY X.K a)
structure Te(X:Cx)(a:A2):Prop where
 p:Hl X (vB X.K a)
theorem mE{t u:TE}(h:PE X e t)(m:∀a H Q,u a H Q->t a H Q):PE X e u:=λi s a H Q I q=>h i s a H Q I (m a H Q q)
theorem mT{t u:TT}(h:PT X e t)(m:∀a H Q,u a H Q->t a H Q):PT X e u:=λi s a H Q I q=>h i s a H Q I (m a H Q q)
theorem mW{t u:TT}(h:PW X e t)(m:∀a H Q,u a H Q->t a H Q):PW X e u:=λj i s a H Q I q=>h j i s a H Q I (m a H Q q)
theorem mA{e:List Expr}{t u:TA}(h:PA X e t)(m:∀a H Q,u a H Q->t a H Q):PA X e u:=λj i s a H Q I q=>h j i s a H Q I (m a H Q q)
theorem mO{e:Option Expr}{t u:TO}(h:PO X e t)(m:∀a H Q,u a H Q->t a H Q):PO X e u:=λi s a H Q I q=>h i s a H Q I (m a H Q q)
theorem mS{e:Stmt}{t u:TS}(h:PS X e t)(m:∀D a H,u D a H->t D a H):PS X e u:=λi s a H D I q=>h i s a H D I (m D a H q)
theorem SX{e:List Stmt}{t u:TS}(h:vX X e t)(m:∀D a H,u D a H->t D a H):vX X e u:=λi s a H D I q=>h i s a H D I (m D a H q)
theorem mG{t u:TG}(h:PG X e t)(m:∀x a H Q,u x a H Q->t x a H Q):PG X e u:=λi s a H x v Q I r q=>h i s a H x v Q I r (m x a H Q q)
theorem SY{e:List Expr}{t u:J1}(h:Ow X e t)(m:∀x a H Q,u x a H Q->t x a H Q):Ow X e u:=λi s a H x v Q I r q=>h i s a H x v Q I r (m x a H Q q)
theorem mI{g:Expr}{t u:TI}(h:PI X g e t)(m:∀a H R,u a H R->t a H R):PI X g e u:=λi s a H R I q=>h i s a H R I (m a H R q)
theorem mTs{e:List Expr}{t u:TT}(h:K9 X e t)(m:∀a H Q,u a H Q->t a H Q):K9 X e u:=λi s a H Q I q=>h i s a H Q I (m a H Q q)
theorem m2{f:yai->yai->Sem yai}{t u:R2}(h:fE X f t)(m:∀x y H Q,u x y H Q->t x y H Q):fE X f u:=λa s e H x y v u Q I r i q=>h a s e H x y v u Q I r i (m x y H Q q)
theorem m1{f:yai->Sem yai}{t u:V->Hp->VK->Prop}(h:OJ X f t)(m:∀x H Q,u x H Q->t x H Q):OJ X f u:=λa s e H x v Q I r q=>h a s e H x v Q I r (m x H Q q)
theorem mC{f:yai}{t u:List V->Hp->VK->Prop}(h:b7 X f t)(m:∀x H Q,u x H Q->t x H Q):b7 X f u:=λa s e H x v Q I r q=>h a s e H x v Q I r (m x H Q q)
def dR(i:Nat):AE:=λa S Q=>∃d,a[i]? =some (some d)/\Q (.dat d) S
def aC(d:D):AE:=λ_ S Q=>Q (.dat d) S
def wI(r:A2)(a b:AE):AE:=λe S Q=>a e S λx i=>b e i λy h=>r x.d y.d h Q
def Sv(r:A1)(a:AE):AE:=λe S Q=>a e S λx h=>r x.d h Q
def kH:AA:=λ_ S Q=>Q [] S
def jz(a:AE)(b:AA):AA:=λe S Q=>a e S λx j=>b e j λh i=>Q (x.d::h) i
def JW(a:AA):AE:=λh S Q=>a h S λe i=>e.length<=yag/\Q (.dat (.tup e)) i
def Cp(a:AA):AE:=λh S Q=>a h S λe i=>e.length<=yag/\Q (.new (.lst e)) i
def cA(a:AE):AE:=λh S Q=>a h S λr e=>match r with
 |.new o=>Q (.dat (.loc e.length)) (e++[some o])
 |.dat d=>Q (.dat d) e
def aCall(sp:AN)(a:AA):AE:=λe S Q=>a e S λh i=>sp h i Q
def aB(a:AE):AT:=λe S Q=>a e S λr h=>∃b,r.d=.bl b/\Q b h
noncomputable def dY:D->Option Bool
 |.bB=>some false
 |.bl b=>some b
 |.int i=>some (i != 0)
 |.str y=>if y.length<=yag then some ((y.length:Int) != 0) else none
 |.tup ds=>some (!ds.isEmpty)
 |.lst ds=>some (!ds.isEmpty)
 |.dct ks _=>some (!ks.isEmpty)
 |_=>none
def N7(a:AE):AT:=λh S Q=>a h S λr e=>∃b,dY (aS e r.d)=some b/\Q b e
def Gm(a b:AE):AE:=λe S Q=>a e S λx h=>∃c,x.d=.bl c/\if c=true then b e h Q else Q (.dat (.bl false)) h
def Oc(a b:AE):AE:=λe S Q=>a e S λx h=>∃c,x.d=.bl c/\if c=true then Q (.dat (.bl true)) h else b e h Q
def Gd(a:AE):AE:=λe S Q=>a e S λx h=>∃c,x.d=.bl c/\Q (.dat (.bl (!c))) h
def Ol(a b:AT):AT:=λe S Q=>a e S λc h=>if c=true then b e h Q else Q false h
def Sx(a b:AT):AT:=λe S Q=>a e S λc h=>if c=true then Q true h else b e h Q
def Od(a:AT):AT:=λe S Q=>a e S λc h=>Q (!c) h
def SA(t:AT)(a b:AE):AE:=λe S Q=>t e S λc h=>if c=true then a e h Q else b e h Q
def tP(r j:A2)(a b c:AE):AE:=λe S Q=>a e S λx n=>b e n λy m=>r x.d y.d m λz h=>∃k,z.d=.bl k/\if k=true then c e h λi l=>j y.d i.d l Q else Q (.dat (.bl false)) h
def tL:AO:=λ_ S Q=>Q none S
def Gb(a:AE):AO:=λe S Q=>a e S λr h=>∃i,r.d=.int i/\Q (some i) h
def Sw(r:D->Option Int->Option Int->aL->AK->Prop)(a:AE)(l u:AO):AE:=λe S Q=>a e S λx n=>l e n λi m=>u e m λj h=>r x.d i j h Q
def vR:AS:=λD a S=>D.nx a S
def qe(a b:AS):AS:=λD e S=>a {D with nx:=b D} e S
def Ob(a:AE):AS:=λD e S=>a e S D.rt
def QO:AS:=λD _ S=>D.rt (.dat .bB) S
def AJ(a:AE):AS:=λD e S=>a e S λ_ h=>D.nx e h
def Gh(c:AT)(a b:AS):AS:=λD e S=>c e S λk h=>if k=true then a D e h else b D e h
def bW(i:Nat):AG:=λd a S Q=>Q (a.set i (some d)) S
def rB:Ho:=λe a S Q=>e=[]/\Q a S
def iN(a:AG)(b:Ho):Ho:=λi h S Q=>∃d r,i=d::r/\a d h S λe j=>b r e j Q
def rA(n:Nat)(a:Ho):AG:=λd h S Q=>∃e,d=.tup e/\e.length=n/\a e h S Q
def Cq(a:AE)(g:AG):AS:=λD e S=>a e S λr h=>g r.d e h D.nx
def qJ(P:aL->Prop)(g:AG)(b:AS):List D->k9->bx->aL->Prop
 |[],D,δ,S=>P S/\D.nx δ S
 |x::xs,D,δ,S=>P S/\g x δ S λa e=>b {D with nx:=qJ P g b xs D,ct:=qJ P g b xs D,bk:=D.nx} a e
def dW(i:AI)(g:AG)(b:AS):AS:=λD a S=>i a S λe P h=>qJ P g b e D a h
def Ga(c:AT)(b:AS):AS:=λD a S=>∃W:Nat->bx->aL->Prop,(∃m,W m a S)/\∀m a S,W m a S->
 c a S λk i=>if k=true then∃N:bx->aL->Prop,(∀e j,N e j->∃h,h<m/\W h e j)/\b {D with nx:=N,ct:=N,bk:=D.nx} a i else D.nx a i
def vQ:AT:=λ_ S Q=>Q true S
def gV(P:aL->Prop)(g:AG)(t:AT)(e:AE):List D->List D->bx->aL->(List D->aL->Prop)->Prop
 |[],acc,_,S,Q=>P S/\Q acc S
 |x::xs,acc,δ,S,Q=>P S/\g x δ S λa j=>t a j λb h=>if b=true then e a h λr i=>acc.length<yag/\gV P g t e xs (acc++[r.d]) a i Q else gV P g t e xs acc a h Q
noncomputable def qW(caps:List (Option Nat))(δ:bx):bx:=caps.map λo=>o.bind λi=>(δ[i]?).getD none
def cL(caps:List (Option Nat))(i:AI)(g:AG)(t:AT)(e:AE):AE:=λh S Q=>i h S λj P m=>gV P g t e j [] (qW caps h) m λa l=>Q (.new (.lst a)) l
noncomputable def cW(lo:Int)(n:Nat):List D:=(zcM n).map λk:Nat=>.int (lo+(k:Int))
def o6(a:AA):AI:=λe S Q=>a e S λh i=>∃j:Int,h=[.int j]/\(-(2 ^ 62)<=j/\j<2 ^ 62)/\Q (cW 0 j.toNat) (λ_=>True) i
noncomputable def signs(x:Str):List D:=x.cps.toList.map λc=>.str ⟨#[c]⟩
theorem dZ.go{w:Wd}{m:AK}{Q:VK}(h:∀r i v e H',w.le e->Ok K e H' i->Rep K e r.d v->m r i->Q v H'):dZ K w m Q:=λr i v e H' le ok rep q=>by
 obtain⟨n,l,j,a⟩:=freeze ok rep;exact h r i v n H' (le.trans l) j a q
theorem dZ.dat{w a:Wd}{e:AK}{Q:VK}{d:D}{S:aL}(h:dZ K w e Q)(le:w.le a)(ok:Ok K a H S)(rep:Rep K a d v)(q:e (.dat d) S):Q v H:=h (.dat d) S v a H le ok rep q
theorem Pe:∀a H Q,aR K (dR i) a H Q->OP i a H Q:=by
 rintro a H Q ⟨w,l,S,m,ok,env,⟨d,e,q⟩,bk⟩;obtain⟨v,j,h⟩:=env.2 i d e;exact⟨v,j,bk.dat .refl ok h q⟩
theorem Py{d:D}(h:∀w,Rep K w d v):∀a H Q,aR K (aC d) a H Q->tC v a H Q:=by
 rintro a H Q ⟨w,e,S,i,ok,env,q,bk⟩;exact bk.dat .refl ok (h w) q
theorem HV{r:A2}{a b:AE}:∀l H Q,aR K (wI r a b) l H Q->OU (vB K r) (aR K a) (aR K b) l H Q:=by
 rintro l H Q ⟨w,o,S,E,ok,env,q,bk⟩;refine⟨w,o,S,_,ok,env,q,.go λv C G t L j n h x=>?_⟩;refine⟨t,o,C,_,n,env.le j,x,.go λu y F s I i m e q2=>?_⟩;exact⟨s,v.d,u.d,y,E,m,h.le i,e,q2,bk.le (j.trans i)⟩
theorem RJ{r:A1}{a:AE}:∀h H Q,aR K (Sv r a) h H Q->SM (QJ K r) (aR K a) h H Q:=by
 rintro h H Q ⟨w,l,S,t,ok,env,q,bk⟩;refine⟨w,l,S,_,ok,env,q,.go λn s u m v j i e o=>?_⟩;exact⟨m,n.d,s,t,i,e,o,bk.le j⟩
theorem Po:∀a H Q,lW K kH a H Q->Hx a H Q:=by
 rintro a H Q ⟨w,e,S,h,ok,env,q,bk⟩;exact bk [] S [] w H .refl ok .nil q
theorem L8{a:AE}{b:AA}:∀l H Q,lW K (jz a b) l H Q->Dc (aR K a) (lW K b) l H Q:=by
 rintro l H Q ⟨w,o,S,G,ok,env,q,bk⟩;refine⟨w,o,S,_,ok,env,q,.go λE x C t I j n h u=>?_⟩;refine⟨t,o,x,_,n,env.le j,u,λF v vs s y i m e q2=>?_⟩;exact bk _ v _ s y (j.trans i) m (.cons (h.le i) e) q2
theorem Pf{a:AA}:∀i H Q,aR K (JW a) i H Q->OQ (lW K a) i H Q:=by
 rintro i H Q ⟨w,o,S,E,ok,env,q,bk⟩;refine⟨w,o,S,_,ok,env,q,λy C vs x F n l e ⟨u,s⟩=>⟨by rw[e.length];exact u,λp t=>?_⟩⟩;obtain⟨v,m,j,h⟩:=l.sI t e;exact bk.dat (n.trans m) j h s
theorem Pp{a:AA}:∀i H Q,aR K (Cp a) i H Q->OX (lW K a) i H Q:=by
 rintro i H Q ⟨w,m,S,v,ok,env,q,bk⟩;refine⟨w,m,S,_,ok,env,q,λt u vs n x j h e ⟨s,o⟩=>⟨by rw[e.length];exact s,λp l=>?_⟩⟩;exact bk (.new (.lst t)) u _ n _ j (h.alloc l) (h.fresh l ⟨vs,rfl,e⟩) o
theorem s_alloc{a:AE}:∀l H Q,aR K (cA a) l H Q->aR K a l H Q:=by
 rintro l H Q ⟨w,t,S,C,ok,env,q,bk⟩;refine⟨w,t,S,_,ok,env,q,λr y v x E j i e s=>?_⟩;cases r with
 |dat d=>exact bk.dat j i e s
 |new o=>
  obtain⟨u,n,m,h⟩:=store i e;exact bk.dat (j.trans n) m h s
theorem s_call{sp:AN}{a:AA}{E:XK}:∀h H Q,aR K (aCall sp a) h H Q->za (av K sp) [] E (lW K a) h H Q:=by
 rintro h H Q ⟨w,l,S,t,ok,env,q,bk⟩;refine⟨w,l,S,_,ok,env,q,λo s vs m u j i e n=>?_⟩;exact⟨m,o,s,t,i,by rw[zbK];exact e,n,bk.le j⟩
theorem Px{r:AN}{a:AA}:∀h H Q,aR K (aCall r a) h H Q->O1 (NY K r) (lW K a) h H Q:=by
 rintro h H Q ⟨w,l,S,t,ok,env,q,bk⟩;refine⟨w,l,S,_,ok,env,q,λo s vs m u j i e n=>?_⟩;exact⟨m,o,s,t,i,e,n,bk.le j⟩
theorem jC{w:Wd}{d:D}(h:Rep K w d v)(e:d=.bl b):v=.bl b:=by subst e;simpa[Rep] using h
theorem bg{w:Wd}{b:Int}{d:D}(h:Rep K w d v)(e:d=.int b):v=.int b:=by subst e;simpa[Rep] using h
theorem jX{w:Wd}{b:Str}{d:D}(h:Rep K w d v)(e:d=.str b):v=.str b:=by subst e;simpa[Rep] using h
theorem Ig{w:Wd}{d:D}(h:Rep K w d v)(e:d=.bB):v=.bB:=by subst e;simpa[Rep] using h
theorem Er{w:Wd}{n:String}{d:D}(h:Rep K w d v)(e:d=.ty n):v=.ty n:=by subst e;simpa[Rep] using h
theorem Rep.bl{w:Wd}:Rep K w (.bl b) (.bl b):=by simp[Rep]
theorem Rep.int{w:Wd}{b:Int}:Rep K w (.int b) (.int b):=by simp[Rep]
theorem Rep.str{w:Wd}{b:Str}:Rep K w (.str b) (.str b):=by simp[Rep]
theorem Rep.bB{w:Wd}:Rep K w .bB .bB:=by simp[Rep]
theorem Rep.ty{w:Wd}{n:String}:Rep K w (.ty n) (.ty n):=by simp[Rep]
theorem SR{a:AE}:∀i H Q,ie K (aB a) i H Q->tB (aR K a) i H Q:=by
 rintro i H Q ⟨w,m,S,x,ok,env,q,bk⟩;refine⟨w,m,S,_,ok,env,q,.go λv s u n t l j h ⟨b,e,o⟩=>⟨b,jC h e,bk b s n t l j o⟩⟩
theorem Hu{w:Wd}{S:aL}{d:D}(ok:Ok K w H S)(h:Rep K w d v)(e:dY (aS S d)=some b):Gn K v H b:=by
 cases q:aS S d with
 |lst ds=>
  rw[q] at e;obtain⟨a,i,rfl,h1,h2⟩:=bz ok h q;refine Or.inl ⟨i,cN.of h1,?_⟩;have:b= !ds.isEmpty:=by simpa[dY] using e.symm
  rw[this];have:=h2.length;cases ds<;>cases i<;>simp at this⊢
 |tup ds=>
  rw[q] at e;obtain⟨a,i,rfl,h1,h2⟩:=bX ok h q;refine Or.inr (Or.inl ⟨i,h1,?_⟩);have:b= !ds.isEmpty:=by simpa[dY] using e.symm
  rw[this];have:=h2.length;cases ds<;>cases i<;>simp at this⊢
 |dct ks ds=>
  rw[q] at e;obtain⟨a,j,rfl,h1,h2,l⟩:=fq ok h q;refine Or.inr (Or.inr ⟨j,h1,?_⟩);have:b= !ks.isEmpty:=by simpa[dY] using e.symm
  rw[this,<-h2];cases j<;>simp
 |_=>
  rw[q] at e;cases d<;>simp[aS] at q<;>first
   |(subst q;simp only[Rep] at h;subst h;simp[dY] at e;simp[Gn,e];done)
   |(simp[dY] at e;done)
   |skip
  all_goals first
   |(simp only[Rep] at h;subst h;subst q;simp only[dY,zcL.injEq] at e;subst e;rfl)
   |(simp only[Rep] at h;subst h;simp only[dY,zcL.injEq] at e;subst e;rfl)
   |(split at q<;>first|(rename_i o _;cases o<;>simp[MO.d] at q)|(cases q;simp[dY] at e)|cases q)
   |(simp only[Rep] at h;subst h;subst q;simp only[dY] at e;split at e;next hl=>exact⟨hl,by simpa using e.symm⟩;next=>cases e)
   |skip
theorem Pg{a:AE}:∀j H Q,ie K (N7 a) j H Q->(aR K a) j H (λx H'=>∃k,Gn K x H' k/\Q k H'):=by
 rintro j H Q ⟨w,m,S,y,ok,env,q,bk⟩;exact⟨w,m,S,_,ok,env,q,.go λv s u n t l i h ⟨b,e,o⟩=>⟨b,Hu i h e,bk b s n t l i o⟩⟩
theorem Ma{a b:AE}:∀l H Q,aR K (Gm a b) l H Q->Kp (aR K a) (aR K b) l H Q:=by
 rintro l H Q ⟨w,m,S,t,ok,env,q,bk⟩;refine⟨w,m,S,_,ok,env,q,.go λv s u o x h j i ⟨c,e,n⟩=>⟨c,jC i e,?_⟩⟩;cases c with
 |true=>exact sQ ⟨o,m,s,t,j,env.le h,by simpa using n,bk.le h⟩
 |false=>exact sR (bk.dat h j .bl (by simpa using n))
theorem Pk{a b:AE}:∀l H Q,aR K (Oc a b) l H Q->OT (aR K a) (aR K b) l H Q:=by
 rintro l H Q ⟨w,m,S,t,ok,env,q,bk⟩;refine⟨w,m,S,_,ok,env,q,.go λv s u o x h j i ⟨c,e,n⟩=>⟨c,jC i e,?_⟩⟩;cases c with
 |false=>exact sR ⟨o,m,s,t,j,env.le h,by simpa using n,bk.le h⟩
 |true=>exact sQ (bk.dat h j .bl (by simpa using n))
theorem LW{a:AE}:∀i H Q,aR K (Gd a) i H Q->Kf (aR K a) i H Q:=by
 rintro i H Q ⟨w,m,S,v,ok,env,q,bk⟩;exact⟨w,m,S,_,ok,env,q,.go λt u s o x l j h ⟨c,e,n⟩=>⟨c,jC h e,bk.dat l j .bl n⟩⟩
theorem PB{a b:AT}:∀i H Q,ie K (Ol a b) i H Q->O2 (ie K a) (ie K b) i H Q:=by
 rintro i H Q ⟨w,j,S,o,ok,env,q,bk⟩;refine⟨w,j,S,_,ok,env,q,λc n l s e h m=>?_⟩;cases c with
 |true=>exact sQ ⟨l,j,n,o,h,env.le e,by simpa using m,bk.le e⟩
 |false=>exact sR (bk _ n l s e h (by simpa using m))
theorem RL{a b:AT}:∀i H Q,ie K (Sx a b) i H Q->SO (ie K a) (ie K b) i H Q:=by
 rintro i H Q ⟨w,j,S,o,ok,env,q,bk⟩;refine⟨w,j,S,_,ok,env,q,λc n l s e h m=>?_⟩;cases c with
 |false=>exact sR ⟨l,j,n,o,h,env.le e,by simpa using m,bk.le e⟩
 |true=>exact sQ (bk _ n l s e h (by simpa using m))
theorem Pn{a:AT}:∀e H Q,ie K (Od a) e H Q->OV (ie K a) e H Q:=by
 rintro e H Q ⟨w,j,S,s,ok,env,q,bk⟩;exact⟨w,j,S,_,ok,env,q,λc n l o i h m=>bk _ n l o i h m⟩
theorem RM{t:AT}{a b:AE}:∀i H Q,aR K (SA t a b) i H Q->SQ (ie K t) (aR K a) (aR K b) i H Q:=by
 rintro i H Q ⟨w,j,S,o,ok,env,q,bk⟩;refine⟨w,j,S,_,ok,env,q,λc n l s e h m=>?_⟩;cases c with
 |true=>exact sQ ⟨l,j,n,o,h,env.le e,by simpa using m,bk.le e⟩
 |false=>exact sR ⟨l,j,n,o,h,env.le e,by simpa using m,bk.le e⟩
theorem zB{r G:A2}{a b c:AE}:∀t H Q,aR K (tP r G a b c) t H Q->wU (vB K r) (vB K G) (aR K a) (aR K b) (aR K c) t H Q:=by
 rintro t H Q ⟨w,u,S,Qa,ok,env,q,bk⟩;refine⟨w,u,S,_,ok,env,q,.go λW S1 v1 P H1 s C j X=>?_⟩;refine⟨P,u,S1,_,C,env.le s,X,.go λF S2 v2 O H2 o y e q2=>?_⟩;refine⟨O,W.d,F.d,S2,_,y,j.le o,e,q2,.go λr3 S3 v3 L H3 n l i v=>?_⟩;obtain⟨k,Y,q3⟩:=v;refine⟨k,jC i Y,?_⟩;have E:=s.trans (o.trans n);cases k with
 |false=>exact sR (bk.dat E l .bl (by simpa using q3))
 |true=>
  rw[yIp rfl] at q3;refine sQ ⟨L,u,S3,_,l,env.le E,q3,.go λU Z v4 I H4 m x h q4=>?_⟩;exact⟨I,F.d,U.d,Z,_,x,e.le (n.trans m),h,q4,bk.le (E.trans m)⟩
theorem DQ:∀a H Q,FQ K tL a H Q->yZ a H Q:=by
 rintro a H Q ⟨w,e,S,h,ok,env,q,bk⟩;exact bk none S w H .refl ok q
theorem LU{a:AE}:∀j H Q,FQ K (Gb a) j H Q->Ke (aR K a) j H Q:=by
 rintro j H Q ⟨w,n,S,y,ok,env,q,bk⟩;exact⟨w,n,S,_,ok,env,q,.go λx t v o u m l h ⟨i,e,s⟩=>⟨i,bg h e,bk _ t o u m l s⟩⟩
def K4(K:yaI)(a:D->Option Int->Option Int->aL->AK->Prop):V->Option Int->Option Int->Hp->VK->Prop:=λx i j H Q=>∃w d S e,Ok K w H S/\Rep K w d x/\a d i j S e/\dZ K w e Q
theorem RK{r:D->Option Int->Option Int->aL->AK->Prop}{a:AE}{l u:AO}:∀o H Q,aR K (Sw r a l u) o H Q->SN (K4 K r) (aR K a) (FQ K l) (FQ K u) o H Q:=by
 rintro o H Q ⟨w,s,S,P,ok,env,q,bk⟩;refine⟨w,s,S,_,ok,env,q,.go λF O U E Y h x m G=>?_⟩;refine⟨E,s,O,_,x,env.le h,G,λi L C X e v q2=>?_⟩;refine⟨C,s,L,_,v,env.le (h.trans e),q2,λj I y W n t q3=>?_⟩;exact⟨y,F.d,I,P,t,m.le (e.trans n),q3,bk.le (h.trans (e.trans n))⟩
theorem LX:∀D a H,gJ K vR D a H->Kg D a H:=by
 rintro D a H ⟨w,e,S,h,ok,env,q,bk⟩;exact bk.nx e S a w H .refl ok env q
theorem Ph{a b:AS}:∀D h H,gJ K (qe a b) D h H->OR (gJ K a) (gJ K b) D h H:=by
 rintro D h H ⟨w,n,S,u,ok,env,q,bk⟩;refine⟨w,n,S,_,ok,env,q,⟨λi t m o v l j e s=>?_,bk.rt,bk.bk,bk.ct⟩⟩;exact⟨o,i,t,u,j,e,s,bk.le l⟩
theorem Pj{a:AE}:∀D e H,gJ K (Ob a) D e H->OS (aR K a) D e H:=by
 rintro D e H ⟨w,h,S,i,ok,env,q,bk⟩;exact⟨w,h,S,_,ok,env,q,bk.rt⟩
theorem L7{a:AE}:∀D h H,gJ K (AJ a) D h H->Km (aR K a) D h H:=by
 rintro D h H ⟨w,j,S,v,ok,env,q,bk⟩;exact⟨w,j,S,_,ok,env,q,.go λu o t m s e i l n=>bk.nx j o h m s e i (env.le e) n⟩
theorem Pq{c:AT}{a b:AS}:∀D i H,gJ K (Gh c a b) D i H->OY (ie K c) (gJ K a) (gJ K b) D i H:=by
 rintro D i H ⟨w,j,S,o,ok,env,q,bk⟩;refine⟨w,j,S,_,ok,env,q,λk n l s e h m=>?_⟩;cases k with
 |true=>exact sQ ⟨l,j,n,o,h,env.le e,by simpa using m,bk.le e⟩
 |false=>exact sR ⟨l,j,n,o,h,env.le e,by simpa using m,bk.le e⟩
theorem rT:∀x a H Q,yu K (bW i) x a H Q->Ae i x a H Q:=by
 rintro x a H Q ⟨w,d,e,S,h,ok,env,rep,q,bk⟩;exact bk _ S _ w H .refl ok (env.set rep i) q
theorem L4:∀x a H Q,vA K rB x a H Q->Qs x a H Q:=by
 rintro x a H Q ⟨w,h,e,S,i,ok,env,rep,⟨rfl,q⟩,bk⟩;exact⟨by simpa[ao] using rep,bk _ S _ w H .refl ok env q⟩
theorem HX{a:AG}{b:Ho}:∀x i H Q,vA K (iN a b) x i H Q->K1 (yu K a) (vA K b) x i H Q:=by
 rintro x i H Q ⟨w,y,n,S,u,ok,env,rep,⟨d,r,rfl,q⟩,bk⟩;simp only[ao] at rep;obtain⟨v,vs,rfl,h1,h2⟩:=rep;refine⟨v,vs,rfl,w,d,n,S,_,ok,env,h1,q,λj t m o C e l h s=>?_⟩;exact⟨o,r,j,t,u,l,h,h2.le e,s,bk.le e⟩
theorem L3{a:Ho}:∀x e H Q,yu K (rA n a) x e H Q->Qp K n (vA K a) x e H Q:=by
 rintro x e H Q ⟨w,d,h,S,m,ok,env,rep,⟨l,rfl,j,q⟩,bk⟩;simp only[Rep] at rep;obtain⟨p,i,rfl,h1,h2⟩:=rep;exact⟨p,i,rfl,dJ.same ok.base h1,by rw[h2.length];exact j,w,l,h,S,m,ok,env,h2,q,bk⟩
theorem DT{a:AE}{g:AG}:∀D i H,gJ K (Cq a g) D i H->De (aR K a) (yu K g) D i H:=by
 rintro D i H ⟨w,l,S,v,ok,env,q,bk⟩;refine⟨w,l,S,_,ok,env,q,.go λn s t m u h j e o=>?_⟩;exact⟨m,n.d,l,s,_,j,env.le h,e,o,bk.nx.le h⟩
theorem Pw{i:AI}{g:AG}{b:AS}:∀D W H,gJ K (dW i g b) D W H->OZ (Cf K i) (yu K g) (gJ K b) D W H:=by
 rintro D W H ⟨w,δ,S,Da,ok,env,q,bk⟩;refine⟨w,δ,S,_,ok,env,q,λs P S1 J w1 H1 O ok1 it q1=>?_⟩;refine⟨λi m W H=>m=s.length - i/\i<=s.length/\∃u n C,w1.le u/\Ok K u H C/\ef K u n W/\qJ P g b (s.drop i) Da n C,⟨s.length,by simp,zcJ _,w1,δ,S1,.refl,ok1,env.le O,by simpa using q1⟩,?_⟩;rintro i m σ2 H2 ⟨rfl,hi,u,n,C,a,l,j,G⟩;by_cases Q:i<s.length
 ·rw[zag Q] at G;obtain⟨hP,G⟩:=G;have hd:s[i]? =some s[i]:=zak Q;refine .inr ⟨it.go i H2 C u _ a l hP hd,λU H'=>∃X t S3,w1.le X/\Ok K X H' S3/\ef K X t U/\qJ P g b (s.drop (i+1)) Da t S3,λU H' h=>⟨_,by lia,rfl,Q,h⟩,λx H' y=>?_⟩;obtain⟨w2',v,l,rx⟩:=it.CV i H2 C u _ x H' a l hP hd y
  replace j:=j.le v
  replace a:=a.trans v
  refine⟨w2',s[i],n,C,_,l,j,rx,G,λt S3 σ3 X H3 L ok3 Z q3=>?_⟩;have Y:=O.trans (a.trans L);refine⟨X,t,S3,_,ok3,Z,q3,⟨?_,bk.rt.le Y,bk.nx.le Y,?_⟩⟩
  ·exact λE S4 σ4 w4 H4 I F o q4=>⟨w4,E,S4,a.trans (L.trans I),F,o,q4⟩
  ·exact λE S4 σ4 w4 H4 I F o q4=>⟨w4,E,S4,a.trans (L.trans I),F,o,q4⟩
 ·have e:i=s.length:=by lia
  subst e;rw[List.drop_length] at G;exact .inl ⟨it.stop _ H2 C u a l G.1 rfl,bk.nx n C σ2 u H2 (O.trans a) l j G.2⟩
theorem HS{c:AT}{b:AS}:∀D t H,gJ K (Ga c b) D t H->C6 (ie K c) (gJ K b) D t H:=by
 rintro D t H ⟨w,δ,S,Da,ok,env,⟨W,⟨m0,w0⟩,turn⟩,bk⟩;refine⟨λm t H=>∃v a F,w.le v/\Ok K v H F/\ef K v a t/\W m a F,⟨m0,w,δ,S,.refl,ok,env,w0⟩,?_⟩;rintro m I H1 ⟨v,a,F,y,P,i,h1⟩;refine⟨v,a,F,_,P,i,turn m a F h1,λk Y X H2 l x q2=>?_⟩;cases k with
 |false=>exact sR (bk.nx a Y I X H2 (y.trans l) x (i.le l) (by simpa using q2))
 |true=>
  rw[yIp rfl] at q2;obtain⟨N,hN,q2⟩:=q2;have j:=y.trans l;refine sQ ⟨λs Z=>∃u e E,w.le u/\Ok K u Z E/\ef K u e s/\N e E,?_,X,a,Y,_,x,i.le l,q2,⟨?_,bk.rt.le j,bk.nx.le j,?_⟩⟩
  ·rintro s Z ⟨u,e,E,Q,O,C,n3⟩;obtain⟨m',hm,h3⟩:=hN e E n3;exact⟨m',hm,u,e,E,Q,O,C,h3⟩
  ·exact λn U G L H4 q o h q4=>⟨L,n,U,j.trans q,o,h,q4⟩
  ·exact λn U G L H4 q o h q4=>⟨L,n,U,j.trans q,o,h,q4⟩
theorem Pd:∀a H Q,ie K vQ a H Q->OO a H Q:=by
 rintro a H Q ⟨w,e,S,h,ok,env,q,bk⟩;exact bk true S w H .refl ok q
theorem FD{w:Wd}{δ:bx}{a:St}(h:ef K w δ a)(caps:List (Option Nat)):ef K w (qW caps δ) (qb caps a):=by
 refine⟨by simp[qW,qb],λi d e=>?_⟩;simp only[qW,zba] at e;cases q:caps[i]? with
 |none=>rw[q] at e;cases e
 |some o=>
  rw[q] at e;cases o with
  |none=>simp at e
  |some j=>
   cases z:δ[j]? with
   |none=>rw[Option.map_some] at e;simp[z] at e
   |some d'=>
    simp[z] at e;subst e;obtain⟨v,h1,h2⟩:=h.2 j d z;exact⟨v,by simp[qb,zba,q,h1],h2⟩
theorem DS{i:AI}{g:AG}{t:AT}{e:AE}:∀σ H Q,aR K (cL caps i g t e) σ H Q->Dd caps (Cf K i) (yu K g) (ie K t) (aR K e) σ H Q:=by
 rintro σ H Q ⟨w,δ,S,Qa,ok,env,q,bk⟩;refine⟨w,δ,S,_,ok,env,q,λF P S1 J w1 H1 le1 ok1 it q1=>?_⟩;refine⟨λi m xs τ H=>m=F.length - i/\i<=F.length/\∃I G v j,w1.le I/\Ok K I H v/\ef K I G τ/\ao K I j xs/\gV P g t e (F.drop i) j G v (λX v=>Qa (.new (.lst X)) v),⟨F.length,by simp,zcJ _,w1,qW caps δ,S1,[],.refl,ok1,FD (env.le le1) caps,.nil,by simpa using q1⟩,?_⟩;rintro i m xs τ2 H2 ⟨rfl,hi,I,G,v,j,l,o,E,a,O⟩;by_cases W:i<F.length
 ·rw[zag W] at O;obtain⟨hP,O⟩:=O;have hd:F[i]? =some F[i]:=zak W;refine .inr ⟨it.go i H2 v I _ l o hP hd,λys τ' H'=>∃Y n S3 j,w1.le Y/\Ok K Y H' S3/\ef K Y n τ'/\ao K Y j ys/\gV P g t e (F.drop (i+1)) j n S3 (λX v=>Qa (.new (.lst X)) v),λys σ' H' h=>⟨_,by lia,rfl,W,h⟩,λx H' y=>?_⟩;obtain⟨w2',C,o,rx⟩:=it.CV i H2 v I _ x H' l o hP hd y
  replace E:=E.le C
  replace l:=l.trans C
  replace a:=a.le C
  refine⟨w2',F[i],G,v,_,o,E,rx,O,λn S3 σ3 Y H3 L ok3 u q3=>?_⟩;refine⟨Y,n,S3,_,ok3,u,q3,λk S4 w4 H4 s ok4 q4=>?_⟩;cases k with
  |false=>
   exact sR ⟨w4,n,S4,j,l.trans (L.trans s),ok4,u.le s,a.le (L.trans s),by simpa using q4⟩
  |true=>
   rw[yIp rfl] at q4;refine sQ ⟨w4,n,S4,_,ok4,u.le s,q4,.go λr5 S5 v5 w5 H5 U ok5 Z z1'=>?_⟩;obtain⟨hz,q5⟩:=z1';exact⟨by rw[a.length];exact hz,w5,n,S5,j++[r5.d],l.trans (L.trans (s.trans U)),ok5,u.le (s.trans U),(a.le (L.trans (s.trans U))).snoc Z,q5⟩
 ·have e:i=F.length:=by lia
  subst e;rw[List.drop_length] at O;refine .inl ⟨it.stop _ H2 v I l o O.1 rfl,λp hp=>?_⟩;exact bk (.new (.lst j)) v _ I _ (le1.trans l) (o.alloc hp) (o.fresh hp ⟨xs,rfl,a⟩) O.2
theorem Jb{w:Wd}{p:Addr}{ds:List D}(h1:w.B p=some (.lst xs))(h:ao K w ds xs):Q6 K w (Q5 K p) ds (λ_=>True) where
 go:=λi H S a d le ok l e=>by
  obtain⟨v,j,_⟩:=h.get e;exact⟨xs,v,cN.of ((le.b.trans ok.base) _ _ h1),j⟩
 CV:=λi H S a d x q le ok l e y=>by
  obtain⟨v,j,o⟩:=h.get e;obtain⟨n,m⟩:=y;have:=m xs (cN.of ((le.b.trans ok.base) _ _ h1));rw[j] at this;cases this;subst n;exact⟨a,.refl,ok,o.le le⟩
 stop:=λi H S a le ok l e=>⟨xs,cN.of ((le.b.trans ok.base) _ _ h1),by rw[h.length];lia⟩
theorem Jc{w:Wd}{p:Addr}{ds:List D}(o:w.r n=some p):Q6 K w (Q5 K p) ds (λS=>S[n]? =some (some (.lst ds))) where
 go:=λi H S m d le ok l e=>by
  obtain⟨b,u,k1,s,j,a,rfl,h⟩:=ok.live n _ l;rw[le.r n p o] at k1;cases k1;obtain⟨v,q,_⟩:=h.get e;exact⟨a,v,cN.of j,q⟩
 CV:=λi H S m d x F le ok l e y=>by
  obtain⟨b,u,k1,s,j,a,rfl,h⟩:=ok.live n _ l;rw[le.r n p o] at k1;cases k1;obtain⟨v,q,E⟩:=h.get e;obtain⟨C,t⟩:=y;have:=t a (cN.of j);rw[q] at this;cases this;subst C;exact⟨m,.refl,ok,E⟩
 stop:=λi H S m le ok l e=>by
  obtain⟨b,u,k1,s,j,a,rfl,h⟩:=ok.live n _ l;rw[le.r n p o] at k1;cases k1;exact⟨a,cN.of j,by rw[h.length];lia⟩
theorem I0{w:Wd}{p:Addr}{ds:List D}(h1:dJ K w.B p xs)(h2:ao K w ds xs):Q6 K w (Rv K p) ds (λ_=>True) where
 go:=λi H S a d le ok j e=>by
  obtain⟨v,h,_⟩:=h2.get e;exact⟨xs,v,dJ.same (le.b.trans ok.base) h1,h⟩
 CV:=λi H S a d x o le ok j e y=>by
  obtain⟨v,h,n⟩:=h2.get e;obtain⟨m,l⟩:=y;have:=l xs (dJ.same (le.b.trans ok.base) h1);rw[h] at this;cases this;subst m;exact⟨a,.refl,ok,n.le le⟩
 stop:=λi H S a le ok j e=>⟨xs,dJ.same (le.b.trans ok.base) h1,by rw[h2.length];lia⟩
theorem Ja{w:Wd}:Q6 K w (Rw x) (signs x) (λ_=>True) where
 go:=λi H S j d le ok l e=>by
  have:i<(signs x).length:=by
   rcases zcA i (signs x).length with h|h
   ·exact h
   ·rw[zat h] at e;cases e
  show i<x.cps.size;simpa[signs] using this
 CV:=λi H S j d y o le ok l e z=>by
  obtain⟨n,c,m,rfl⟩:=z;subst n;refine⟨j,.refl,ok,?_⟩;rw[signs,zba] at e;have a:x.cps.toList[i]? =some c:=by simpa using m
  rw[a] at e;have:D.str ⟨#[c]⟩=d:=by simpa using e
  subst this;exact .str
 stop:=λi H S j le ok l e=>by
  show _=_;rw[e];simp[signs]
def bT(e:aL)(Q:List D->(aL->Prop)->aL->Prop):D->Prop
 |.lst a=>Q a (λ_=>True) e
 |.tup a=>Q a (λ_=>True) e
 |.str x=>Q (signs x) (λ_=>True) e
 |.loc n=>∃a,e[n]? =some (some (.lst a))/\Q a (λS=>S[n]? =some (some (.lst a))) e
 |_=>False
def cI(t:AE):AI:=λa S Q=>t a S λr e=>bT e Q r.d
theorem L1{t:AE}:∀E H R,Cf K (cI t) E H R->(aR K t) E H λx j=>(∃a,x=.ref a/\(∃l,cN K j a l)/\R (Q5 K a) j)∨(∃a,x=.ref a/\(∃l,dJ K j a l)/\R (Rv K a) j)∨∃y,x=.str y/\R (Rw y) j:=by
 rintro E H R ⟨w,I,S,X,ok,env,q,bk⟩;refine⟨w,I,S,_,ok,env,q,.go λL C P v j m i h o=>?_⟩;generalize L.d=d at h o;cases d with
 |lst s=>
  simp only[Rep] at h;obtain⟨p,l,rfl,h1,h2⟩:=h;exact .inl ⟨p,rfl,⟨l,cN.of (i.base _ _ h1)⟩,bk s _ C _ v j m i (Jb h1 h2) o⟩
 |tup s=>
  simp only[Rep] at h;obtain⟨p,l,rfl,h1,h2⟩:=h;exact .inr (.inl ⟨p,rfl,⟨l,dJ.same i.base h1⟩,bk s _ C _ v j m i (I0 h1 h2) o⟩)
 |str x=>exact .inr (.inr ⟨x,jX h rfl,bk _ _ C _ v j m i Ja o⟩)
 |loc n=>
  simp only[Rep] at h;obtain⟨p,F,rfl⟩:=h;obtain⟨s,e,o⟩:=o;obtain⟨Q,u,G,W,O,l,rfl,U⟩:=i.live n _ e;rw[F] at G;cases G;exact .inl ⟨p,rfl,⟨l,cN.of O⟩,bk s _ C _ v j m i (Jc F) o⟩
 |_=>exact o.elim
theorem Ek{lo:Int}{d:D}(e:(cW lo n)[i]? =some d):i<n/\d=.int (lo+(i:Int)):=by
 unfold cW at e;rw[zba] at e;by_cases h:i<n
 ·rw[List.getElem?_range h] at e;exact⟨h,by simpa using e.symm⟩
 ·rw[zat (by simpa using h)] at e;cases e
theorem L0{a:AA}:∀l H R,Cf K (o6 a) l H R->KZ (lW K a) l H R:=by
 rintro l H R ⟨w,u,S,P,ok,env,q,bk⟩;refine⟨w,u,S,_,ok,env,q,λO G vs E I s o h m=>?_⟩;obtain⟨j,hd,⟨h1,h2⟩,F⟩:=m;refine⟨j,?_,h1,h2,?_⟩
 ·subst hd;simp only[ao,Rep] at h;obtain⟨x,r,rfl,rfl,rfl⟩:=h;rfl
 ·refine bk _ _ G _ E I s o ⟨λi H S n d le ok t e=>?_,λi H S n d x Q le ok t e y=>?_,λi H S n le ok t e=>?_⟩ F
  ·exact(Ek e).1
  ·obtain⟨C,v⟩:=y;obtain⟨L,rfl⟩:=Ek e;subst v C;exact⟨n,.refl,ok,.int⟩
  ·show _<=_;rw[e];simp[cW]
end M
variable {ds:List M.D}{ta tb:M.AE}{sp:M.AN}{S:M.aL}{δ:M.bx}
namespace M
open PySem PySem.Spec PyProof.Rows L2
section
variable {a b:Expr}{es:List Expr}
theorem pv(i:Nat)(j:X.N[i]? =some x:=by rfl)(h:Rr X.env.scope x:=by first|exact Or.inl rfl|exact Or.inr (Or.inl rfl)|exact Or.inr (Or.inr rfl))(hd:(x==("__debug__":Str))=false:=by decide)(e:(x==("__classdict__":Str))=false:=by decide):GE X (.Name x pos) (dR i):=⟨mE (L2.Mz j h hd e) Pe⟩
theorem aj{i j}:GE X (.Constant (.int i) j pos) (aC (.int i)):=⟨mE L2.aj (Py λ_=>.int)⟩
theorem cF{i j}:GE X (.Constant (.bool i) j pos) (aC (.bl i)):=⟨mE L2.cF (Py λ_=>.bl)⟩
theorem aE{i j}:GE X (.Constant (.str i) j pos) (aC (.str i)):=⟨mE L2.aE (Py λ_=>.str)⟩
theorem gR(T:String)(j:Gl X x)(i:X.mg x=none)(e:bootBuiltins x=some (.type T))(h:x≠"__name__":=by decide+kernel)(hd:(x==("__debug__":Str))=false:=by decide+kernel):GE X (.Name x pos) (aC (.ty T)):=
 ⟨mE (L2.gR T j i e h hd) (Py λ_=>.ty)⟩
theorem j7{d:D}(i:Gl X x)(e:X.mg x=some u)(r:RelV v u)(h:∀w,Rep X.K w d v)(hd:(x==("__debug__":Str))=false:=by decide):GE X (.Name x pos) (aC d):=
 ⟨mE (L2.j7 i e r hd) (Py h)⟩
theorem aF{op:Operator}{r:A2}(e:mQ X (binaryOp op) r)(i:GE X a ta)(h:GE X b tb):GE X (.BinOp a op b pos) (wI r ta tb):=⟨mE (L2.aF e.p i.p h.p) HV⟩
theorem zP{op:UnaryOp}{r:A1}(e:Tf X (unaryOp op) r)(h:GE X a ta):GE X (.UnaryOp op a pos) (Sv r ta):=⟨mE (L2.zP e.p h.p) RJ⟩
theorem bh{op:CmpOp}{r:A2}(e:mQ X (yan op) r)(j:GE X a ta)(i:GE X b tb)(h:behindInMarks op b=false):GE X (.Compare a [op] [b] pos) (wI r ta tb):=⟨mE (L2.bh e.p j.p i.p h) HV⟩
theorem zQ{r:A2}(h:Te X r)(j:GE X a ta)(i:GE X b tb)(e:nH b):GE X (.Subscript a b pos) (wI r ta tb):=⟨mE (L2.zQ h.p j.p i.p e) HV⟩
theorem ak:GA X [] kH:=⟨mA L2.ak Po⟩
theorem aD{t:AA}(j:GE X e ta)(i:GA X es t)(h:notStar e=true:=by rfl):GA X (e::es) (jz ta t):=⟨mA (L2.aD j.p i.p h) L8⟩
theorem aN{k:Nat}{t:AA}(h:GA X es t):GE X (.Tuple es k pos) (JW t):=⟨mE (L2.aN h.p) Pf⟩
theorem aQ{t:AA}(h:GA X es t):GE X (.List es pos) (Cp t):=⟨mE (L2.aQ h.p) Pp⟩
theorem rz{t:AE}(h:GE X e t):GE X e (cA t):=⟨mE h.p s_alloc⟩
theorem jG{op}{t:AE}(h:GE X a t):GE X (.BoolOp op [a] pos) t:=⟨L2.jG h.p⟩
theorem gC{rest:List Expr}(h:GE X a ta)(e:GE X (.BoolOp .And (b::rest) pos) tb):GE X (.BoolOp .And (a::b::rest) pos) (Gm ta tb):=⟨mE (L2.gC h.p e.p) Ma⟩
theorem EH{rest:List Expr}(h:GE X a ta)(e:GE X (.BoolOp .Or (b::rest) pos) tb):GE X (.BoolOp .Or (a::b::rest) pos) (Oc ta tb):=⟨mE (L2.EH h.p e.p) Pk⟩
theorem xS(e:GE X a ta):GE X (.UnaryOp .Not a pos) (Gd ta):=⟨mE (L2.xS e.p) LW⟩
theorem oB{t:AT}(e:GT X c t)(i:GE X a ta)(h:GE X b tb):GE X (.IfExp c a b pos) (SA t ta tb):=⟨mE (L2.oB e.p i.p h.p) RM⟩
theorem oE{op e:CmpOp}{r j:A2}{i:AE}(l:mQ X (yan op) r)(h:mQ X (yan e) j)(q:GE X a ta)(o:GE X b tb)(n:GE X c i)(m:lastMarks [op,e] [b,c]=false:=by with_unfolding_all rfl):
  GE X (.Compare a [op,e] [b,c] pos) (tP r j ta tb i):=⟨mE (L2.oE l.p h.p q.p o.p n.p m) zB⟩
theorem j4:GO X none tL:=⟨mO L2.j4 DQ⟩
theorem gA{t:AE}(h:GE X e t):GO X (some e) (Gb t):=⟨mO (L2.gA h.p) LU⟩
structure Td(X:Cx)(r:D->Option Int->Option Int->aL->AK->Prop):Prop where
 p:Oq X (K4 X.K r)
theorem fS{lo hi:Option Expr}{r:D->Option Int->Option Int->aL->AK->Prop}{i:AE}{tl h:AO}(l:Td X r)(n:GE X e i)(m:GO X lo tl)(j:GO X hi h):GE X (.Subscript e (.Slice lo hi none p2) pos) (Sw r i tl h):=
 ⟨mE (L2.fS l.p n.p m.p j.p) RK⟩
theorem R6{id:String}{r:AN}{t:AA}(o:tW X (.builtin id) r)(n:Gl X x)(m:X.mg x=none)(i:bootBuiltins x=some (.builtin id))(q:GA X (e::es) t)(l:x≠"__name__":=by decide+kernel)(h:(x==("__debug__":Str))=false:=by decide+kernel)(j:(e::es).all notStar=true:=by rfl):GE X (.Call (.Name x p) (e::es) [] pos) (aCall r t):=⟨mE (L2.R6 o.p n m i q.p l h j) Px⟩
theorem R5{T:String}{r:AN}{t:AA}(o:tW X (.type T) r)(n:Gl X x)(m:X.mg x=none)(i:bootBuiltins x=some (.type T))(q:GA X (e::es) t)(l:x≠"__name__":=by decide+kernel)(h:(x==("__debug__":Str))=false:=by decide+kernel)(j:(e::es).all notStar=true:=by rfl):GE X (.Call (.Name x p) (e::es) [] pos) (aCall r t):=⟨mE (L2.R5 o.p n m i q.p l h j) Px⟩
theorem gB{k:Nat}{t:AA}(D:Def X.prog X.w X.K X.mg X.base k x ps (av X.K sp))(j:aX k X.A)(l:Gl X x)(m:GA X (e::es) t)(h:(x==("__debug__":Str))=false:=by decide+kernel)(i:(e::es).all notStar=true:=by rfl):
  GE X (.Call (.Name x p) (e::es) [] pos) (aCall sp t):=⟨mE (L2.gB D j l zR m.p h i) s_call⟩
theorem cu{t:AE}(h:GE X e t)(j:∀i,isTrue e X.env i=(do let v <-i;standAt e.pos;holding [v] (truthy v)):=by intro _;rfl):GT X e (N7 t):=⟨mT (L2.EF h.p j) Pg⟩
theorem au{op:CmpOp}{r:A2}(j:mQ X (yan op) r)(n:GE X a ta)(m:GE X b tb)(l:behindInMarks op b=false):GT X (.Compare a [op] [b] pos) (aB (wI r ta tb)):=
 ⟨mT (L2.au j.p n.p m.p l) λe H Q h=>by
  obtain⟨w,i,S,o,ok,env,q,bk⟩:=SR e H Q h;exact HV e H _ ⟨w,i,S,o,ok,env,q,bk⟩⟩
theorem oi{op e:CmpOp}{r m:A2}{l:AE}(o:mQ X (yan op) r)(i:mQ X (yan e) m)(v:GE X a ta)(u:GE X b tb)(t:GE X c l)(s:lastMarks [op,e] [b,c]=false:=by with_unfolding_all rfl):
  GT X (.Compare a [op,e] [b,c] pos) (aB (tP r m ta tb l)):=⟨mT (L2.oi o.p i.p v.p u.p t.p s) λj H Q h=>by
  obtain⟨w,n,S,x,ok,env,q,bk⟩:=SR j H Q h;exact zB j H _ ⟨w,n,S,x,ok,env,q,bk⟩⟩
theorem pw_pt{t:AT}(h:GW X e t):GT X e t:=⟨h.p.pt⟩
theorem pw_and1{t:AT}(h:GT X a t):GW X (.BoolOp .And [a] pos) t:=⟨L2.pw_and1 h.p⟩
theorem pw_or1{t:AT}(h:GT X a t):GW X (.BoolOp .Or [a] pos) t:=⟨L2.pw_or1 h.p⟩
theorem pw_and{rest:List Expr}{t u:AT}(h:GT X a t)(e:GW X (.BoolOp .And (b::rest) pos) u):GW X (.BoolOp .And (a::b::rest) pos) (Ol t u):=⟨mW (L2.pw_and h.p e.p) PB⟩
theorem pw_or{rest:List Expr}{t u:AT}(h:GT X a t)(e:GW X (.BoolOp .Or (b::rest) pos) u):GW X (.BoolOp .Or (a::b::rest) pos) (Sx t u):=⟨mW (L2.pw_or h.p e.p) RL⟩
theorem cU{t:AT}(h:GT X a t):GT X (.UnaryOp .Not a pos) (Od t):=⟨mT (L2.cU h.p) Pn⟩
theorem dG:Q8 X [] vQ:=⟨mTs L2.dG Pd⟩
theorem cR{t:AT}(h:GT X c t):Q8 X [c] t:=⟨L2.cR h.p⟩
theorem bV{t:AA}(i:Gl X "range")(h:X.mg "range"=none)(j:GA X [a] t)(e:yao [a] X.env=[(false,eval a X.env)]:=by rfl):GI X tg (.Call (.Name "range" p) [a] [] pos) (o6 t):=⟨mI (L2.bV i h j.p e) L0⟩
theorem Io{l:Expr}{tl:TE}(S:PE X l tl):PI X tg l (λF H R=>tl F H λx m=>(∃a,x=.ref a/\(∃n,cN X.K m a n)/\R (Q5 X.K a) m)∨(∃a,x=.ref a/\(∃n,dJ X.K m a n)/\R (Rv X.K a) m)∨∃y,x=.str y/\R (Rw y) m):=by
 intro u s F H R I h;refine bQ (S u s F H _ I h) λv i G=>?_;obtain⟨x,m,j,L,Q⟩:=G;rcases Q with⟨a,rfl,⟨n,O⟩,q⟩|⟨a,rfl,⟨n,O⟩,q⟩|⟨y,rfl,q⟩
 ·cases L;obtain⟨C,P,p,hz⟩:=j.list O;refine wpAny_pyIter_list p.isList ?_;refine⟨i.heap.objs.size,[i.heap.objs.size],_,_,m,rfl,j.kept (t':=i.toks) λb o e=>zaq _ e,Bl a _,⟨_,zaK _ rfl,rfl,rfl⟩,λb E=>?_,q⟩;have e:b=i.heap.objs.size:=by simpa using E
  subst e;exact j.sV (zcI _) (j.hok.fresh (zcI _))
 ·cases L;obtain⟨C,P,p,hz⟩:=j.tuple O;refine wpAny_pyIter_tuple (show i.heap.IsTuple a C.toArray from p) ?_;refine⟨i.heap.objs.size,[i.heap.objs.size],_,_,m,rfl,j.kept (t':=i.toks) λb o e=>zaq _ e,wO a _,⟨_,zaK _ rfl,rfl,rfl⟩,λb E=>?_,q⟩;have e:b=i.heap.objs.size:=by simpa using E
  subst e;exact j.sV (zcI _) (j.hok.fresh (zcI _))
 ·obtain⟨t,rfl⟩:=L;refine wpAny_pyIter_strU ?_;refine⟨i.heap.objs.size,[i.heap.objs.size],_,_,m,rfl,j.kept (t':=i.toks) λb o e=>zaq _ e,C0 _ y t,⟨_,zaK _ rfl,rfl,rfl⟩,λb E=>?_,q⟩;have e:b=i.heap.objs.size:=by simpa using E
  subst e;exact j.sV (zcI _) (j.hok.fresh (zcI _))
theorem aZ{l:Expr}{tl:AE}(e:GE X l tl):GI X tg l (cI tl):=⟨mI (Io e.p) L1⟩
theorem nj{h:Expr}{j:AI}{g:AG}{l:AT}{m:AE}(S:fh scope N)(e:kG X.N X.env scope N caps=true)(i:L2.freeOk X.env scope=true)(t:X.calm=true)(hi:GI X tg iter j)(q:∀s₀ H₀ C fp,GG (jM X scope N s₀ H₀ C fp) tg g)(n:∀s₀ H₀ C fp,Q8 (jM X scope N s₀ H₀ C fp) ifs l)(s:∀s₀ H₀ C fp,GE (jM X scope N s₀ H₀ C fp) h m)(o:∀x,foldedSetIterable iter X.env x=pure x:=by intro _;rfl):GE X (.ListComp h [⟨tg,iter,ifs,0⟩] scope pos) (cL caps j g l m):=
 ⟨mE (L2.nj S e i t hi.p (λs₀ H₀ C fp=>(q s₀ H₀ C fp).p) (λs₀ H₀ C fp=>(n s₀ H₀ C fp).p) (λs₀ H₀ C fp=>(s s₀ H₀ C fp).p) o) DS⟩
theorem aJ:CM X [] vR:=⟨SX L2.aJ LX⟩
theorem af{t:AS}(h:GS X st t):CM X [st] t:=⟨L2.af h.p⟩
theorem aa{rest:List Stmt}{t u:AS}(h:GS X st t)(g:CM X rest u):CM X (st::rest) (qe t u):=⟨SX (L2.aa h.p g.p) Ph⟩
theorem bI{t:AE}(h:GE X e t)(i:yat e none pos.line X.env=pure false:=by rfl):GS X (.Expr e pos) (AJ t):=⟨mS (L2.bI h.p i) L7⟩
theorem az{t:AE}(h:GE X e t):GS X (.Return (some e) pos) (Ob t):=⟨mS (L2.az h.p) Pj⟩
theorem aT{p q:List Stmt}{e:AT}{t u:AS}(h:GT X c e)(j:CM X p t)(i:CM X q u):GS X (.If c p q pos) (Gh e t u):=⟨mS (L2.aT h.p j.p i.p) Pq⟩
theorem cZ(j:X.N.Nodup)(hi:X.N[i]? =some x)(e:Loc X.env.scope x)(h:X.fn x=true∨X.env.scope.names.lookup x=some .local:=by first|exact .inl rfl|exact .inr rfl|assumption):GG X (.Name x pos) (bW i):=⟨mG (L2.cZ j hi e h) rT⟩
theorem bY:Rx X [] rB:=⟨SY L2.bY L4⟩
theorem aH{t:AG}{u:Ho}(h1:GG X e t)(h2:Rx X es u)(h:(assignEach (e::es) X.env).map (·.2)=assign e X.env::(assignEach es X.env).map (·.2):=by rfl):Rx X (e::es) (iN t u):=⟨SY (L2.aH h1.p h2.p h) HX⟩
theorem cV{k:Nat}{t:Ho}(j:X.calm=true)(h:Rx X es t)(i:(assignEach es X.env).length=n:=by rfl)(e:(assignEach es X.env).findIdx? (·.1)=none:=by rfl):GG X (.Tuple es k pos) (rA n t):=⟨mG (L2.cV j h.p i e) L3⟩
theorem lG{t:AE}{g:AG}(j:GE X e t)(i:GG X tg g)(h:swapsWithSole [tg] e pos.line X.env=pure false:=by rfl)(hw:swappedStores [tg] e X.env=pure none:=by rfl)(h1:(assignEach [tg] X.env).map (·.2)=[assign tg X.env]:=by rfl):GS X (.Assign [tg] e pos) (Cq t g):=⟨mS (L2.lG j.p i.p h hw h1) DT⟩
theorem xR{t:AE}(E:X.N.Nodup)(hi:X.N[i]? =some x)(s:Loc X.env.scope x)(C:GE X e t)(u:yat e (some (.Name x pos')) pos.line X.env=pure false:=by rfl)(y:X.fn x=true∨X.env.scope.names.lookup x=some .local:=by first|exact .inl rfl|exact .inr rfl|assumption):
  GS X (.Assign [.Name x pos'] e pos) (Cq t (bW i)):=⟨mS (L2.xR E hi s C.p u y) λD l H h=>by
  obtain⟨w,m,S,G,ok,env,q,bk⟩:=DT D l H h;exact⟨w,m,S,G,ok,env,q,λr F v n I le j rep o=>rT _ _ _ _ (bk r F v n I le j rep o)⟩⟩
theorem gz{j:Expr}{e:Pos}{t:AI}{g:AG}{u:AT}{y:AE}(Y:X.N.Nodup)(o:X.N[i]? =some x)(L:X.env.scope.names.lookup x=some .local)(S:fh scope N)(l:kG X.N X.env scope N caps=true)(s:L2.freeOk X.env scope=true)(W:X.calm=true)(hi:GI X tg iter t)(Q:∀s₀ H₀ C fp,GG (jM X scope N s₀ H₀ C fp) tg g)(O:∀s₀ H₀ C fp,Q8 (jM X scope N s₀ H₀ C fp) ifs u)(U:∀s₀ H₀ C fp,GE (jM X scope N s₀ H₀ C fp) j y)(n:yat (.ListComp j [⟨tg,iter,ifs,0⟩] scope pos) (some (.Name x pos')) e.line X.env=pure true:=by rfl)(P:∀x,foldedSetIterable iter X.env x=pure x:=by intro _;rfl):GS X (.Assign [.Name x pos'] (.ListComp j [⟨tg,iter,ifs,0⟩] scope pos) e) (Cq (cL caps t g u y) (bW i)):=
 ⟨mS (L2.gz Y o L S l s W hi.p (λs₀ H₀ C fp=>(Q s₀ H₀ C fp).p) (λs₀ H₀ C fp=>(O s₀ H₀ C fp).p) (λs₀ H₀ C fp=>(U s₀ H₀ C fp).p) n P) λD E H h=>by
  obtain⟨w,F,S,Qa,ok,env,q,bk⟩:=DT D E H h;exact DS _ _ _ ⟨w,F,S,Qa,ok,env,q,λr Z v G H' le m rep I=>rT _ _ _ _ (bk r Z v G H' le m rep I)⟩⟩
theorem bD{e:AI}{g:AG}{h:AS}(j:PassesOwn (model X.prog X.w) X.A X.env X.xe)(m:X.calm=true)(hi:GI X tg iter e)(l:GG X tg g)(n:CM X body h)(i:∀x,foldedSetIterable iter X.env x=pure x:=by intro _;rfl):GS X (.For tg iter body [] pos) (dW e g h):=⟨mS (L2.bD j m hi.p l.p n.p i) Pw⟩
theorem fR{e:AT}{h:AS}(i:PassesOwn (model X.prog X.w) X.A X.env X.xe)(j:GT X c e)(l:CM X body h):GS X (.While c body [] pos) (Ga e h):=⟨mS (L2.fR i j.p l.p) HS⟩
end
section
theorem G6{f:yai->yai->Sem yai}{r l:R2}(h:fE X f r)(h':fE X f l):fE X f (λx y H Q=>r x y H Q∨l x y H Q):=by
 intro a s e H x y v u Q I j i q;rcases q with q|q
 ·exact h a s e H x y v u Q I j i q
 ·exact h' a s e H x y v u Q I j i q
theorem SV{f:yai}{r j:List V->Hp->VK->Prop}(h:b7 X f r)(h':b7 X f j):b7 X f (λx H Q=>r x H Q∨j x H Q):=by
 intro a s e H x v Q I i q;rcases q with q|q
 ·exact h a s e H x v Q I i q
 ·exact h' a s e H x v Q I i q
variable {w:Wd}{u:V}{d e:D}
theorem cB{i:Int}(h:Rep K w d v)(z:aS S d=.int i):v=.int i:=by
 cases d<;>simp only[aS] at z
 case loc n=>split at z<;>first|(rename_i o _;cases o<;>simp[MO.d] at z)|cases z
 all_goals first|cases z|skip
 simpa[Rep] using h
theorem bM{i:Str}(h:Rep K w d v)(z:aS S d=.str i):v=.str i:=by
 cases d<;>simp only[aS] at z
 case loc n=>split at z<;>first|(rename_i o _;cases o<;>simp[MO.d] at z)|cases z
 all_goals first|cases z|skip
 simpa[Rep] using h
theorem gi{i:Bool}(h:Rep K w d v)(z:aS S d=.bl i):v=.bl i:=by
 cases d<;>simp only[aS] at z
 case loc n=>split at z<;>first|(rename_i o _;cases o<;>simp[MO.d] at z)|cases z
 all_goals first|cases z|skip
 simpa[Rep] using h
theorem HH(h:Rep K w d v)(z:aS S d=.bB):v=.bB:=by
 cases d<;>simp only[aS] at z
 case loc n=>split at z<;>first|(rename_i o _;cases o<;>simp[MO.d] at z)|cases z
 all_goals first|cases z|skip
 simpa[Rep] using h
theorem jS{ns:List Int}(k:Ok K w H S)(h:Rep K w d v)(z:aS S d=.lq ns):∃a,v=.ref a/\cN K H a (ns.map V.int):=by
 cases d<;>simp only[aS] at z
 case loc n=>split at z<;>first|(rename_i o _;cases o<;>simp[MO.d] at z)|cases z
 all_goals first|cases z|skip
 simp only[Rep] at h;obtain⟨a,h1,h2⟩:=h;exact⟨a,h1,k.base.seq h2⟩
def aI(C:Int->Int->Prop)(g:Int->Int->D):A2:=λx y S Q=>∃i j,x=.int i/\y=.int j/\C i j/\Q (.dat (g i j)) S
theorem OI{C:Int->Int->Prop}{g:Int->Int->D}{g':Int->Int->V}(h:∀w i j,Rep K w (g i j) (g' i j)):∀x y H Q,vB K (aI C g) x y H Q->rI C g' x y H Q:=by
 rintro x y H Q ⟨w,d,e,S,s,ok,l,a,⟨i,j,o,n,m,q⟩,bk⟩;exact⟨i,j,bg l o,bg a n,m,bk.dat .refl ok (h w i j) q⟩
theorem xO{g:Int->Int->V}:∀x y H Q,rI (λ_ _=>True) g x y H Q->Ij g x y H Q:=by
 rintro x y H Q ⟨i,j,h1,h2,_,q⟩;exact⟨i,j,h1,h2,q⟩
theorem qG:mQ X (binaryOp .Sub) (aI (λ_ _=>True) λi j=>.int (i - j)):=⟨m2 L2.MC λx y H Q h=>xO x y H Q (OI (g':=λi j=>.int (i - j)) (λ_ _ _=>.int) x y H Q h)⟩
theorem oH:mQ X (binaryOp .FloorDiv) (aI OE λi j=>.int (i / j)):=⟨m2 L2.Iz (OI λ_ _ _=>.int)⟩
theorem dh:mQ X (binaryOp .Mod) (aI (λ_ j=>0<j) λi j=>.int (i % j)):=⟨m2 L2.MH (OI λ_ _ _=>.int)⟩
theorem KO:mQ X (binaryOp .Pow) (aI Ra λi j=>.int (i ^ j.toNat)):=⟨m2 L2.ME (OI λ_ _ _=>.int)⟩
theorem R8:mQ X (yan .Gt) (aI (λ_ _=>True) λi j=>.bl (decide (j<i))):=⟨m2 L2.PY λx y H Q h=>xO x y H Q (OI (g':=λi j=>.bl (decide (j<i))) (λ_ _ _=>.bl) x y H Q h)⟩
theorem MT:mQ X (yan .GtE) (aI (λ_ _=>True) λi j=>.bl (decide (j<=i))):=⟨m2 L2.PZ λx y H Q h=>xO x y H Q (OI (g':=λi j=>.bl (decide (j<=i))) (λ_ _ _=>.bl) x y H Q h)⟩
def S7:A2:=λx y S Q=>match x,y with
 |.int i,.int j=>Q (.dat (.bl (decide (i<j)))) S
 |.str i,.str j=>Q (.dat (.bl (decide (i.cps.toList<j.cps.toList)))) S
 |_,_=>False
def S8:A2:=λx y S Q=>match x,y with
 |.int i,.int j=>Q (.dat (.bl (decide (i<=j)))) S
 |.str i,.str j=>Q (.dat (.bl (!decide (j.cps.toList<i.cps.toList)))) S
 |_,_=>False
theorem sC:mQ X (yan .Lt) S7:=⟨m2 (G6 L2.PV L2.BF) λx y H Q h=>by
 obtain⟨w,d,e,S,j,ok,i,a,q,bk⟩:=h;cases d<;>cases e<;>first|exact q.elim|skip
 ·exact .inl ⟨_,_,bg i rfl,bg a rfl,bk.dat .refl ok .bl q⟩
 ·exact .inr ⟨_,_,jX i rfl,jX a rfl,bk.dat .refl ok .bl q⟩⟩
theorem MS:mQ X (yan .LtE) S8:=⟨m2 (G6 L2.PX L2.BG) λx y H Q h=>by
 obtain⟨w,d,e,S,j,ok,i,a,q,bk⟩:=h;cases d<;>cases e<;>first|exact q.elim|skip
 ·exact .inl ⟨_,_,bg i rfl,bg a rfl,bk.dat .refl ok .bl q⟩
 ·exact .inr ⟨_,_,jX i rfl,jX a rfl,bk.dat .refl ok .bl q⟩⟩
def Cr:A2:=λx y S Q=>match aS S x,aS S y with
 |.int i,.int j=>Q (.dat (.int (i+j))) S
 |.str i,.str j=>i.length+j.length<=yag/\Q (.dat (.str (i++j))) S
 |.lst xs,.lst ys=>xs.length+ys.length<=yag/\Q (.new (.lst (xs++ys))) S
 |.tup xs,.tup ys=>xs≠[]/\xs.length+ys.length<=yag/\Q (.dat (.tup (xs++ys))) S
 |_,_=>False
theorem bA:mQ X (binaryOp .Add) Cr:=⟨m2 (G6 L2.MP (G6 L2.xV (G6 L2.MN L2.IA))) λx y H Q h=>by
 obtain⟨w,d,e,S,W,ok,t,v,q,bk⟩:=h;unfold Cr at q;cases i:aS S d<;>cases m:aS S e<;>rw[i,m] at q<;>first|exact q.elim|skip
 ·exact .inl ⟨_,_,cB t i,cB v m,bk.dat .refl ok .int q⟩
 ·exact .inr (.inl ⟨_,_,bM t i,bM v m,q.1,bk.dat .refl ok .str q.2⟩)
 ·obtain⟨a,F,rfl,h1,l⟩:=bX ok t i;obtain⟨b,E,rfl,h2,j⟩:=bX ok v m;obtain⟨L,P,q⟩:=q;refine .inr (.inr (.inr ⟨a,b,F,E,rfl,rfl,h1,h2,?_,by rw[l.length,j.length];exact P,λO=>?_,λO p C=>?_⟩))
  ·intro z;subst z;have:=l.length;simp at this;exact L (zaa this.symm)
  ·subst O;have:_=[]:=zaa j.length.symm;rw[this,zbK] at q;cases d<;>simp only[aS] at i
   case tup=>cases i;exact bk.dat .refl ok t q
   case loc n=>split at i<;>first|(rename_i o _;cases o<;>simp[MO.d] at i)|cases i
   all_goals cases i
  ·obtain⟨U,I,G,s⟩:=ok.sI C (l.append j);exact bk.dat I G s q
 ·obtain⟨a,F,rfl,h1,l⟩:=bz ok t i;obtain⟨b,E,rfl,h2,j⟩:=bz ok v m;refine .inr (.inr (.inl ⟨a,b,F,E,rfl,rfl,h1,h2,by rw[l.length,j.length];exact q.1,λp C=>?_⟩));exact bk (.new (.lst _)) S _ w _ .refl (ok.alloc C) (ok.fresh C ⟨_,rfl,l.append j⟩) q.2⟩
end
end M
namespace M
open PySem PySem.Spec PyProof.Rows PySem.SeqAt L2
mutual
noncomputable def b8:D->Bool
 |.bB|.bl _|.int _|.str _=>true
 |.tup ds|.lst ds=>bL ds
 |_=>false
noncomputable def bL:List D->Bool
 |[]=>true
 |d::ds=>b8 d&&bL ds
end
mutual
noncomputable def py:D->yam
 |.bB=>.none
 |.bl b=>.bool b
 |.int i=>.int i
 |.str x=>.str x
 |.tup ds=>.tuple (fj ds)
 |.lst ds=>.list (fj ds)
 |_=>.none
noncomputable def fj:List D->List yam
 |[]=>[]
 |d::ds=>py d::fj ds
end
section
variable {w:Wd}
mutual
theorem FG(e:ig w.B H):∀(d:D)(v:V),b8 d=true->Rep K w d v->cO K H (py d) v
 |.bB,v,_,h=>by simpa[Rep,py,cO] using h
 |.bl _,v,_,h=>by simpa[Rep,py,cO] using h
 |.int _,v,_,h=>by simpa[Rep,py,cO] using h
 |.str _,v,_,h=>by simpa[Rep,py,cO] using h
 |.tup ds,v,hp,h=>by
  simp only[Rep,py,cO] at h⊢;obtain⟨a,i,h1,h2,j⟩:=h;exact⟨a,i,h1,dJ.same e h2,nE e ds i (by simpa[b8] using hp) j⟩
 |.lst ds,v,hp,h=>by
  simp only[Rep,py,cO] at h⊢;obtain⟨a,i,h1,h2,j⟩:=h;exact⟨a,i,h1,cN.of (e _ _ h2),nE e ds i (by simpa[b8] using hp) j⟩
 |.dct _ _,_,hp,_=>by simp[b8] at hp
 |.loc _,_,hp,_=>by simp[b8] at hp
 |.ty _,_,hp,_=>by simp[b8] at hp
 |.lq _,_,hp,_=>by simp[b8] at hp
 |.fd,_,hp,_=>by simp[b8] at hp
 |.fn _,_,hp,_=>by simp[b8] at hp
theorem nE(e:ig w.B H):∀(ds:List D)(vs:List V),bL ds=true->ao K w ds vs->k7 K H (fj ds) vs
 |[],vs,_,h=>by simpa[ao,fj,k7] using h
 |d::ds,vs,hp,h=>by
  simp only[bL,zbF] at hp;simp only[ao,fj,k7] at h⊢;obtain⟨x,r,h1,h2,a⟩:=h;exact⟨x,r,h1,FG e d x hp.1 h2,nE e ds r hp.2 a⟩
end
theorem zx(k:Ok K w H S){d:D}(h:Rep K w d v)(e:b8 (aS S d)=true):cO K H (py (aS S d)) v:=by
 cases d with
 |loc n=>
  cases z:aS S (.loc n) with
  |lst ds=>
   rw[z] at e;obtain⟨a,i,rfl,h1,h2⟩:=bz k h z;simp only[py,cO];exact⟨a,i,rfl,cN.of h1,nE k.base ds i (by simpa[b8] using e) h2⟩
  |_=>
   rw[z] at e;simp only[aS] at z;split at z<;>first|(rename_i o _;cases o<;>simp[MO.d] at z)|(cases z;simp[b8] at e)|cases z
   all_goals simp[b8] at e
 |_=>exact FG k.base _ v (by simpa[aS] using e) h
end
noncomputable def fit(d:D):Bool:=b8 d&&shaped (py d)
def J0:A2:=λx y S Q=>match aS S x,aS S y with
 |.str a,.str b=>Q (.dat (.bl (decide (a=b)))) S
 |.int a,.int b=>Q (.dat (.bl (decide (a=b)))) S
 |.bl a,.bl b=>Q (.dat (.bl (decide (a=b)))) S
 |x',y'=>fit x'=true/\fit y'=true/\Q (.dat (.bl (PyData.eqv (py x') (py y')))) S
def Hj:A2:=λx y S Q=>match aS S x,aS S y with
 |.str a,.str b=>Q (.dat (.bl (!decide (a=b)))) S
 |.int a,.int b=>Q (.dat (.bl (!decide (a=b)))) S
 |.bl a,.bl b=>Q (.dat (.bl (!decide (a=b)))) S
 |x',y'=>fit x'=true/\fit y'=true/\Q (.dat (.bl (!PyData.eqv (py x') (py y')))) S
def R1(K:yaI):R2:=λx y H Q=>∃a b,cO K H a x/\cO K H b y/\shaped a=true/\shaped b=true/\Q (.bl (PyData.eqv a b)) H
def RY(K:yaI):R2:=λx y H Q=>∃a b,cO K H a x/\cO K H b y/\shaped a=true/\shaped b=true/\Q (.bl (!PyData.eqv a b)) H
theorem MM{k:Nat}(n:aX k X.A):fE X (yan .Eq) (R1 X.K):=by
 intro e s C H x y v u Q I j i h;obtain⟨a,b,h1,h2,t,o,q⟩:=h;obtain⟨E,m⟩:=I.reads a x v h1 j;obtain⟨bs,l⟩:=I.reads b y u h2 i;exact eq_dataH m l t o n.units ⟨.bl _,H,I,rfl,q⟩
theorem MF{k:Nat}(n:aX k X.A):fE X (yan .NotEq) (RY X.K):=by
 intro e s C H x y v u Q I j i h;obtain⟨a,b,h1,h2,t,o,q⟩:=h;obtain⟨E,m⟩:=I.reads a x v h1 j;obtain⟨bs,l⟩:=I.reads b y u h2 i;exact ne_dataH m l t o n.units ⟨.bl _,H,I,rfl,q⟩
theorem fB{w:Wd}{d:D}(k:Ok K w H S)(h:Rep K w d v)(a:fit (aS S d)=true):cO K H (py (aS S d)) v/\shaped (py (aS S d))=true:=by
 unfold fit at a;rw[zbF] at a;exact⟨zx k h a.1,a.2⟩
theorem bZ{k:Nat}(n:aX k X.A):mQ X (yan .Eq) J0:=⟨m2 (G6 L2.P0 (MM n)) λx y H Q h=>by
 obtain⟨w,d,e,S,v,ok,j,i,q,bk⟩:=h;unfold J0 at q;split at q
 next a b z1 z2=>
  refine .inl ⟨by rw[bM j z1,bM i z2];rfl,?_⟩;rw[bM j z1,bM i z2];exact bk.dat .refl ok (by rw[show decide (V.str a=V.str b)=decide (a=b) by simp];exact .bl) q
 next a b z1 z2=>
  refine .inl ⟨by rw[cB j z1,cB i z2];rfl,?_⟩;rw[cB j z1,cB i z2];exact bk.dat .refl ok (by rw[show decide (V.int a=V.int b)=decide (a=b) by simp];exact .bl) q
 next a b z1 z2=>
  refine .inl ⟨by rw[gi j z1,gi i z2];rfl,?_⟩;rw[gi j z1,gi i z2];exact bk.dat .refl ok (by rw[show decide (V.bl a=V.bl b)=decide (a=b) by simp];exact .bl) q
 next=>
  obtain⟨u,t,q⟩:=q;obtain⟨s,m⟩:=fB ok j u;obtain⟨o,l⟩:=fB ok i t;exact .inr ⟨_,_,s,o,m,l,bk.dat .refl ok .bl q⟩⟩
theorem sA{k:Nat}(n:aX k X.A):mQ X (yan .NotEq) Hj:=⟨m2 (G6 L2.PU (MF n)) λx y H Q h=>by
 obtain⟨w,d,e,S,v,ok,j,i,q,bk⟩:=h;unfold Hj at q;split at q
 next a b z1 z2=>
  refine .inl ⟨by rw[bM j z1,bM i z2];rfl,?_⟩;rw[bM j z1,bM i z2];exact bk.dat .refl ok (by rw[show decide (V.str a=V.str b)=decide (a=b) by simp];exact .bl) q
 next a b z1 z2=>
  refine .inl ⟨by rw[cB j z1,cB i z2];rfl,?_⟩;rw[cB j z1,cB i z2];exact bk.dat .refl ok (by rw[show decide (V.int a=V.int b)=decide (a=b) by simp];exact .bl) q
 next a b z1 z2=>
  refine .inl ⟨by rw[gi j z1,gi i z2];rfl,?_⟩;rw[gi j z1,gi i z2];exact bk.dat .refl ok (by rw[show decide (V.bl a=V.bl b)=decide (a=b) by simp];exact .bl) q
 next=>
  obtain⟨u,t,q⟩:=q;obtain⟨s,m⟩:=fB ok j u;obtain⟨o,l⟩:=fB ok i t;exact .inr ⟨_,_,s,o,m,l,bk.dat .refl ok .bl q⟩⟩
noncomputable def inD(d:D)(ds:List D):Bool:=ds.any λy=>PyData.eqv (py y) (py d)
def tV(a:Bool):A2:=λx y S Q=>match aS S y with
 |.tup ds=>fit (aS S x)=true/\fit (.tup ds)=true/\Q (.dat (.bl (a != inD (aS S x) ds))) S
 |.lst ds=>fit (aS S x)=true/\fit (.lst ds)=true/\Q (.dat (.bl (a != inD (aS S x) ds))) S
 |_=>False
def Ms(K:yaI)(e:Bool):R2:=λx y H Q=>∃d a,cO K H d x/\(cO K H (.tuple a) y∨cO K H (.list a) y)/\shaped d=true/\PyData.canLayAll0 a=true/\Q (.bl (e != a.any λy=>PyData.eqv y d)) H
theorem ML{k:Nat}(o:aX k X.A):fE X (yan .In) (Ms X.K false):=by
 intro l s t H x y v u Q I n i h;obtain⟨d,E,h1,h2,a,m,q⟩:=h;obtain⟨F,j⟩:=I.reads d x v h1 n;have C:=o.un;rcases h2 with h2|h2
 ·obtain⟨bs,e⟩:=I.reads _ y u h2 i;exact PySem.SeqAt.in_tuple_reads e j m (canLay_of_shaped a) (room_in_shaped a (by lia)) ⟨.bl _,H,I,by simp[L2.RelV],q⟩
 ·obtain⟨bs,e⟩:=I.reads _ y u h2 i;exact PySem.SeqAt.in_list_reads e j m (canLay_of_shaped a) (room_in_shaped a (by lia)) ⟨.bl _,H,I,by simp[L2.RelV],q⟩
theorem BE{k:Nat}(o:aX k X.A):fE X (yan .NotIn) (Ms X.K true):=by
 intro l s t H x y v u Q I n i h;obtain⟨d,E,h1,h2,a,m,q⟩:=h;obtain⟨F,j⟩:=I.reads d x v h1 n;have C:=o.un;rcases h2 with h2|h2
 ·obtain⟨bs,e⟩:=I.reads _ y u h2 i;exact PySem.SeqAt.notIn_tuple_reads e j m (canLay_of_shaped a) (room_in_shaped a (by lia)) ⟨.bl _,H,I,by simp[L2.RelV],q⟩
 ·obtain⟨bs,e⟩:=I.reads _ y u h2 i;exact PySem.SeqAt.notIn_list_reads e j m (canLay_of_shaped a) (room_in_shaped a (by lia)) ⟨.bl _,H,I,by simp[L2.RelV],q⟩
theorem gx(ds:List D):fj ds=ds.map py:=by
 induction ds with
 |nil=>rfl
 |cons d ds ih=>simp[fj,ih]
theorem AD(ds:List D)(p:yam->Bool):(fj ds).any p=ds.any λy=>p (py y):=by
 rw[gx,zcs];rfl
theorem Jk(h:fit (.tup ds)=true):PyData.canLayAll0 (fj ds)=true:=by
 unfold fit at h;rw[zbF] at h;have:=canLay_of_shaped h.2;simpa[py,PyData.canLay0] using this
theorem Fy(h:fit (.lst ds)=true):PyData.canLayAll0 (fj ds)=true:=by
 unfold fit at h;rw[zbF] at h;have:=canLay_of_shaped h.2;simpa[py,PyData.canLay0] using this
theorem QM:∀x y H Q,vB K (tV neg) x y H Q->Ms K neg x y H Q:=by
 rintro x y H Q ⟨w,d,e,S,s,ok,n,m,q,bk⟩;unfold tV at q;split at q
 next ds z=>
  obtain⟨l,h,q⟩:=q;obtain⟨j,i⟩:=fB ok n l;obtain⟨a,o⟩:=fB ok m (by rw[z];exact h);rw[z] at a;refine⟨_,fj ds,j,.inl (by simpa only[py] using a),i,Jk h,?_⟩;rw[AD];exact bk.dat .refl ok .bl q
 next ds z=>
  obtain⟨l,h,q⟩:=q;obtain⟨j,i⟩:=fB ok n l;obtain⟨a,o⟩:=fB ok m (by rw[z];exact h);rw[z] at a;refine⟨_,fj ds,j,.inr (by simpa only[py] using a),i,Fy h,?_⟩;rw[AD];exact bk.dat .refl ok .bl q
 next=>exact q.elim
theorem mU{k:Nat}(a:aX k X.A):mQ X (yan .In) (tV false):=⟨m2 (ML a) QM⟩
theorem jd{k:Nat}(a:aX k X.A):mQ X (yan .NotIn) (tV true):=⟨m2 (BE a) QM⟩
section
variable {w:Wd}{d:D}
theorem uB{i:Int}{e:D}(h:ao K w ds xs)(q:fJ ds i=some e):∃u,fJ xs i=some u/\Rep K w e u:=by
 unfold fJ at q⊢;rw[h.length];cases z:CS ds.length i with
 |none=>rw[z] at q;cases q
 |some j=>
  rw[z] at q;exact h.get q
def vU:A2:=λx y S Q=>match aS S x,y with
 |.lst ds,.int i=>∃e,fJ ds i=some e/\Q (.dat e) S
 |.tup ds,.int i=>∃e,fJ ds i=some e/\Q (.dat e) S
 |.str z,.int i=>z.length<=yag/\∃c,fJ z.cps.toList i=some c/\Q (.dat (.str ⟨#[c]⟩)) S
 |.lq ns,.int i=>∃n,fJ ns i=some n/\Q (.dat (.int n)) S
 |_,_=>False
theorem JS{α l:Type}{f:α->l}{e:List α}{i:Int}{a:α}(h:fJ e i=some a):fJ (e.map f) i=some (f a):=by
 unfold fJ at h⊢;rw[zbJ];cases z:CS e.length i with
 |none=>rw[z] at h;cases h
 |some j=>
  rw[z] at h;have h:e[j]? =some a:=h;show(e.map f)[j]? =some (f a);rw[zba,h];rfl
theorem P4:Te X vU:=⟨λj l m s O H x y v u Q I U P h W=>by
 refine L2.Nm j l m s O H x y v u Q I U P ?_ W;obtain⟨w,d,e,S,Qa,ok,t,o,q,bk⟩:=h;unfold vU at q;split at q
 next ds i z=>
  obtain⟨a,C,rfl,h1,h2⟩:=bz ok t z;obtain⟨e',F,q⟩:=q;obtain⟨E,L,G⟩:=uB h2 F;exact .inl ⟨a,C,i,E,rfl,bg o rfl,cN.of h1,L,bk.dat .refl ok G q⟩
 next ds i z=>
  obtain⟨a,C,rfl,h1,h2⟩:=bX ok t z;obtain⟨e',F,q⟩:=q;obtain⟨E,L,G⟩:=uB h2 F;exact .inr (.inl ⟨a,C,i,E,rfl,bg o rfl,h1,L,bk.dat .refl ok G q⟩)
 next y i z=>
  obtain⟨Z,c,hc,q⟩:=q;exact .inr (.inr ⟨y,i,c,bM t z,bg o rfl,Z,hc,bk.dat .refl ok .str q⟩)
 next ns i z=>
  obtain⟨a,rfl,h1⟩:=jS ok t z;obtain⟨n,Y,q⟩:=q;exact .inl ⟨a,_,i,.int n,rfl,bg o rfl,h1,JS Y,bk.dat .refl ok .int q⟩
 next=>exact q.elim⟩
noncomputable def cutD{α:Type}(a:List α)(lo hi:Option Int):List α:=(a.drop (HT.lz a.length 0 lo)).take (HT.lz a.length a.length hi - HT.lz a.length 0 lo)
theorem uA(h:ao K w ds xs)(lo hi:Option Int):ao K w (cutD ds lo hi) (Cc xs lo hi):=by
 unfold cutD Cc;rw[h.length];exact(h.drop _).take _
def Co:D->Option Int->Option Int->aL->AK->Prop:=λx lo a S Q=>match aS S x with
 |.lst ds=>Q (.new (.lst (cutD ds lo a))) S
 |.lq ns=>Q (.new (.lst ((cutD ns lo a).map D.int))) S
 |_=>False
theorem JM{α e:Type}(f:α->e)(a:List α)(lo hi:Option Int):cutD (a.map f) lo hi=(cutD a lo hi).map f:=by
 unfold cutD;rw[zbJ,List.map_take,List.map_drop]
theorem eF{w:Wd}:∀(ns:List Int),ao K w (ns.map D.int) (ns.map V.int)
 |[]=>.nil
 |n::ns=>.cons .int (eF ns)
theorem zW:Td X Co:=⟨by
 intro e s m H x v t o lo j u Q I y C pl pu h;refine L2.HC e s m H x v t o lo j u Q I y C pl pu ?_;obtain⟨w,d,S,E,ok,l,q,bk⟩:=h;unfold Co at q;split at q
 next ds z=>
  obtain⟨a,n,rfl,h1,h2⟩:=bz ok l z;exact⟨a,n,rfl,cN.of h1,λp i=>bk (.new (.lst _)) S _ w _ .refl (ok.alloc i) (ok.fresh i ⟨_,rfl,uA h2 lo j⟩) q⟩
 next ns z=>
  obtain⟨a,rfl,h1⟩:=jS ok l z;refine⟨a,_,rfl,h1,λp i=>bk (.new (.lst _)) S _ w _ .refl (ok.alloc i) (ok.fresh i ⟨_,rfl,?_⟩) q⟩;have:=uA (eF (K:=X.K) (w:=w) ns) lo j;rw[JM] at this;exact this
 next=>exact q.elim⟩
def vS:A2:=λx y S Q=>match aS S x,y with
 |.int i,.int j=>CP i j/\Q (.dat (.int (i*j))) S
 |.lst ds,.int k=>(-(2 ^ 63)<=k/\k<2 ^ 63)/\ds.length*k.toNat<=yag/\Q (.new (.lst (zcb k.toNat ds).flatten)) S
 |.str z,.int n=>MulOk z n/\Q (.dat (.str (Txt.mul z n))) S
 |_,_=>False
theorem uz{ds:List D}{a:List V}(h:ao K w ds a):∀k:Nat,ao K w (zcb k ds).flatten (zcb k a).flatten
 |0=>.nil
 |k+1=>by
  rw[zaE,zaE,zbb,zbb];exact h.append (uz h k)
theorem fV:mQ X (binaryOp .Mult) vS:=⟨m2 (G6 L2.MG (G6 L2.MD L2.xU)) λx y H Q h=>by
 obtain⟨w,d,e,S,C,ok,m,l,q,bk⟩:=h;unfold vS at q;split at q
 next i j z=>exact .inl ⟨i,j,cB m z,bg l rfl,q.1,bk.dat .refl ok .int q.2⟩
 next ds k z=>
  obtain⟨a,s,rfl,h1,h2⟩:=bz ok m z;obtain⟨⟨v,u⟩,t,q⟩:=q;refine .inr (.inl ⟨a,k,s,rfl,bg l rfl,h1,v,u,by rw[h2.length];exact t,λp o=>?_⟩);exact bk (.new (.lst _)) S _ w _ .refl (ok.alloc o) (ok.fresh o ⟨_,rfl,uz h2 k.toNat⟩) q
 next y n z=>exact .inr (.inr ⟨y,n,bM m z,bg l rfl,q.1,bk.dat .refl ok .str q.2⟩)
 next=>exact q.elim⟩
end
mutual
noncomputable def jm(n:Nat):D->Bool
 |.loc m=>decide (m<n)
 |.tup ds|.lst ds|.dct _ ds=>jl n ds
 |_=>true
noncomputable def jl(n:Nat):List D->Bool
 |[]=>true
 |d::ds=>jm n d&&jl n ds
end
noncomputable def lY(n:Nat):MO->Bool
 |.lst ds=>jl n ds
 |.dct _ ds=>jl n ds
 |.feed _=>true
 |.ins _ _ ds=>jl n ds
 |.Hh _ ks=>jl n ks
mutual
theorem Ay(n:Nat):∀d:D,b8 d=true->jm n d=true
 |.bB,_=>by simp[jm]
 |.bl _,_=>by simp[jm]
 |.int _,_=>by simp[jm]
 |.str _,_=>by simp[jm]
 |.tup ds,h=>by simp only[jm];exact cK n ds (by simpa[b8] using h)
 |.lst ds,h=>by simp only[jm];exact cK n ds (by simpa[b8] using h)
 |.dct _ _,h=>by simp[b8] at h
 |.loc _,h=>by simp[b8] at h
 |.ty _,h=>by simp[b8] at h
 |.lq _,h=>by simp[b8] at h
 |.fd,h=>by simp[b8] at h
 |.fn _,h=>by simp[b8] at h
theorem cK(n:Nat):∀ds:List D,bL ds=true->jl n ds=true
 |[],_=>by simp[jl]
 |d::ds,h=>by
  simp only[bL,zbF] at h;simp only[jl,zbF];exact⟨Ay n d h.1,cK n ds h.2⟩
end
noncomputable def jV(n:Nat)(w:Wd):Wd:=⟨w.B,λk=>if k<n then w.r k else none⟩
section
variable {w w1:Wd}{H1:Hp}{S0 S1:aL}
mutual
theorem qv(n:Nat):∀(d:D)(v:V),jm n d=true->Rep K w d v->Rep K (jV n w) d v
 |.bB,_,_,h=>by simpa[Rep] using h
 |.bl _,_,_,h=>by simpa[Rep] using h
 |.int _,_,_,h=>by simpa[Rep] using h
 |.str _,_,_,h=>by simpa[Rep] using h
 |.ty _,_,_,h=>by simpa[Rep] using h
 |.fd,_,_,h=>by simpa[Rep] using h
 |.fn _,_,_,h=>by simpa[Rep] using h
 |.lq _,_,_,h=>by simpa[Rep,jV] using h
 |.loc m,v,hb,h=>by
  simp only[jm,decide_eq_true_eq] at hb;simp only[Rep] at h⊢;obtain⟨a,h1,h2⟩:=h;exact⟨a,by show(if m<n then w.r m else none)=_;rw[yIp hb];exact h1,h2⟩
 |.tup ds,v,hb,h=>by
  simp only[Rep] at h⊢;obtain⟨a,e,h1,h2,i⟩:=h;exact⟨a,e,h1,h2,ck n ds e (by simpa[jm] using hb) i⟩
 |.lst ds,v,hb,h=>by
  simp only[Rep] at h⊢;obtain⟨a,e,h1,h2,i⟩:=h;exact⟨a,e,h1,h2,ck n ds e (by simpa[jm] using hb) i⟩
 |.dct ks ds,v,hb,h=>by
  simp only[Rep] at h⊢;obtain⟨a,e,h1,h2,i,j⟩:=h;exact⟨a,e,h1,h2,i,ck n ds _ (by simpa[jm] using hb) j⟩
theorem ck(n:Nat):∀(ds:List D)(vs:List V),jl n ds=true->ao K w ds vs->ao K (jV n w) ds vs
 |[],_,_,h=>by simpa[ao] using h
 |d::ds,vs,hb,h=>by
  simp only[jl,zbF] at hb;simp only[ao] at h⊢;obtain⟨x,r,h1,h2,a⟩:=h;exact⟨x,r,h1,qv n d x hb.1 h2,ck n ds r hb.2 a⟩
end
mutual
theorem Ih(n:Nat)(i:∀k,n<=k->w.r k=none):∀(d:D)(v:V),Rep K w d v->jm n d=true
 |.bB,_,_=>by simp[jm]
 |.bl _,_,_=>by simp[jm]
 |.int _,_,_=>by simp[jm]
 |.str _,_,_=>by simp[jm]
 |.ty _,_,_=>by simp[jm]
 |.fd,_,_=>by simp[jm]
 |.fn _,_,_=>by simp[jm]
 |.lq _,_,_=>by simp[jm]
 |.loc m,v,h=>by
  simp only[Rep] at h;obtain⟨a,h1,h2⟩:=h;simp only[jm,decide_eq_true_eq];rcases zcA m n with q|q
  ·exact q
  ·rw[i m q] at h1;cases h1
 |.tup ds,v,h=>by
  simp only[Rep] at h;obtain⟨a,e,h1,h2,j⟩:=h;simp only[jm];exact dP n i ds e j
 |.lst ds,v,h=>by
  simp only[Rep] at h;obtain⟨a,e,h1,h2,j⟩:=h;simp only[jm];exact dP n i ds e j
 |.dct ks ds,v,h=>by
  simp only[Rep] at h;obtain⟨a,e,h1,h2,j,l⟩:=h;simp only[jm];exact dP n i ds _ l
theorem dP(n:Nat)(a:∀k,n<=k->w.r k=none):∀(ds:List D)(vs:List V),ao K w ds vs->jl n ds=true
 |[],_,_=>by simp[jl]
 |d::ds,vs,h=>by
  simp only[ao] at h;obtain⟨x,r,h1,h2,e⟩:=h;simp only[jl,zbF];exact⟨Ih n a d x h2,dP n a ds r e⟩
end
theorem jD(n:Nat):∀{o:MO}{u:HO},lY n o=true->l6 K w o u->l6 K (jV n w) o u:=by
 intro o u i h;cases o with
 |lst ds=>obtain⟨e,h1,h2⟩:=h;exact⟨e,h1,ck n ds e i h2⟩
 |dct ks ds=>obtain⟨e,h1,h2,j⟩:=h;exact⟨e,h1,h2,ck n ds _ i j⟩
 |feed _=>exact h
 |ins C ks ds=>obtain⟨l,fs,h1,h2,j⟩:=h;exact⟨l,fs,h1,h2,ck n ds _ i j⟩
 |Hh F ks=>obtain⟨a,bs,h1,h2⟩:=h;exact⟨a,bs,h1,ck n ks _ i h2⟩
theorem Es(n:Nat)(e:∀k,n<=k->w.r k=none):∀{o:MO}{u:HO},l6 K w o u->lY n o=true:=by
 intro o u h;cases o with
 |lst ds=>obtain⟨j,h1,h2⟩:=h;exact dP n e ds j h2
 |dct ks ds=>obtain⟨j,h1,h2,i⟩:=h;exact dP n e ds _ i
 |feed _=>rfl
 |ins C ks ds=>obtain⟨l,fs,h1,h2,i⟩:=h;exact dP n e ds _ i
 |Hh F ks=>obtain⟨a,bs,h1,h2⟩:=h;exact dP n e ks _ h2
noncomputable def out(n:Nat)(S1:aL):R->Option R
 |.dat (.loc m)=>if m<n then some (.dat (.loc m)) else match S1[m]? with
  |some (some o)=>if lY n o=true then some (.new o) else none
  |_=>none
 |.dat d=>if jm n d=true then some (.dat d) else none
 |.new o=>if lY n o=true then some (.new o) else none
def chg(S0 S1:aL):Prop:=∀k o,k<S0.length->S1[k]? =some (some o)->S0[k]? =some (some o)∨lY S0.length o=true
def ret(S0 S1:aL)(r:R)(Q:AK):Prop:=∃a,out S0.length S1 r=some a/\chg S0 S1/\Q a (S1.take S0.length)
theorem rW{r:R}{L:AK}{Q:VK}(ok:Ok K w H S0)(le:w.le w1)(j:Ok K w1 H1 S1)(rep:CI K w1 H1 S1 r v)(h:ret S0 S1 r L)(bk:dZ K w L Q):Q v H1:=by
 obtain⟨F,i,P,q⟩:=h;generalize O:S0.length=n at*;have lt:∀k a,w.r k=some a->k<n:=λk a e=>by
  rcases zcA k n with z|z
  ·exact z
  ·rw[ok.top k (by lia)] at e;cases e
 have at_:∀k o,(S1.take n)[k]? =some (some o)->k<n/\S1[k]? =some (some o):=λk o e=>by
  rw[List.getElem?_take] at e;by_cases z:k<n
  ·rw[yIp z] at e;exact⟨z,e⟩
  ·rw[yIn z] at e;cases e
 have I:w.le (jV n w1):=⟨le.b,λk a e=>by show(if k<n then w1.r k else none)=_;rw[yIp (lt k a e)];exact le.r k a e⟩
 have bl:∀k o,k<n->S1[k]? =some (some o)->lY n o=true:=λk o l e=>by
  rcases P k o (by lia) e with z|z
  ·obtain⟨a,u,_,_,_,x⟩:=ok.live k o z;exact Es n (λk l=>ok.top k (by lia)) x
  ·rw[O] at z;exact z
 have G:Ok K (jV n w1) H1 (S1.take n):=⟨j.base,λk o e=>by
   obtain⟨l,e⟩:=at_ k o e;obtain⟨a,u,h1,h2,C,x⟩:=j.live k o e;exact⟨a,u,by show(if k<n then w1.r k else none)=_;rw[yIp l];exact h1,h2,C,jD n (bl k o l e) x⟩,
  λk m o s e y z=>by
   obtain⟨l,e⟩:=at_ k o e;obtain⟨t,y⟩:=at_ m s y;have z:(if k<n then w1.r k else none)=(if m<n then w1.r m else none):=z;rw[yIp l,yIp t] at z;exact j.inj k m o s e y z,
  λk l=>by
   show(if k<n then w1.r k else none)=none;by_cases z:k<n
   ·rw[yIp z];rw[zbr] at l;exact j.top k (by lia)
   ·rw[yIn z]⟩
 refine bk F (S1.take n) v (jV n w1) H1 I G ?_ q;have fresh:∀m o a,n<=m->S1[m]? =some (some o)->w1.r m=some a->∀k s,(S1.take n)[k]? =some (some s)->(jV n w1).r k≠some a:=λm o a t e E k s y z=>by
  obtain⟨l,y⟩:=at_ k s y;have z:(if k<n then w1.r k else none)=some a:=z;rw[yIp l] at z;have:=j.inj k m s o y e (z.trans E.symm);lia
 cases r with
 |new o=>
  simp only[out] at i;split at i
  next hb=>
   cases i;obtain⟨a,u,rfl,h1,h2,C,x⟩:=rep;refine⟨a,u,rfl,h1,h2,jD n hb C,λk s e z=>?_⟩;obtain⟨l,e⟩:=at_ k s e;have z:(if k<n then w1.r k else none)=some a:=z;rw[yIp l] at z;exact x k s e z
  next=>cases i
 |dat d=>
  have gen:(if jm n d=true then some (R.dat d) else none)=some F->CI K (jV n w1) H1 (S1.take n) F v:=λi=>by
   split at i
   next hb=>cases i;exact qv n d v hb rep
   next=>cases i
  cases d with
  |loc m=>
   simp only[out] at i;split at i
   next t=>exact gen (by simp[jm,t,i])
   next t=>
    have t:n<=m:=by lia
    split at i
    next o e=>
     split at i
     next hb=>
      cases i;have rep:Rep K w1 (.loc m) v:=rep;simp only[Rep] at rep;obtain⟨a,E,rfl⟩:=rep;obtain⟨S,u,h1,h2,C,x⟩:=j.live m o e;rw[E] at h1;cases h1;exact⟨a,u,rfl,h2,C,jD n hb x,fresh m o a t e E⟩
     next=>cases i
    next=>cases i
  |_=>exact gen (by simpa only[out] using i)
end
noncomputable def aK(N:List Str)(ds:List D):bx:=ds.map some++zcb (N.length - ds.length) none
theorem jf{w:Wd}{vs:List V}(h:ao K w ds vs):ef K w (aK N ds) (L2.start N vs):=by
 have j:=h.length;refine⟨by simp[aK,L2.start,j],λi d e=>?_⟩;unfold aK at e;by_cases a:i<ds.length
 ·rw[zae (by simpa using a),zba] at e;cases z:ds[i]? with
  |none=>rw[z] at e;cases e
  |some d'=>
   rw[z] at e;have e:d'=d:=by simpa using e
   subst e;obtain⟨v,h1,h2⟩:=h.get z;refine⟨v,?_,h2⟩;unfold L2.start;rw[zae (by rw[zbJ,j];exact a),zba,h1];rfl
 ·rw[zab (by simpa using a),List.getElem?_replicate] at e;split at e<;>cases e
theorem cJ{k:Nat}(F:Src K mg x ps st)(S:aA N ps (ah st))(len:∀ds S Q,sp ds S Q->ds.length=ps.length)(j:∀(f:Addr)(e:yai)(A:yal)(outer:List Env)(s:yah)(H:Hp)(E:XK),aX k (A.deeper (envOfC x (ah st) s.heap.objs.size f e))->∃a,CM (lV nJ P w K mg base N x (ah st) f e A outer s H E).G8 (bC st) a/\∀ds S Q,sp ds S Q->a {nx:=λ_ m=>ret S m (.dat .bB) Q,rt:=λr m=>ret S m r Q} (aK N ds) S):Def P w K mg base (k+1) x ps (av K sp):=
 F.def S (λvs H Q E h=>by
  obtain⟨w,ds,S,o,ok,rep,q,bk⟩:=h;rw[rep.length];exact len ds S o q) λf e A outer s H vs Q E u h=>by
  obtain⟨a,y,hd⟩:=j f e A outer s H E u;obtain⟨w,ds,S,o,ok,rep,q,bk⟩:=h;refine⟨_,y.p,w,aK N ds,S,_,ok,jf rep,hd ds S o q,⟨λI m G t C le i env n=>?_,λr m v t C le i l n=>?_,λ_ _ _ _ _ _ _ _ z=>z.elim,λ_ _ _ _ _ _ _ _ z=>z.elim⟩⟩
  ·exact rW (r:=.dat .bB) (v:=.bB) ok le i (show Rep K t .bB .bB from .bB) n bk
  ·exact rW ok le i l n bk
section
variable {w:Wd}{d:D}
theorem gQ{vs:List V}(h:ao K w [d] vs):∃v,vs=[v]/\Rep K w d v:=by
 simp only[ao] at h;obtain⟨x,r,rfl,h1,rfl⟩:=h;exact⟨x,rfl,h1⟩
theorem Ep{e:D}{vs:List V}(h:ao K w [d,e] vs):∃v u,vs=[v,u]/\Rep K w d v/\Rep K w e u:=by
 simp only[ao] at h;obtain⟨x,r,rfl,h1,y,a,rfl,h2,rfl⟩:=h;exact⟨x,y,rfl,h1,h2⟩
noncomputable def fX:D->Option Nat
 |.lst ds=>some ds.length
 |.tup ds=>some ds.length
 |.lq ns=>some ns.length
 |.dct ks _=>some ks.length
 |.str z=>if z.length<=yag then some z.length else none
 |_=>none
def JY:AN:=λa S Q=>∃d n,a=[d]/\fX (aS S d)=some n/\Q (.dat (.int n)) S
theorem cz:tW X (.builtin "len") JY:=⟨mC (SV L2.FU L2.Ck) λl H Q h=>by
 obtain⟨w,j,S,o,ok,rep,⟨d,n,rfl,e,q⟩,bk⟩:=h;obtain⟨v,rfl,i⟩:=gQ rep;cases z:aS S d with
 |lst j=>
  rw[z] at e;have e:j.length=n:=by simpa[fX] using e
  obtain⟨a,l,rfl,h1,h2⟩:=bz ok i z;exact .inl ⟨_,n,rfl,.inl ⟨l,cN.of h1,by rw[h2.length,e]⟩,bk.dat .refl ok .int q⟩
 |tup j=>
  rw[z] at e;have e:j.length=n:=by simpa[fX] using e
  obtain⟨a,l,rfl,h1,h2⟩:=bX ok i z;exact .inl ⟨_,n,rfl,.inr ⟨l,h1,by rw[h2.length,e]⟩,bk.dat .refl ok .int q⟩
 |lq ns=>
  rw[z] at e;have e:ns.length=n:=by simpa[fX] using e
  obtain⟨a,rfl,h1⟩:=jS ok i z;exact .inl ⟨_,n,rfl,.inl ⟨_,h1,by rw[zbJ,e]⟩,bk.dat .refl ok .int q⟩
 |str y=>
  rw[z] at e;simp only[fX] at e;split at e
  next hl=>
   cases e;exact .inl ⟨_,_,rfl,(by rw[bM i z];exact⟨hl,rfl⟩),bk.dat .refl ok .int q⟩
  next=>cases e
 |dct ks j=>
  rw[z] at e;have e:ks.length=n:=by simpa[fX] using e
  obtain⟨a,m,rfl,h1,h2,_⟩:=fq ok i z;refine .inr ⟨a,m,rfl,h1,?_⟩;rw[<-zbJ (f:=(·.1)),h2,e];exact bk.dat .refl ok .int q
 |_=>rw[z] at e;simp[fX] at e⟩
noncomputable def OG:D->Option String
 |.bB=>some "NoneType"
 |.bl _=>some "bool"
 |.int _=>some "int"
 |.str _=>some "str"
 |.tup _=>some "tuple"
 |.lst _=>some "list"
 |_=>none
noncomputable def Qi(d:D)(T:String):Option Bool:=(OG d).bind λt=>if T=="str"||T=="int"||T=="bool"||T=="tuple"||T=="list" then some (t==T||(t=="bool"&&T=="int")) else none
def QV:AN:=λa S Q=>∃d T b,a=[d,.ty T]/\Qi (aS S d) T=some b/\Q (.dat (.bl b)) S
theorem Lm(ok:Ok K w H S)(h:Rep K w d v){t:String}(e:OG (aS S d)=some t):kI K H v (.type t)∨t="tuple"/\∃a ys,v=.ref a/\dJ K H a ys:=by
 cases z:aS S d with
 |lst ds=>
  rw[z] at e;cases e;obtain⟨a,i,rfl,h1,h2⟩:=bz ok h z;exact .inl (.lst h1)
 |tup ds=>
  rw[z] at e;cases e;obtain⟨a,i,rfl,h1,h2⟩:=bX ok h z;exact .inr ⟨rfl,a,i,rfl,h1⟩
 |bB=>rw[z] at e;cases e;rw[HH h z];exact .inl .bB
 |bl b=>rw[z] at e;cases e;rw[gi h z];exact .inl (.bl b)
 |int b=>rw[z] at e;cases e;rw[cB h z];exact .inl (.int b)
 |str b=>rw[z] at e;cases e;rw[bM h z];exact .inl (.str b)
 |_=>rw[z] at e;simp[OG] at e
theorem Nd{t T:String}(a:t="NoneType"∨t="bool"∨t="int"∨t="str"∨t="tuple"∨t="list")(e:(if T=="str"||T=="int"||T=="bool"||T=="tuple"||T=="list" then some (t==T||(t=="bool"&&T=="int")) else none)=some b):PySem.W.kitOne K (.type t) (.type T)=some b:=by
 split at e
 next hT=>
  simp only[Bool.or_eq_true,beq_iff_eq] at hT;cases e;rcases hT with(((rfl|rfl)|rfl)|rfl)|rfl<;>rcases a with rfl|rfl|rfl|rfl|rfl|rfl<;>rfl
 next=>cases e
theorem Ln{t:String}(e:OG d=some t):t="NoneType"∨t="bool"∨t="int"∨t="str"∨t="tuple"∨t="list":=by
 cases d<;>simp[OG] at e<;>subst e<;>simp
theorem Cm:b7 X (.builtin "isinstance") (λi H Q=>∃(a:Addr)(ys:List V)(T:String)(b:Bool),i=[.ref a,.ty T]/\dJ X.K H a ys/\PySem.W.kitOne X.K (.type "tuple") (.type T)=some b/\Q (.bl b) H):=by
 intro j s u H i x Q I r h;obtain⟨a,ys,T,b,rfl,n,t,q⟩:=h;obtain⟨v,l,rfl,m,e⟩:=vals2 r;cases Eu.2 l e;cases(show v=Value.ref a from m);obtain⟨_,_,⟨o,h1,h2,_⟩,_⟩:=I.tuple n;exact zbZ (b:=b) PySem.W.kitx_tuple I.mH ⟨o,h1,h2⟩ t (λz=>nomatch z) λtk=>⟨.bl b,H,I.tok tk,rfl,q⟩
theorem ju:tW X (.builtin "isinstance") QV:=⟨mC (SV L2.FW Cm) λn H Q h=>by
 obtain⟨w,o,S,s,ok,rep,⟨d,T,b,rfl,e,q⟩,bk⟩:=h;obtain⟨v,u,rfl,l,i⟩:=Ep rep;unfold Qi at e;cases z:OG (aS S d) with
 |none=>rw[z] at e;cases e
 |some t=>
  rw[z] at e;have kt:=Nd (K:=X.K) (Ln z) e;rcases Lm ok l z with ty|⟨rfl,a,j,rfl,m⟩
  ·exact .inl ⟨v,.ty T,_,_,b,(by rw[Er i rfl]),Eu.1,Eu.2,ty,kt,bk.dat .refl ok .bl q⟩
  ·exact .inr ⟨a,j,T,b,(by rw[Er i rfl]),m,kt,bk.dat .refl ok .bl q⟩⟩
def ji:AN:=λa S Q=>∃d,a=[d]/\match aS S d with
 |.lst es=>Q (.new (.lst es)) S
 |.tup es=>Q (.new (.lst es)) S
 |.lq ns=>Q (.new (.lst (ns.map D.int))) S
 |_=>False
theorem fW:tW X (.type "list") ji:=⟨mC L2.tF λi H Q h=>by
 obtain⟨w,l,S,m,ok,rep,⟨d,rfl,q⟩,bk⟩:=h;obtain⟨v,rfl,j⟩:=gQ rep;split at q
 next es z=>
  obtain⟨a,i,rfl,h1,h2⟩:=bz ok j z;exact⟨a,i,rfl,.inl (cN.of h1),λp e=>bk (.new (.lst _)) S _ w _ .refl (ok.alloc e) (ok.fresh e ⟨_,rfl,h2⟩) q⟩
 next es z=>
  obtain⟨a,i,rfl,h1,h2⟩:=bX ok j z;exact⟨a,i,rfl,.inr h1,λp e=>bk (.new (.lst _)) S _ w _ .refl (ok.alloc e) (ok.fresh e ⟨_,rfl,h2⟩) q⟩
 next ns z=>
  obtain⟨a,rfl,h1⟩:=jS ok j z;exact⟨a,_,rfl,.inl h1,λp e=>bk (.new (.lst _)) S _ w _ .refl (ok.alloc e) (ok.fresh e ⟨_,rfl,eF ns⟩) q⟩
 next=>exact q.elim⟩
def pN:AN:=λa S Q=>∃d,a=[d]/\match aS S d with
 |.lst es=>Q (.dat (.tup es)) S
 |.tup es=>Q (.dat (.tup es)) S
 |_=>False
theorem lJ:tW X (.type "tuple") pN:=⟨mC L2.qc λi H Q h=>by
 obtain⟨w,u,S,x,ok,rep,⟨d,rfl,q⟩,bk⟩:=h;obtain⟨v,rfl,j⟩:=gQ rep;split at q
 next es z=>
  obtain⟨a,i,rfl,h1,h2⟩:=bz ok j z;refine⟨a,i,rfl,.inl ⟨cN.of h1,λp s=>?_⟩⟩;obtain⟨t,m,l,e⟩:=ok.sI s h2;exact bk.dat m l e q
 next es z=>
  obtain⟨a,i,rfl,h1,h2⟩:=bX ok j z;refine⟨a,i,rfl,.inr ⟨h1,?_⟩⟩;cases d<;>simp only[aS] at z
  case tup=>cases z;exact bk.dat .refl ok j q
  case loc n=>split at z<;>first|(rename_i o _;cases o<;>simp[MO.d] at z)|cases z
  all_goals cases z
 next=>exact q.elim⟩
def QT:AN:=λa S Q=>∃i j,a=[.int i,.int j]/\Q (.dat (.int (if j> i then j else i))) S
def Ge:AN:=λa S Q=>∃i j,a=[.int i,.int j]/\Q (.dat (.int (if j<i then j else i))) S
theorem MQ(l:X.calm=true):tW X (.builtin "max") QT:=⟨mC (L2.Ci l) λm H Q h=>by
 obtain⟨w,n,S,o,ok,rep,⟨i,j,rfl,q⟩,bk⟩:=h;obtain⟨v,u,rfl,e,a⟩:=Ep rep;exact⟨i,j,by rw[bg e rfl,bg a rfl],bk.dat .refl ok .int q⟩⟩
theorem ER(l:X.calm=true):tW X (.builtin "min") Ge:=⟨mC (L2.Cg l) λm H Q h=>by
 obtain⟨w,n,S,o,ok,rep,⟨i,j,rfl,q⟩,bk⟩:=h;obtain⟨v,u,rfl,e,a⟩:=Ep rep;exact⟨i,j,by rw[bg e rfl,bg a rfl],bk.dat .refl ok .int q⟩⟩
end
abbrev AM:=D->List D->aL->AK->Prop
structure Q0(X:Cx)(id:String)(r:AM):Prop where
 p:CJ X id (NZ X.K r)
def Fi(T:String):D->Prop
 |.lst _=>T="list"
 |.str _=>T="str"
 |.lq _=>T="list"
 |.dct _ _=>T="dict"
 |_=>False
def wJ(T:String)(r:AM)(a:AE)(b:AA):AE:=λe S Q=>a e S λx h=>Fi T (aS h x.d)/\b e h λi j=>r x.d i j Q
def Oj(T:String)(r:AM)(a:AE):AE:=λh S Q=>a h S λx e=>Fi T (aS e x.d)/\r x.d [] e Q
section
variable {w:Wd}{d:D}
theorem Ka{T:String}(ok:Ok K w H S)(h:Rep K w d v)(t:Fi T (aS S d)):Rh K T v H:=by
 cases z:aS S d with
 |lst ds=>
  rw[z] at t;cases t;obtain⟨a,i,rfl,h1,h2⟩:=bz ok h z;exact .inl ⟨rfl,i,cN.of h1⟩
 |str y=>rw[z] at t;cases t;rw[bM h z];exact rfl
 |lq ns=>
  rw[z] at t;cases t;obtain⟨a,rfl,h1⟩:=jS ok h z;exact .inl ⟨rfl,_,h1⟩
 |dct ks ds=>
  rw[z] at t;cases t;obtain⟨a,e,rfl,h1,_⟩:=fq ok h z;exact .inr (.inr (.inl ⟨rfl,.inl ⟨e,h1⟩⟩))
 |_=>rw[z] at t;exact t.elim
theorem RN{T:String}{r:AM}{a:AE}{b:AA}:∀m H Q,aR K (wJ T r a b) m H Q->RB K T (NZ K r) (aR K a) (lW K b) m H Q:=by
 rintro m H Q ⟨w,o,S,E,ok,env,q,bk⟩;refine⟨w,o,S,_,ok,env,q,.go λu C F t I l i e ⟨ty,v⟩=>⟨Ka i e ty,?_⟩⟩;refine⟨t,o,C,_,i,env.le l,v,λx y vs s G j n h q2=>?_⟩;exact⟨s,u.d,x,y,E,n,e.le j,h,q2,bk.le (l.trans j)⟩
theorem Pz{T:String}{r:AM}{a:AE}:∀i H Q,aR K (Oj T r a) i H Q->Lu K T (NZ K r) (aR K a) i H Q:=by
 rintro i H Q ⟨w,l,S,t,ok,env,q,bk⟩;refine⟨w,l,S,_,ok,env,q,.go λn s u m v j h e ⟨ty,o⟩=>⟨Ka h e ty,?_⟩⟩;exact⟨m,n.d,[],s,t,h,e,.nil,o,bk.le j⟩
theorem gT{o:Expr}{es:List Expr}{to:AE}{t:AA}{a:Pos}{T id:String}{r:AM}(m:PlainAttrs T)(slot:Slot T name id)(l:typeOf (.builtin id)=pure (.type "method_descriptor"))(s:Q0 X id r)(q:GE X o to)(u:GA X (e::es) t)(i:attributeBase o name X.env (eval o X.env)=eval o X.env:=by rfl)(n:(e::es).all notStar=true:=by rfl)(j:decide ((e::es).length+0+0<30)=true:=by rfl)(h:(apos.endLine==a.line)=true:=by rfl):GE X (.Call (.Attribute o name apos) (e::es) [] a) (wJ T r to t):=⟨mE (L2.MA m slot l s.p q.p u.p i n j h) RN⟩
theorem xT{o:Expr}{to:AE}{a:Pos}{T id:String}{r:AM}(j:PlainAttrs T)(slot:Slot T name id)(i:typeOf (.builtin id)=pure (.type "method_descriptor"))(m:Q0 X id r)(l:GE X o to)(h:attributeBase o name X.env (eval o X.env)=eval o X.env:=by rfl)(e:(apos.endLine==a.line)=true:=by rfl):GE X (.Call (.Attribute o name apos) [] [] a) (Oj T r to):=⟨mE (L2.Ir j slot i m.p l.p h e) Pz⟩
theorem mM{id:String}{t u:V->List V->Hp->VK->Prop}(h:CJ X id t)(m:∀x a H Q,u x a H Q->t x a H Q):CJ X id u:=λe s i H x a v j Q I l n q=>h e s i H x a v j Q I l n (m x a H Q q)
theorem sO(ok:Ok K w H S)(h:Rep K w (.loc n) v)(e:S[n]? =some (some (.lst ds))):∃a i,v=.ref a/\w.r n=some a/\H a=some (.lst i)/\ao K w ds i:=by
 simp only[Rep] at h;obtain⟨a,h1,rfl⟩:=h;obtain⟨q,u,j,o,m,i,rfl,l⟩:=ok.live n _ e;rw[h1] at j;cases j;exact⟨a,i,rfl,h1,m,l⟩
theorem iy(h:ao K w ds xs):l6 K w (.lst ds) (.lst xs):=⟨xs,rfl,h⟩
def nG:AM:=λx h S Q=>∃n a e,x=.loc n/\h=[e]/\S[n]? =some (some (.lst a))/\a.length<yag/\Q (.dat .bB) (S.set n (some (.lst (a++[e]))))
theorem eX:Q0 X "list.append" nG:=⟨mM (X:=X) (t:=zK) L2.BN λx E H Q h=>by
 obtain⟨w,d,G,S,I,ok,s,o,⟨n,F,e,rfl,rfl,j,u,q⟩,bk⟩:=h;obtain⟨a,l,rfl,y,C,i⟩:=sO ok s j;obtain⟨v,rfl,m⟩:=gQ o;exact⟨a,l,v,rfl,rfl,C,by rw[i.length];exact u,bk.dat .refl (ok.put j y (iy (i.snoc m))) .bB q⟩⟩
def Ex(K:yaI):V->List V->Hp->VK->Prop:=λx vs H Q=>∃l b e a,x=.ref l/\vs=[.ref b]/\H l=some (.lst e)/\dJ K H b a/\e.length+a.length<=yag/\Q .bB (upd H l (.lst (e++a)))
theorem Jp{b:Addr}{a e:Array yai}{k:Nat}{dd:Option Addr}(h0:¬(!a.isEmpty&&Builtin.List.listTooLong (a.size+e.size))=true)(h1:a.size<=yag)(h2:a.size+e.size<=yag+1):
  Meets (Builtin.«list.extend» ⟨[.ref l,.ref b],[]⟩) (λ_ R s=>s.heap.get? l=some {cls:=.type "list",dict:=none,data:=.seq a n,slots:=#[]}/\s.heap.get? b=some {cls:=.type "tuple",dict:=dd,data:=.seq e k,slots:=sl}/\R (.ok (.ret Value.none)) {s with heap:=s.heap.update l (Obj.mapSeq λx=>x++e),toks:=s.toks}):=
 .of_wp λprog w A R s h=>by
  obtain⟨i,j,q⟩:=h;obtain⟨m,g,C,tk,os⟩:=s;have y:=AutoSeq1.idx_int;have v:=AutoSeq1.sub_tuple_tuple;have u:=AutoSeq1.sub_list_list;have t:=AutoSeq1.sub_tuple_list;have o:=AutoSeq1.sub_list_tuple;have z:(a++e).size<=yag+1:=by rw[Array.size_append];exact h2
  wp_walk using(wpAny_updateSeq i rfl (hz:=h1) (_hz':=z)),AutoSeq1.wpAny_loadPart' i,AutoSeq1.wpAny_loadPart' j
  exact⟨_,rfl,q⟩
theorem x9:CJ X "list.extend" (Ex X.K):=by
 intro t s W H x vs v us Q I G L h;obtain⟨l,b,xs,Y,rfl,rfl,y,S,hz,q⟩:=h;cases G;obtain⟨u,rfl,ru⟩:=L.one;cases ru;obtain⟨z,i,n,r,hl,e⟩:=I.uV y;obtain⟨a,o,⟨⟨c2,dd,da,sl⟩,U,j,O,C⟩,Z⟩:=I.tuple S;simp only at j C;subst j C;have P:=o.length;have m:i.toArray.size+a.toArray.size<=yag:=by rw[zaY,zaY];lia
 have E:¬(!i.toArray.isEmpty&&Builtin.List.listTooLong (i.toArray.size+a.toArray.size))=true:=by
  rw[oJ m,Bool.and_false];exact zaT
 refine call_meets F.slot_list_extend ⟨_,e,rfl⟩ F.entry_list_extend (F.args_list_extend_2 _ _)
  (Jp (n:=n) (k:=O) (dd:=dd) (sl:=sl) E (by rw[zaY];lia) (by lia)) ⟨e,U,?_⟩
 refine⟨.bB,_,I.IU (its':=i++a) y e (by simp) (r.append o) ?_,rfl,q⟩;rw[zaM];lia
def AH:AM:=λx h S Q=>∃n a e fs,x=.loc n/\h=[e]/\S[n]? =some (some (.lst a))/\(aS S e=.lst fs∨aS S e=.tup fs)/\a.length+fs.length<=yag/\Q (.dat .bB) (S.set n (some (.lst (a++fs))))
theorem oS:Q0 X "list.extend" AH:=⟨mM (CJ.or (X:=X) (r:=zJ) L2.BL x9) λx I H Q h=>by
 obtain⟨w,d,O,S,P,ok,G,F,⟨n,L,e,fs,rfl,rfl,o,i,y,q⟩,bk⟩:=h;obtain⟨a,t,rfl,C,E,l⟩:=sO ok G o;obtain⟨v,rfl,u⟩:=gQ F;rcases i with i|i
 ·obtain⟨b,m,rfl,s,j⟩:=bz ok u i;exact .inl ⟨a,b,t,m,rfl,rfl,E,s,by rw[l.length,j.length];exact y,bk.dat .refl (ok.put o C (iy (l.append j))) .bB q⟩
 ·obtain⟨b,m,rfl,s,j⟩:=bX ok u i;exact .inr ⟨a,b,t,m,rfl,rfl,E,s,by rw[l.length,j.length];exact y,bk.dat .refl (ok.put o C (iy (l.append j))) .bB q⟩⟩
theorem ao.dropLast(h:ao K w ds xs):ao K w ds.dropLast xs.dropLast:=by
 rw[List.dropLast_eq_take,List.dropLast_eq_take,h.length];exact h.take _
def QS:AM:=λx h S Q=>∃n a e,x=.loc n/\h=[]/\S[n]? =some (some (.lst a))/\a[a.length - 1]? =some e/\Q (.dat e) (S.set n (some (.lst a.dropLast)))
theorem Qe:Q0 X "list.pop" QS:=⟨mM (X:=X) (t:=PC) L2.MX λx m H Q h=>by
 obtain⟨w,d,F,S,G,ok,s,o,⟨n,E,e,rfl,rfl,j,u,q⟩,bk⟩:=h;obtain⟨a,l,rfl,y,C,i⟩:=sO ok s j;have z:m=[]:=by simpa[ao] using o
 subst z;obtain⟨v,h1,h2⟩:=i.get u;exact⟨a,l,v,rfl,rfl,C,by rw[i.length];exact h1,bk.dat .refl (ok.put j y (iy i.dropLast)) h2 q⟩⟩
def QW(i:Nat)(a:AE)(r:A2):AS:=λD e S=>∃x,e[i]? =some (some x)/\a e S λy j=>r x y.d j λz h=>D.nx (e.set i (some z.d)) h
def Og:A2:=λx y S Q=>∃i j,x=.int i/\y=.int j/\Q (.dat (.int (i+j))) S
theorem Bx{t:AE}(E:X.N.Nodup)(hi:X.N[i]? =some x)(u:Loc X.env.scope x)(C:GE X e t)(y:X.fn x=true∨X.env.scope.names.lookup x=some .local:=by first|exact .inl rfl|exact .inr rfl|assumption):
  GS X (.AugAssign (.Name x pos') .Add e pos) (QW i t Og):=⟨mS (L2.Mx E hi u C.p L2.Nq y) λD L H h=>by
 obtain⟨w,o,S,Q,ok,env,⟨d,hd,q⟩,bk⟩:=h;obtain⟨v,h1,h2⟩:=env.2 i d hd;refine⟨v,h1,w,o,S,_,ok,env,q,.go λP G O s I l n j m=>?_⟩;obtain⟨a,b,rfl,F,m⟩:=m;exact⟨a,b,bg h2 rfl,bg j F,bk.nx _ G _ s I l n ((env.le l).set .int i) m⟩⟩
end
end M
namespace M
open PySem L2
theorem bf{P:aL->Prop}{g:AG}{b:AS}{D:k9}(I:List M.D->bx->aL->Prop)(l:∀δ S,I [] δ S->P S/\D.nx δ S)(m:∀x e δ S N,I (x::e) δ S->(∀a i,I e a i->N a i)->P S/\g x δ S λj o=>b {D with nx:=N,ct:=N,bk:=D.nx} j o):∀ds δ S,I ds δ S->qJ P g b ds D δ S
 |[],δ,S,h=>l δ S h
 |x::e,δ,S,h=>m x e δ S _ h λa i n=>bf I l m e a i n
theorem s9{P:aL->Prop}{g:AG}{t:AT}{e:AE}{Q:List M.D->aL->Prop}(I:List M.D->List M.D->bx->aL->Prop)(o:∀a δ S,I [] a δ S->P S/\Q a S)(q:∀x m a δ S (N:List M.D->bx->aL->Prop),I (x::m) a δ S->(∀i j n,I m i j n->N i j n)->P S/\g x δ S λl y=>t l y λb s=>if b=true then e l s λr v=>a.length<yag/\N (a++[r.d]) l v else N a l s):
  ∀ds a δ S,I ds a δ S->gV P g t e ds a δ S Q
 |[],a,δ,S,h=>o a δ S h
 |x::m,a,δ,S,h=>q x m a δ S (λi j n=>gV P g t e m i j n Q) h λi j n u=>s9 I o q m i j n u
theorem comp_map{P:aL->Prop}{e:AE}{Q:List M.D->aL->Prop}{δ:bx}{S:aL}(f:M.D->M.D)(m:P S):∀(j i:List M.D)(a:bx),a.set 0 none=δ.set 0 none->(∀x∈j,∀Q:AK,Q (.dat (f x)) S->e (δ.set 0 (some x)) S Q)->i.length+j.length<=yag->Q (i++j.map f) S->
  gV P (bW 0) vQ e j i a S Q
 |[],i,a,_,_,_,q=>⟨m,by simpa using q⟩
 |x::j,i,a,hd,h,hl,q=>by
  refine⟨m,?_⟩;have o:a.set 0 (some x)=δ.set 0 (some x):=by
   have:=congrArg (λl=>l.set 0 (some x)) hd;simpa[List.set_set] using this
  simp only[bW,vQ,if_true];rw[o];refine h x (by simp) _ ⟨by simp at hl;lia,?_⟩;refine comp_map f m j _ _ (by simp[List.set_set]) (λy n=>h y (by simp[n])) (by simp at hl⊢;lia) ?_;simpa[R.d,zbc] using q
theorem zw{d:D}(h:b8 d=true):aS S d=d:=by
 cases d<;>first|rfl|simp[b8] at h
theorem DM{i:Int}:aS S (.int i)=.int i:=rfl
theorem DJ{i:Str}:aS S (.str i)=.str i:=rfl
theorem zy{i:Bool}:aS S (.bl i)=.bl i:=rfl
theorem DL:aS S .bB=.bB:=rfl
theorem jR{i:List D}:aS S (.tup i)=.tup i:=rfl
theorem dO{i:List D}:aS S (.lst i)=.lst i:=rfl
theorem DK{i:List Int}:aS S (.lq i)=.lq i:=rfl
theorem lF{d:D}:(R.dat d).d=d:=rfl
theorem xM{o:MO}:(R.new o).d=o.d:=rfl
theorem zX:(MO.lst ds).d=.lst ds:=rfl
theorem IW{i j:Int}{Q:AK}:S8 (.int i) (.int j) S Q=Q (.dat (.bl (decide (i<=j)))) S:=rfl
theorem IQ{i j:Int}{Q:AK}:S7 (.int i) (.int j) S Q=Q (.dat (.bl (decide (i<j)))) S:=rfl
theorem Gi{C:Int->Int->Prop}{g:Int->Int->D}{i j:Int}{Q:AK}:aI C g (.int i) (.int j) S Q=(C i j/\Q (.dat (g i j)) S):=by
 refine propext ⟨λe=>?_,λh=>⟨i,j,rfl,rfl,h⟩⟩;obtain⟨a,b,m,l,h⟩:=e;cases m;cases l;exact h
theorem F7{i j:Int}{Q:AK}:Cr (.int i) (.int j) S Q=Q (.dat (.int (i+j))) S:=rfl
theorem vO{i j:List D}{Q:AK}:Cr (.lst i) (.lst j) S Q=(i.length+j.length<=yag/\Q (.new (.lst (i++j))) S):=rfl
theorem Al{i j:Int}{Q:AK}:J0 (.int i) (.int j) S Q=Q (.dat (.bl (decide (i=j)))) S:=rfl
theorem Js{i j:Str}{Q:AK}:J0 (.str i) (.str j) S Q=Q (.dat (.bl (decide (i=j)))) S:=rfl
theorem Lp:dY (.bl b)=some b:=rfl
theorem Hv:dY (.lst ds)=some (!ds.isEmpty):=rfl
theorem Ht:dY (.tup ds)=some (!ds.isEmpty):=rfl
theorem zS{d:D}(h:b8 d=true):out n S (.dat d)=some (.dat d):=by
 have b:=Ay n d h;cases d<;>first|(simp[b8] at h;done)|(simp only[out];rw[yIp b])
theorem pJ:chg S S:=λ_ _ _ e=>.inl e
theorem aY{d:D}{Q:AK}(h:b8 d=true)(q:Q (.dat d) S):ret S S (.dat d) Q:=⟨_,zS h,pJ,by rw[zbv];exact q⟩
theorem Mj{Q:AK}:ret S S (.dat (.bl b)) Q=Q (.dat (.bl b)) S:=by
 refine propext ⟨λ⟨r,h1,_,h2⟩=>?_,aY rfl⟩;simp[out,jm] at h1;subst h1;rw[zbv] at h2;exact h2
theorem Ie{b:Int}{Q:AK}:ret S S (.dat (.int b)) Q=Q (.dat (.int b)) S:=by
 refine propext ⟨λ⟨r,h1,_,h2⟩=>?_,aY rfl⟩;simp[out,jm] at h1;subst h1;rw[zbv] at h2;exact h2
theorem d9{Q:AK}(h:bL ds=true)(q:Q (.new (.lst ds)) S):ret S S (.new (.lst ds)) Q:=
 ⟨_,by simp only[out];rw[yIp (show lY _ (.lst ds)=true from cK _ ds h)],pJ,by rw[zbv];exact q⟩
theorem rX{Q:AK}{a:aL}(l:S.length<=n)(h:bL ds=true)(e:a[n]? =some (some (.lst ds)))(i:a.take S.length=S)(q:Q (.new (.lst ds)) S):ret S a (.dat (.loc n)) Q:=by
 refine⟨.new (.lst ds),?_,λk o j e=>.inl ?_,by rw[i];exact q⟩
 ·simp only[out];rw[yIn (by lia),e];show(if lY S.length (.lst ds)=true then some (R.new (.lst ds)) else none)=_;rw[yIp (show lY _ (.lst ds)=true from cK _ ds h)]
 ·rw[<-i,List.getElem?_take,yIp j];exact e
noncomputable def fU(x:Str):Bool:=x.cps.toList.all (λc=>decide (c<128))&&decide (x.length<=100)
noncomputable def nQ:Nat->D->Bool
 |_,.bB=>true
 |_,.bl _=>true
 |_,.int _=>true
 |_,.str x=>fU x
 |n+1,.tup ds=>decide (ds.length<=100)&&ds.all (nQ n)
 |n+1,.lst ds=>decide (ds.length<=100)&&ds.all (nQ n)
 |_,_=>false
theorem oF(h:fU x=true):PyData.strOk x=true:=by
 unfold fU at h;rw[zbF] at h;unfold PyData.strOk;rw[<-Array.all_toList];refine zbu.mpr λc a=>?_;have:=of_decide_eq_true (zbu.mp h.1 c a);exact yDt (by lia)
theorem C5:∀(n:Nat)(d:D),nQ n d=true->b8 d=true/\(py d).canLay0=true/\(py d).depth<=n:=by
 intro n
 induction n with
 |zero=>
  intro d h;cases d<;>first|(simp[nQ] at h;done)|skip
  ·simp[b8,py,PyData.canLay0,PyData.depth]
  ·simp[b8,py,PyData.canLay0,PyData.depth]
  ·simp[b8,py,PyData.canLay0,PyData.depth]
  ·simp only[nQ] at h;simp[b8,py,PyData.canLay0,PyData.depth,oF h]
 |succ n ih=>
  have all:∀a:List D,(a.all (nQ n))=true->bL a=true/\PyData.canLayAll0 (fj a)=true/\PyData.depthAll (fj a)<=n:=by
   intro a
   induction a with
   |nil=>intro _;simp[bL,fj,PyData.canLayAll0,PyData.depthAll]
   |cons d a ih2=>
    intro h;rw[zck,zbF] at h;obtain⟨i,e,j⟩:=ih d h.1;obtain⟨m,l,o⟩:=ih2 h.2;refine⟨by simp[bL,i,m],by simp[fj,PyData.canLayAll0,e,l],?_⟩;simp only[fj,PyData.depthAll];lia
  intro d h;cases d<;>first|(simp[nQ] at h;done)|skip
  ·simp[b8,py,PyData.canLay0,PyData.depth]
  ·simp[b8,py,PyData.canLay0,PyData.depth]
  ·simp[b8,py,PyData.canLay0,PyData.depth]
  ·simp only[nQ] at h;simp[b8,py,PyData.canLay0,PyData.depth,oF h]
  ·simp only[nQ,zbF] at h;obtain⟨i,e,j⟩:=all _ h.2;exact⟨by simpa[b8] using i,by simpa[py,PyData.canLay0] using e,by simp only[py,PyData.depth];lia⟩
  ·simp only[nQ,zbF] at h;obtain⟨i,e,j⟩:=all _ h.2;exact⟨by simpa[b8] using i,by simpa[py,PyData.canLay0] using e,by simp only[py,PyData.depth];lia⟩
theorem C3{d:D}(h:nQ n d=true):b8 d=true:=(C5 n d h).1
theorem eN{d:D}(h:nQ n d=true)(e:n<=64):fit d=true:=by
 obtain⟨a,b,c⟩:=C5 n d h;unfold fit PySem.SeqAt.shaped;rw[a,b,yDt (by lia)];rfl
noncomputable def KY(x:D)(s:Str):Bool:=match x with
 |.str a=>decide (a=s)
 |_=>false
noncomputable def B5(x:D)(ss:List Str):Bool:=ss.any λs=>KY x s
theorem Jr{x:D}{s:Str}(h:b8 x=true):PyData.eqv (.str s) (py x)=KY x s:=by
 cases x<;>first|(simp[b8] at h;done)|simp only[py,PyData.eqv,KY]
 rename_i a;by_cases e:s=a
 ·subst e;simp
 ·rw[yDf (λz=>e z.symm)];exact beq_eq_false_iff_ne.mpr e
theorem o5{x:D}(h:b8 x=true):∀ss:List Str,inD x (ss.map D.str)=B5 x ss
 |[]=>rfl
 |s::ss=>by
  have:=o5 h ss;unfold inD B5 at this⊢;rw[zci,zcj,zcj,this];rw[show PyData.eqv (py (.str s)) (py x)=KY x s from Jr h]
theorem eZ{x:D}{Q:AK}(h:nQ n x=true)(i:n<=64)(e:ss.all fU=true)(q:Q (.dat (.bl (neg != B5 x ss))) S)(j:ss.length<=100:=by decide):tV neg x (.tup (ss.map D.str)) S Q:=by
 have a:=C3 h;unfold tV;rw[zw a,jR];refine⟨eN h i,eN (n:=1) ?_ (by decide),?_⟩
 ·simp only[nQ,List.all_map,zbJ,yDt j,zcn];exact e
 ·rw[o5 a];exact q
theorem lR{x:D}{Q:AK}(h:nQ n x=true)(i:n<=64)(e:ss.all fU=true)(q:Q (.dat (.bl (neg != B5 x ss))) S)(j:ss.length<=100:=by decide):tV neg x (.lst (ss.map D.str)) S Q:=by
 have a:=C3 h;unfold tV;rw[zw a,dO];refine⟨eN h i,eN (n:=1) ?_ (by decide),?_⟩
 ·simp only[nQ,List.all_map,zbJ,yDt j,zcn];exact e
 ·rw[o5 a];exact q
end M
namespace M
open PySem PySem.Spec PyProof.Rows PySem.SeqAt L2
def PM(K:yaI):R2:=λx y H Q=>∃a b,x=.ref a/\y=.ref b/\dJ K H a []/\(∃e,dJ K H b e)/\Q (.ref b) H
theorem IB:fE X (binaryOp .Add) (PM X.K):=by
 intro G s σ H x y v u Q I Y W h;obtain⟨a,b,rfl,rfl,ha,⟨ys,hb⟩,q⟩:=h;cases Y;cases W;obtain⟨t,Z,p1,_⟩:=I.tuple ha;obtain⟨i,r2,p2,_⟩:=I.tuple hb;have e:t=[]:=by cases Z;rfl
 subst e;obtain⟨⟨cls,dd,P,U⟩,L,O,n,hd⟩:=id p1;obtain⟨⟨S,C,E,o⟩,j,m,n2,l⟩:=id p2;simp only at O hd m l;subst O hd m l;exact concat_meets ⟨_,L,rfl⟩ ⟨_,j,rfl⟩ noFill_tuple_add seq_tuple_add PySem.F.slot_tuple_add PySem.F.entry_tuple_add (PySem.F.args_tuple_add_2 _ _)
  (tuple_addW0 a b #[] i.toArray n n2 dd C U o rfl) ⟨L,j,.ref b,H,I,rfl,q⟩
def AL:A2:=λx y S Q=>match aS S x,aS S y with
 |.tup [],.tup ys=>Q (.dat (.tup ys)) S
 |_,_=>Cr x y S Q
theorem DI{d:D}(z:aS S d=.tup ds):d=.tup ds:=by
 cases d<;>simp only[aS] at z
 case loc n=>split at z<;>first|(rename_i o _;cases o<;>simp[MO.d] at z)|cases z
 all_goals first|cases z|skip
 rfl
theorem ES:mQ X (binaryOp .Add) AL:=⟨m2 (G6 bA.p IB) λx y H Q h=>by
 obtain⟨w,d,e,S,s,ok,j,i,q,bk⟩:=h;unfold AL at q;split at q
 next ys z1 z2=>
  obtain⟨a,l,rfl,h1,n⟩:=bX ok j z1;obtain⟨b,m,rfl,h2,t⟩:=bX ok i z2;have:l=[]:=by simpa[ao] using n
  subst this;have o:=DI z2;subst o;exact .inr ⟨a,b,rfl,rfl,h1,⟨m,h2⟩,bk.dat .refl ok i q⟩
 next=>exact .inl ⟨w,d,e,S,s,ok,j,i,q,bk⟩⟩
end M
namespace M
open PySem L2
section
variable {c:AT}{a b r:AS}{D:k9}
theorem wZ(h:∀N:bx->aL->Prop,(∀e i,b D e i->N e i)->a {D with nx:=N} δ S):qe a b D δ S:=h (b D) λ_ _ z=>z
theorem b6(h:∀Q:Bool->aL->Prop,Q false S->c δ S Q)(k:r D δ S):qe (Gh c a vR) r D δ S:=h _ (by rw[yIn (by decide)];exact k)
theorem gG(h:∀Q:Bool->aL->Prop,Q true S->c δ S Q)(k:a {D with nx:=r D} δ S):qe (Gh c a vR) r D δ S:=h _ (by rw[yIp rfl];exact k)
theorem qF{p:Prop}[Decidable p]{Q:Bool->aL->Prop}(h:¬p)(q:Q false S):Q (decide p) S:=by rw[yDf h];exact q
theorem qT{p:Prop}[Decidable p]{Q:Bool->aL->Prop}(h:p)(q:Q true S):Q (decide p) S:=by rw[yDt h];exact q
end
end M
namespace M
open PySem PySem.Spec PyProof.Rows L2
theorem qj:∀{vs:List yai}{ss:List Str},StrsAre vs ss->Vals (ss.map V.str) vs
 |_,_,.nil=>.nil
 |_,_,.cons y t h=>.cons ⟨t,rfl⟩ (qj h)
theorem eS{K:yaI}{w:Wd}:∀{ns:List Int}{a:List V},ao K w (ns.map D.int) a->a=ns.map V.int
 |[],a,h=>by simpa[ao] using h
 |s::ss,a,h=>by
  simp only[zci,ao] at h;obtain⟨x,r,rfl,h1,h2⟩:=h;rw[bg h1 rfl,eS h2];rfl
theorem jW{K:yaI}{w:Wd}:∀ss:List Str,ao K w (ss.map D.str) (ss.map V.str)
 |[]=>by simp[ao]
 |s::ss=>by
  simp only[zci,ao];exact⟨_,_,rfl,by simp[Rep],jW ss⟩
section
variable {o:Expr}{es:List Expr}{tpos:Pos}
noncomputable def putD(f:Str)(d:D):List Str->List D->List Str×List D
 |k::ks,e::ds=>if k=f then(k::ks,d::ds) else(k::(putD f d ks ds).1,e::(putD f d ks ds).2)
 |_,_=>([f],[d])
theorem zL{K:yaI}{w:Wd}{f:Str}{d:D}{v:V}(g:Rep K w d v):∀(fs:List (Str×V))(ds:List D),ao K w ds (fs.map (·.2))->(gy f v fs).map (·.1)=(putD f d (fs.map (·.1)) ds).1/\ao K w (putD f d (fs.map (·.1)) ds).2 ((gy f v fs).map (·.2))
 |[],ds,h=>by
  cases ds with
  |nil=>exact⟨rfl,.cons g .nil⟩
  |cons _ _=>exact⟨rfl,.cons g .nil⟩
 |(k,x)::fs,ds,h=>by
  cases ds with
  |nil=>simp[ao] at h
  |cons e ds=>
   simp only[zci,ao] at h;obtain⟨y,r,h1,h2,i⟩:=h;have n:=(zcP.inj h1).1;have m:=(zcP.inj h1).2;subst n;subst m;obtain⟨l,j⟩:=zL g fs ds i;simp only[gy,zci,putD];by_cases a:k=f
   ·rw[yIp a,yIp a];exact⟨rfl,.cons g i⟩
   ·rw[yIn a,yIn a];exact⟨by rw[zci,l],.cons h2 j⟩
theorem uX{K:yaI}{w:Wd}{f:Str}{d:D}:∀(fs:List (Str×V))(ds:List D),ao K w ds (fs.map (·.2))->((fs.map (·.1)).zip ds).lookup f=some d->∃v,fs.lookup f=some v/\Rep K w d v
 |[],ds,h,q=>by simp at q
 |(k,x)::fs,ds,h,q=>by
  cases ds with
  |nil=>simp at q
  |cons e ds=>
   simp only[zci,ao] at h;obtain⟨y,r,h1,h2,i⟩:=h;have l:=(zcP.inj h1).1;have j:=(zcP.inj h1).2;subst l;subst j;rw[zci,zaN,zbt] at q;rw[zbt];split at q
   ·rename_i a;have:e=d:=by simpa using q
    subst this;exact⟨x,by rw[a],h2⟩
   ·rename_i a;obtain⟨v,e,r⟩:=uX fs ds i q;exact⟨v,by rw[a];exact e,r⟩
theorem qK{f:Str}:∀(fs:List (Str×V)),f ∉ fs.map (·.1)->fs.lookup f=none
 |[],_=>rfl
 |(k,x)::fs,h=>by
  rw[zbt];have:(f==k)=false:=by
   rw[beq_eq_false_iff_ne];intro z;exact h (by simp[z])
  rw[this];exact qK fs λz=>h (by simp only[zci,zch];exact .inr z)
theorem yi{w:Wd}{ks:List Str}(ok:Ok K w H S)(h:Rep K w (.loc n) v)(e:S[n]? =some (some (.ins C ks ds))):
  ∃a i fs,v=.ref a/\w.r n=some a/\H a=some (.ins C i fs)/\fs.map (·.1)=ks/\ao K w ds (fs.map (·.2)):=by
 simp only[Rep] at h;obtain⟨a,h1,rfl⟩:=h;obtain⟨t,u,j,s,q,i,fs,rfl,m,l⟩:=ok.live n _ e;rw[h1] at j;cases j;exact⟨a,i,fs,rfl,h1,q,m,l⟩
def JZ(C:Addr)(a:AE)(f:Str):AE:=λj S Q=>a j S λr i=>∃n e h d,r=.dat (.loc n)/\i[n]? =some (some (.ins C e h))/\(e.zip h).lookup f=some d/\Q (.dat d) i
theorem dw{f:Str}(F:GE X e ta)(c:CO X.K C)(nf:ff X.K C f)(G:attributeBase e f X.env (eval e X.env)=eval e X.env:=by rfl):GE X (.Attribute e f pos) (JZ C ta f):=
 ⟨mE (L2.dw F.p G) λW H Q h=>by
  obtain⟨w,t,S,Qa,ok,env,q,bk⟩:=h;refine⟨w,t,S,_,ok,env,q,λr S1 v Y H1 s j i m=>?_⟩;obtain⟨n,Z,U,d,O,L,y,x⟩:=m;subst O;obtain⟨a,P,fs,rfl,_,I,E,hd⟩:=yi j i L;subst E;obtain⟨v,l,u⟩:=uX fs U hd y;exact⟨a,C,P,fs,v,rfl,I,c,nf,l,bk.dat s j u x⟩⟩
def KC(C:Addr)(a v:AE)(f:Str):AS:=λD h S=>v h S λy l=>a h l λr j=>∃n e i,r=.dat (.loc n)/\j[n]? =some (some (.ins C e i))/\e.length<1000/\D.nx h (j.set n (some (.ins C (putD f y.d e i).1 (putD f y.d e i).2)))
theorem oj{f:Str}{E:AE}(u:GE X o ta)(U:GE X value E)(c:CO X.K C)(nf:ff X.K C f)(W:yat value (some (.Attribute o f pos2)) pos.line X.env=pure false:=by rfl):
  GS X (.Assign [.Attribute o f pos2] value pos) (KC C ta E f):=
 ⟨mS (L2.oj u.p U.p W) λDx σ H h=>by
  obtain⟨w,x,S,Da,ok,env,q,bk⟩:=h;refine⟨w,x,S,_,ok,env,q,.go λy S1 v1 L H1 i t l O=>?_⟩;refine⟨L,x,S1,_,t,env.le i,O,λr S2 v2 I H2 e m j s=>?_⟩;obtain⟨n,ks,v,er,F,Z,q2⟩:=s;subst er;obtain⟨a,G,fs,rfl,Y,u,hk,hd⟩:=yi m j F;subst hk;obtain⟨Q,P⟩:=zL (f:=f) (l.le e) fs v hd;refine⟨a,C,G,fs,rfl,u,c,nf,by simpa using Z,?_⟩;exact bk.nx _ _ _ I _ (i.trans e) (m.put F Y (o':=.ins C (putD f y.d (fs.map (·.1)) v).1 (putD f y.d (fs.map (·.1)) v).2) ⟨G,_,rfl,Q,P⟩) (env.le (i.trans e)) q2⟩
end
structure tQ(K:yaI)(C:Addr)(m qual:Str)(ps:List Str)(st:Stmt):Prop where
 ex:∃f fd,GZ K m qual st f fd/\Meth K C m f/\Binds K fd ps []
structure i6(P:yaj)(w:yak)(K:yaI)(mg:Str->Option yai)(base:Heap)(k:Nat)(C:Addr)(m:Str)(ps:List Str)(sp:AN):Prop where
 ex:∃f fd,dX P w K mg base nJ k f fd ps (av K sp)/\Meth K C m f/\Binds K fd ps []
theorem okB{k:Nat}(F:GZ K x qual st f fd)(S:aA N ps (ah st))(len:∀ds S Q,sp ds S Q->ds.length=ps.length)(j:∀(f:Addr)(e:yai)(A:yal)(outer:List Env)(s:yah)(H:Hp)(E:XK),aX k (A.deeper (PyProof.Rows.envOfC qual (ah st) s.heap.objs.size f e))->∃a,CM (lV nJ P w K mg base N qual (ah st) f e A outer s H E).G8 (bC st) a/\∀ds S Q,sp ds S Q->a {nx:=λ_ m=>M.ret S m (.dat .bB) Q,rt:=λr m=>M.ret S m r Q} (aK N ds) S):dX P w K mg base nJ (k+1) f fd ps (av K sp):=
 F.ok S (λvs H Q E h=>by
  obtain⟨w,ds,S,o,ok,rep,q,bk⟩:=h;rw[rep.length];exact len ds S o q) λe A outer s H vs Q E u h=>by
  obtain⟨a,y,hd⟩:=j f e A outer s H E u;obtain⟨w,ds,S,o,ok,rep,q,bk⟩:=h;refine⟨_,y.p,w,aK N ds,S,_,ok,jf rep,hd ds S o q,⟨λI m G t C le i env n=>?_,λr m v t C le i l n=>?_,λ_ _ _ _ _ _ _ _ z=>z.elim,λ_ _ _ _ _ _ _ _ z=>z.elim⟩⟩
  ·exact rW (r:=.dat .bB) (v:=.bB) ok le i (show Rep K t .bB .bB from .bB) n bk
  ·exact rW ok le i l n bk
section
variable {o:Expr}{es:List Expr}{k:Nat}{m:Str}
def Gf(C:Addr)(m:Str)(sp:AN)(a:AE)(t:AA):AE:=λe S Q=>a e S λr i=>∃n h j,r=.dat (.loc n)/\i[n]? =some (some (.ins C h j))/\m ∉ h/\t e i λes l=>sp (.loc n::es) l Q
theorem LY{E:XK}{a:AE}{t:AA}:∀s H Q,aR K (Gf C m sp a t) s H Q->Kh C m (av K sp) [] E (aR K a) (lW K t) s H Q:=by
 rintro s H Q ⟨w,y,S,Qa,ok,env,q,bk⟩;refine⟨w,y,S,_,ok,env,q,λr S1 v G H1 l i h u=>?_⟩;obtain⟨n,ks,ds,X,W,O,I⟩:=u;subst X;obtain⟨a,Y,fs,rfl,L,U,P,hd⟩:=yi i h W;subst P;refine⟨a,Y,fs,rfl,U,qK fs O,G,y,S1,_,i,env.le l,I,λes Z vs F H2 j x e q2=>?_⟩;refine⟨F,.loc n::es,Z,Qa,x,?_,q2,bk.le (l.trans j)⟩;rw[zbK];exact .cons (by simp only[Rep];exact⟨a,j.r _ _ L,rfl⟩) e
theorem cS{pl:Sem Bool}{t:AA}(n:GE X o ta)(c:CO X.K C)(D:i6 X.prog X.w X.K X.mg X.base k C m ps sp)(j:aX k X.A)(s:GA X (e::es) t)(a:yao (e::es) X.env=(false,eval e X.env)::yao es X.env:=by rfl)(h:(yau pos (yao es X.env)).any (·.1)=false:=by rfl)(i:eval (.Call (.Attribute o m apos) (e::es) [] pos) X.env=(do
   let ov <-eval o X.env
   standAt apos.atName
   let(f,first) <-holding [ov] (yaC ov m pl)
   callWith pos f first (yau pos (yao (e::es) X.env)) (yaE pos (yaD [] X.env))):=by rfl):
  GE X (.Call (.Attribute o m apos) (e::es) [] pos) (Gf C m sp ta t):=by
 obtain⟨f,fd,F,l,q⟩:=D.ex;exact⟨mE (L2.cS n.p c l F j q .nil zR s.p a h i) LY⟩
def K7(C:Addr)(sp:AN)(t:AA):AE:=λe S Q=>t e S λes a=>sp (.loc a.length::es) (a++[some (.ins C [] [])]) λr h=>r=.dat .bB/\Q (.dat (.loc a.length)) h
def Oe:AS:=λ_ _ _=>False
theorem eT:GS X st Oe:=⟨mS L2.eT λD a H h=>by obtain⟨_,_,_,_,_,_,z,_⟩:=h;exact z.elim⟩
end
end M
namespace Srt
open PySem PySem.W PyProof.Rows
structure Ord(α:Type) where
 lt:α->α->Bool
 Se:∀a,lt a a=false
 tr:∀a b c,lt a b=true->lt b c=true->lt a c=true
 nt:∀a b c,lt a c=true->lt a b=true∨lt b c=true
noncomputable def run{e:Type}(f:Nat->Nat->Bool):KasT e->e
 |.ret a=>a
 |.ask i j k=>run f (k (f i j))
theorem run_bind{e h:Type}{f:Nat->Nat->Bool}{g:e->KasT h}:∀t:KasT e,run f (t.bind g)=run f (g (run f t))
 |.ret a=>rfl
 |.ask i j k=>run_bind (k (f i j))
section
variable {α:Type}(O:Ord α)
def le(a b:α):Prop:=O.lt b a=false
variable {O}
theorem le_rfl(a:α):le O a a:=O.Se a
theorem z4{a b:α}(h:O.lt a b=true):le O a b:=by
 unfold le;cases e:O.lt b a with
 |false=>rfl
 |true=>have:=O.tr _ _ _ h e;rw[O.Se] at this;cases this
theorem jv{a b c:α}(h:le O a b)(g:le O b c):le O a c:=by
 unfold le at*;cases e:O.lt c a with
 |false=>rfl
 |true=>
  rcases O.nt _ b _ e with z|z
  ·rw[g] at z;cases z
  ·rw[h] at z;cases z
theorem oU{a b:α}(h:¬O.lt a b=true):le O b a:=by unfold le;simpa using h
end
section
variable {α:Type}{O:Ord α}{k:Nat->α}{p:Array Nat}
noncomputable def val(k:Nat->α)(p:Array Nat)(i:Nat):α:=k (p.getD i 0)
variable (O k)
def Up(p:Array Nat)(m:Nat):Prop:=∀i j,i<=j->j<m->le O (val k p i) (val k p j)
def Down(p:Array Nat)(m:Nat):Prop:=∀i j,i<=j->j<m->le O (val k p j) (val k p i)
noncomputable abbrev ask(i j:Nat):Bool:=O.lt (k i) (k j)
variable {O k}
theorem Hs(h:Up O k p n)(h1:1<=n)(g:le O (val k p (n - 1)) (val k p n)):Up O k p (n+1):=λi j a m=>by
 by_cases e:j<n
 ·exact h i j a e
 ·have:j=n:=by lia
  subst this;by_cases l:i=j
  ·subst l;exact le_rfl _
  ·exact jv (h i (j - 1) (by lia) (by lia)) g
theorem jg(h:Down O k p n)(h1:1<=n)(g:le O (val k p n) (val k p (n - 1))):Down O k p (n+1):=λi j a m=>by
 by_cases e:j<n
 ·exact h i j a e
 ·have:j=n:=by lia
  subst this;by_cases l:i=j
  ·subst l;exact le_rfl _
  ·exact jv g (h i (j - 1) (by lia) (by lia))
theorem yJ:∀(f n:Nat),1<=n->Up O k p n->n<=run (ask O k) (kas_asc p f n)/\run (ask O k) (kas_asc p f n)<=n+f/\Up O k p (run (ask O k) (kas_asc p f n))
 |0,n,_,h=>⟨zcI _,zcI _,h⟩
 |f+1,n,h1,h=>by
  show n<=run _ (if O.lt (val k p n) (val k p (n - 1))=true then _ else _)/\_;by_cases e:O.lt (val k p n) (val k p (n - 1))=true
  ·have:run (ask O k) (kas_asc p (f+1) n)=n:=by
    show run _ (if O.lt (val k p n) (val k p (n - 1))=true then _ else _)=_;rw[yIp e];rfl
   rw[yIp e,this];exact⟨zcI _,by lia,h⟩
  ·have i:run (ask O k) (kas_asc p (f+1) n)=run (ask O k) (kas_asc p f (n+1)):=by
    show run _ (if O.lt (val k p n) (val k p (n - 1))=true then _ else _)=_;rw[yIn e]
   rw[yIn e,i];obtain⟨a,b,c⟩:=yJ f (n+1) (by lia) (Hs h h1 (oU e));exact⟨by lia,by lia,c⟩
theorem kg{x:Nat}:p.getD x 0=(p[x]?).getD 0:=by
 by_cases h:x<p.size
 ·simp[zcO,h]
 ·simp[zcO,h,zap (Nat.le_of_not_lt h)]
theorem val_rev(a:j<=p.size)(x:Nat):val k (kas_rev p i j) x=if i<=x/\x<j then val k p (i+j - 1 - x) else val k p x:=by
 unfold val kas_rev;rw[kg,getElem?_mirror_all a];split<;>rw[kg]
theorem nZ:(kas_rev p i j).size=p.size:=mirror_size _ _ _ _
theorem cY:(kas_rev p i j).Perm p:=mirror_perm _ _ _ _
def Flat(O:Ord α)(k:Nat->α)(p:Array Nat)(n q:Nat):Prop:=q+1<=n/\∀i j,n - (q+1)<=i->i<n->n - (q+1)<=j->j<n->le O (val k p i) (val k p j)
theorem vo{q:Nat}(l:n<=p.size)(h:Down O k p n)(f:Flat O k p n q):Down O k (kas_rev p (n - (q+1)) n) n:=λi j e m=>by
 obtain⟨s,o⟩:=f;rw[val_rev l,val_rev l];by_cases a:n - (q+1)<=j
 ·rw[yIp ⟨a,m⟩];by_cases b:n - (q+1)<=i
  ·rw[yIp ⟨b,by lia⟩];exact o _ _ (by lia) (by lia) (by lia) (by lia)
  ·rw[yIn (by lia)];exact h _ _ (by lia) (by lia)
 ·rw[yIn (by lia),yIn (by lia)];exact h _ _ e m
theorem Fx(h:1<=n):Flat O k p n 0:=⟨by lia,λi j a b c d=>by
 have:i=j:=by lia
 subst this;exact le_rfl _⟩
theorem nD:∀(f n q:Nat)(p:Array Nat),n+f<=p.size->Down O k p n->Flat O k p n q->
  ∃m l o,run (ask O k) (kas_desc f p n q)=(m,l,o)/\m.Perm p/\n<=l/\l<=n+f/\Down O k m l/\Flat O k m l o
 |0,n,q,p,hz,h,fl=>⟨p,n,q,rfl,Array.Perm.refl _,zcI _,zcI _,h,fl⟩
 |f+1,n,q,p,hz,h,fl=>by
  have h1:1<=n:=by have:=fl.1;lia
  have I:run (ask O k) (kas_desc (f+1) p n q)=run (ask O k) (if O.lt (val k p n) (val k p (n - 1))=true then(if q> 0 then kas_desc f (kas_rev p (n - (q+1)) n) (n+1) 0 else kas_desc f p (n+1) 0) else .ask (p.getD (n - 1) 0) (p.getD n 0) λd=>if d=true then .ret (p,n,q) else kas_desc f p (n+1) (q+1)):=rfl;rw[I];by_cases e:O.lt (val k p n) (val k p (n - 1))=true
  ·rw[yIp e];by_cases y:q> 0
   ·rw[yIp y];have hd:=vo (by lia) h fl;have H:val k (kas_rev p (n - (q+1)) n) n=val k p n:=by rw[val_rev (by lia),yIn (by lia)]
    have G:le O (val k (kas_rev p (n - (q+1)) n) n) (val k (kas_rev p (n - (q+1)) n) (n - 1)):=by
     have F:=fl.1;rw[H,val_rev (by lia),yIp (by lia)];exact jv (z4 e) (h _ _ (by lia) (by lia))
    obtain⟨m,l,o,a,b,c,d,t,s⟩:=nD f (n+1) 0 (kas_rev p (n - (q+1)) n) (by rw[nZ];lia) (jg hd h1 G) (Fx (by lia));exact⟨m,l,o,a,b.trans cY,by lia,by lia,t,s⟩
   ·rw[yIn y];obtain⟨m,l,o,a,b,c,d,t,s⟩:=nD f (n+1) 0 p (by lia) (jg h h1 (z4 e)) (Fx (by lia));exact⟨m,l,o,a,b,by lia,by lia,t,s⟩
  ·rw[yIn e];show∃m l o,run _ (if O.lt (val k p (n - 1)) (val k p n)=true then _ else _)=_/\_;by_cases g:O.lt (val k p (n - 1)) (val k p n)=true
   ·rw[yIp g];exact⟨p,n,q,rfl,Array.Perm.refl _,zcI _,by lia,h,fl⟩
   ·rw[yIn g];have E:=oU e;have x:=oU g;have v:Flat O k p (n+1) (q+1):=⟨by have:=fl.1;lia,λi j a b c d=>by
     have F:=fl.1;by_cases C:i=n
     ·by_cases u:j=n
      ·rw[C,u];exact le_rfl _
      ·rw[C];exact jv x (fl.2 _ _ (by lia) (by lia) (by lia) (by lia))
     ·by_cases u:j=n
      ·rw[u];exact jv (fl.2 _ _ (by lia) (by lia) (by lia) (by lia)) E
      ·exact fl.2 _ _ (by lia) (by lia) (by lia) (by lia)⟩
    obtain⟨m,l,o,a,b,c,d,t,s⟩:=nD f (n+1) (q+1) p (by lia) (jg h h1 x) v;exact⟨m,l,o,a,b,by lia,by lia,t,s⟩
theorem yY(h1:1<=n)(q:n<=m)(hz:m<=p.size)(h:Down O k p n):∃c e,run (ask O k) (kas_tail3 n m p)=(c,e)/\e.Perm p/\n<=c/\c<=m/\Up O k e c:=by
 unfold kas_tail3;rw[run_bind];have l:Up O k (kas_rev p 0 n) n:=λi j o s=>by
  rw[val_rev (by lia),val_rev (by lia),yIp (by lia),yIp (by lia)];exact h _ _ (by lia) (by lia)
 obtain⟨a,b,c⟩:=yJ (m - n) n h1 l;exact⟨_,_,rfl,cY,a,by lia,c⟩
theorem mK(h1:1<=n)(E:n+1<=m)(hz:m<=p.size)(h:Down O k p n)(g:le O (val k p n) (val k p (n - 1))):∃c i,run (ask O k) (kas_descPart n m p)=(c,i)/\i.Perm p/\1<=c/\c<=m/\Up O k i c:=by
 unfold kas_descPart;rw[run_bind];obtain⟨i,y,v,a,b,c,d,e,f⟩:=nD (m - (n+1)) (n+1) 0 p (by lia) (jg h h1 g) (Fx (by lia));have C:i.size=p.size:=b.size_eq;rw[a];dsimp only;by_cases u:v> 0
 ·rw[yIp u];obtain⟨q,j,t,s,x,o,l⟩:=yY (m:=m) (by lia) (by lia) (by rw[nZ];lia) (vo (by lia) e f);exact⟨q,j,t,s.trans (cY.trans b),by lia,o,l⟩
 ·rw[yIn u];obtain⟨q,j,t,s,x,o,l⟩:=yY (m:=m) (by lia) (by lia) (by lia) e;exact⟨q,j,t,s.trans b,by lia,o,l⟩
theorem FO(Q:1<=m)(hz:m<=p.size):∃c q,run (ask O k) (kas_count m p)=(c,q)/\q.Perm p/\1<=c/\c<=m/\Up O k q c:=by
 unfold kas_count;rw[run_bind];have L:Up O k p 1:=λi j o s=>by
  have:i=j:=by lia
  subst this;exact le_rfl _
 obtain⟨a,b,c⟩:=yJ (m - 1) 1 (zcI _) L;have stop:run (ask O k) (kas_asc p (m - 1) 1)<m->O.lt (val k p (run (ask O k) (kas_asc p (m - 1) 1))) (val k p (run (ask O k) (kas_asc p (m - 1) 1) - 1))=true:=by
  have:∀(f n:Nat),run (ask O k) (kas_asc p f n)<n+f->O.lt (val k p (run (ask O k) (kas_asc p f n))) (val k p (run (ask O k) (kas_asc p f n) - 1))=true:=by
   intro f
   induction f with
   |zero=>intro n h;exact absurd h (zcl _)
   |succ f ih=>
    intro n h;by_cases e:O.lt (val k p n) (val k p (n - 1))=true
    ·have l:run (ask O k) (kas_asc p (f+1) n)=n:=by
      show run _ (if O.lt (val k p n) (val k p (n - 1))=true then _ else _)=_;rw[yIp e];rfl
     rw[l];exact e
    ·have l:run (ask O k) (kas_asc p (f+1) n)=run (ask O k) (kas_asc p f (n+1)):=by
      show run _ (if O.lt (val k p n) (val k p (n - 1))=true then _ else _)=_;rw[yIn e]
     rw[l] at h⊢;exact ih (n+1) (by lia)
  intro h;exact this (m - 1) 1 (by lia)
 generalize run (ask O k) (kas_asc p (m - 1) 1)=n at a b c stop;by_cases y:(n==m)=true
 ·rw[yIp y];exact⟨n,p,rfl,Array.Perm.refl _,a,by lia,c⟩
 ·rw[yIn y];have P:n≠m:=λz=>y (by rw[z];exact beq_self_eq_true _);have I:=z4 (stop (by lia));by_cases l:n> 1
  ·rw[yIp l];show∃c q,run _ (if O.lt (val k p 0) (val k p (n - 1))=true then _ else _)=_/\_;by_cases x:O.lt (val k p 0) (val k p (n - 1))=true
   ·rw[yIp x];exact⟨n,p,rfl,Array.Perm.refl _,a,by lia,c⟩
   ·rw[yIn x];have all:∀i j,i<n->j<n->le O (val k p i) (val k p j):=λi j S s=>jv (c i (n - 1) (by lia) (by lia)) (jv (oU x) (c 0 j (by lia) s));have hd:Down O k (kas_rev p 0 n) n:=λi j o s=>by
     rw[val_rev (by lia),val_rev (by lia),yIp (by lia),yIp (by lia)];exact all _ _ (by lia) (by lia)
    obtain⟨F,t,H,G,E,C,v⟩:=mK (m:=m) a (by lia) (by rw[nZ];lia) hd (by
     rw[val_rev (by lia),val_rev (by lia),yIn (by lia),yIp (by lia)];exact jv I (all _ _ (by lia) (by lia)))
    exact⟨F,t,H,G.trans cY,E,C,v⟩
  ·rw[yIn l];have u:n=1:=by lia
   subst u;obtain⟨F,t,H,G,E,C,v⟩:=mK (m:=m) (k:=k) (O:=O) (p:=p) (n:=1) (by lia) (by lia) hz (λi j o s=>by
    have:i=j:=by lia
    subst this;exact le_rfl _) I
   exact⟨F,t,H,G,E,C,v⟩
theorem ou{j:Nat}:∀(f l r:Nat),r<=l+f->l<=r->r<=j->(∀i,i<l->le O (val k p i) (val k p j))->(∀i,r<=i->i<j->le O (val k p j) (val k p i))->Up O k p j->
  ∃x,run (ask O k) (kas_place p j f l r)=x/\x<=j/\(∀i,i<x->le O (val k p i) (val k p j))/\∀i,x<=i->i<j->le O (val k p j) (val k p i)
 |0,l,r,h,hlr,hr,a,b,u=>by
  have:l=r:=by lia
  subst this;exact⟨l,rfl,hr,a,b⟩
 |f+1,l,r,h,hlr,hr,a,b,u=>by
  show∃x,run _ (if l≥r then _ else _)=x/\_;by_cases e:l≥r
  ·rw[yIp e];have:l=r:=by lia
   subst this;exact⟨l,rfl,hr,a,b⟩
  ·rw[yIn e];show∃x,run _ (if O.lt (val k p j) (val k p ((l+r) / 2))=true then _ else _)=x/\_;by_cases g:O.lt (val k p j) (val k p ((l+r) / 2))=true
   ·rw[yIp g];exact ou f l ((l+r) / 2) (by lia) (by lia) (by lia) a (λi h1 h2=>jv (z4 g) (u _ _ h1 h2)) u
   ·rw[yIn g];exact ou f ((l+r) / 2+1) r (by lia) (by lia) hr (λi h1=>jv (u _ _ (show i<=(l+r) / 2 by lia) (by lia)) (oU g)) b u
theorem yX{d:Nat}(a:j<p.size)(hd:d<=j)(x:Nat):val k (bubble p j d) x=if x=j - d then val k p j else if j - d<x/\x<=j then val k p (x - 1) else val k p x:=by
 have h1:∀y,val k p y=k ((p[y]?).getD 0):=λy=>by unfold val;rw[kg]
 rw[h1 j,h1 (x - 1),h1 x];unfold val;rw[kg,getElem?_bubble a d hd];split
 ·rfl
 ·split<;>rfl
theorem F2:∀(f j:Nat)(p:Array Nat),1<=j->j+f=p.size->Up O k p j->∃e,run (ask O k) (kas_bin f p j)=e/\e.Perm p/\Up O k e p.size
 |0,j,p,h1,h,u=>⟨p,rfl,Array.Perm.refl _,by rw[<-h];exact u⟩
 |f+1,j,p,h1,h,u=>by
  show∃e,run _ ((kas_place p j j 0 j).bind _)=e/\_;rw[run_bind];obtain⟨x,ex,v,a,b⟩:=ou (p:=p) (j:=j) j 0 j (by lia) (by lia) (zcI _) (λi z=>by lia) (λi h1 h2=>by lia) u;rw[ex];have m:Up O k (bubble p j (j - x)) (j+1):=λi t n o=>by
   rw[yX (by lia) (by lia),yX (by lia) (by lia)]
   repeat' split
   all_goals first|exact le_rfl _|(exact u _ _ (by lia) (by lia))|(exact a _ (by lia))|(exact b _ (by lia) (by lia))|(exfalso;lia)
  obtain⟨e,s,q,l⟩:=F2 f (j+1) (bubble p j (j - x)) (by lia) (by rw[bubble_size];lia) m;exact⟨e,s,q.trans (bubble_perm _ _ _),by rw[bubble_size] at l;exact l⟩
theorem HA(m:1<=n):∃p:Array Nat,run (ask O k) (kas_sort n)=p/\p.Perm (List.toArray (zcM n))/\Up O k p n:=by
 unfold kas_sort;rw[run_bind];have hz:(List.toArray (zcM n)).size=n:=by simp
 obtain⟨c,h,a,b,t,v,u⟩:=FO (O:=O) (k:=k) (p:=List.toArray (zcM n)) m (by lia);rw[a];dsimp only;have l:h.size=n:=by rw[b.size_eq,hz]
 by_cases e:c<n
 ·rw[yIp e];have o:max c 1=c:=by lia
  rw[o];obtain⟨j,s,q,i⟩:=F2 (n - c) c h t (by lia) u;exact⟨j,s,q.trans b,by rw[l] at i;exact i⟩
 ·rw[yIn e];have:c=n:=by lia
  subst this;exact⟨h,rfl,b,u⟩
end
end Srt
namespace M5
open PySem PySem.Spec PyProof.Rows
theorem u5(t:SetTable)(es:Array (Int×yai))(h:Int)(x:yai):(layNew t es h x).2.1.led=t.led/\((layNew t es h x).2.1.plain=true->t.plain=true):=by
 unfold layNew;split
 ·unfold SetTable.orStandIn;dsimp only;split
  ·exact⟨rfl,λz=>z⟩
  ·exact⟨rfl,λz=>by cases z⟩
 ·exact⟨rfl,λz=>by cases z⟩
theorem mj{t':SetTable}{a:Array Int}{o:Array Nat}(h:t.relaid a n=some (t',o)):t'.led=t.led/\t'.plain=t.plain:=by
 unfold SetTable.relaid SetTable.laid at h;cases e:SetTable.layClean (SetTable.sizeAbove n - 1) a with
 |none=>rw[e] at h;cases h
 |some ow=>
  rw[e] at h;have h:some _=some _:=h;injection h with h;injection h with h1 h2;subst h1;exact⟨rfl,rfl⟩
theorem p5(t:SetTable)(es:Array (Int×yai))(n:Nat):(relayAll t es n).2.1.led=t.led/\((relayAll t es n).2.1.plain=true->t.plain=true):=by
 unfold relayAll;split
 ·rename_i h a e;dsimp only;split
  ·exact⟨(mj e).1,λz=>by rw[<-(mj e).2];exact z⟩
  ·exact⟨rfl,λz=>by cases z⟩
 ·exact⟨rfl,λz=>by cases z⟩
theorem jO(i:Array (Int×yai))(t':SetTable)(j:h.get? a=some o)(hd:o.data=.set es ep t):
  (h.update a (Obj.putSet i t')).get? a=some {o with data:=.set i (ep+1) t'}:=by
 have e:=zax (Obj.putSet i t') j;rw[putSet_of i t' hd] at e;exact e rfl
namespace F
theorem sub_tuple_set:isSubtype (.type "tuple") (.type "set")=pure false:=by rw[isSubtype_type];kernel_rfl
theorem sub_tuple_frozenset:isSubtype (.type "tuple") (.type "frozenset")=pure false:=by rw[isSubtype_type];kernel_rfl
end F
noncomputable def br(led:Bool):Obj:={cls:=.type "set",dict:=none,data:=.set #[] 0 (.fresh 0 0 led)}
theorem HF(a:yai){Q₁:yai->yah->Prop}(h:Q₁ (.ref s.heap.objs.size) {s with heap:=s.heap.push (br (!w.params.followText "set-order"))}):
  codeAny (model prog w) A (.call (.builtin "set.__new__") ⟨[.type "set",a],[]⟩) (wants Q₁ E) s:=by
 refine codeAny_of_tree ?_;show yar _ A.in1 (do checkBuiltinCall "set.__new__" ⟨[.type "set",a],[]⟩;again (.builtin "set.__new__" ⟨[.type "set",a],[]⟩)) _ _ s;refine yaa (wpAny_of_eq (PySem.F.newCall_set_1 a) (yab ⟨plainId_quiet PySem.F.plain_set_new _,codeAny_builtin PySem.F.entry_set_new ?_⟩));rw[Around.under_plainId PySem.F.plain_set_new _];unfold Builtin.«set.__new__» Builtin.Frozenset.newClass;have e:=sub_set_self;obtain⟨i,g,d,tk,os⟩:=s;dsimp only
 wp_walk
 refine wpAny_askSetting (yab ?_);dsimp only;simp only[newObj];refine yaa (wpAny_alloc (yab ?_));exact yab h
end M5
namespace M5
open PySem PySem.Spec PyProof.Rows
namespace F
theorem uI:Manifest.owners.lookup (String.ofList ['r','o','t','a','r','e','t','i','_','t','e','s'].reverse)=some Manifest.sig_set_iterator:=by kernel_rfl
theorem Iw:Manifest.owners.lookup (String.ofList ['t','e','s'].reverse)=some Manifest.sig_set:=by kernel_rfl
theorem slot_next:Slot "set_iterator" "__next__" "set_iterator.__next__":=
 .of (owner:="set_iterator") (n:="__next__") (by rw[typeLookup_type,builtinLookup_eq_fast];kernel_rfl) (by decide+kernel) (by decide+kernel) (by decide+kernel)
  (by first|exact .inl (by decide+kernel)|exact .inr (by decide+kernel)) (by rw[isSubtype_type];kernel_rfl)
theorem entry_next:entryFor table "set_iterator.__next__"=some Builtin.«set_iterator.__next__»:=entryFor_of_tree (by kernel_rfl)
theorem args_next(a:yai):argsOk "set_iterator.__next__" ⟨[a],[]⟩:=by
 unfold argsOk;rw[signature?_of (id:="set_iterator.__next__") (n:=['_','_','t','x','e','n','_','_']) (o:=['r','o','t','a','r','e','t','i','_','t','e','s']) (by kernel_rfl) uI];kernel_rfl
theorem qp:Slot "set_iterator" "__iter__" "set_iterator.__iter__":=
 .of (owner:="set_iterator") (n:="__iter__") (by rw[typeLookup_type,builtinLookup_eq_fast];kernel_rfl) (by decide+kernel) (by decide+kernel) (by decide+kernel)
  (by first|exact .inl (by decide+kernel)|exact .inr (by decide+kernel)) (by rw[isSubtype_type];kernel_rfl)
theorem Cn(a:yai):argsOk "set_iterator.__iter__" ⟨[a],[]⟩:=by
 unfold argsOk;rw[signature?_of (id:="set_iterator.__iter__") (n:=['_','_','r','e','t','i','_','_']) (o:=['r','o','t','a','r','e','t','i','_','t','e','s']) (by kernel_rfl) uI];kernel_rfl
theorem yt:entryFor table "set_iterator.__iter__"=some Builtin.«dict_keyiterator.__iter__»:=
 entryFor_alias (id':="dict_keyiterator.__iter__") (by kernel_rfl) (by first|rfl|decide+kernel|(unfold String.splitOn;simp+decide [String.splitOnAux])) (by decide+kernel) (by kernel_rfl)
theorem nU:Slot "set" "__iter__" "set.__iter__":=
 .of (owner:="set") (n:="__iter__") (by rw[typeLookup_type,builtinLookup_eq_fast];kernel_rfl) (by decide+kernel) (by decide+kernel) (by decide+kernel)
  (by first|exact .inl (by decide+kernel)|exact .inr (by decide+kernel)) (by rw[isSubtype_type];kernel_rfl)
theorem yK(a:yai):argsOk "set.__iter__" ⟨[a],[]⟩:=by
 unfold argsOk;rw[signature?_of (id:="set.__iter__") (n:=['_','_','r','e','t','i','_','_']) (o:=['t','e','s']) (by kernel_rfl) Iw];kernel_rfl
theorem vj:entryFor table "set.__iter__"=some Builtin.«frozenset.__iter__»:=
 entryFor_alias (id':="frozenset.__iter__") (by kernel_rfl) (by first|rfl|decide+kernel|(unfold String.splitOn;simp+decide [String.splitOnAux])) (by decide+kernel) (by kernel_rfl)
end F
noncomputable def OH(first:yai)(i:Nat)(a:Addr)(n ep:Nat):Obj:={cls:=.type "set_iterator",data:=.fields #[first,rawInt i,.ref a,rawInt n,rawInt ep]}
def jr(h:Heap)(I:Addr)(first:yai)(i:Nat)(a:Addr)(n ep:Nat):Prop:=∃o,h.get? I=some o/\o.cls=.type "set_iterator"/\o.data=.fields #[first,rawInt i,.ref a,rawInt n,rawInt ep]
def wK(h:Heap)(a:Addr)(es:Array (Int×yai))(ep:Nat)(t:SetTable):Prop:=∃o,h.get? a=some o/\o.cls=.type "set"/\o.data=.set es ep t
theorem jr.at{f:yai}(x:jr h I f i a n ep)(e:∀o,h.get? I=some o->h'.get? I=some o):jr h' I f i a n ep:=by obtain⟨o,j,r⟩:=x;exact⟨o,e _ j,r⟩
theorem wK.at(x:wK h a es ep t)(e:∀o,h.get? a=some o->h'.get? a=some o):wK h' a es ep t:=by obtain⟨o,i,r⟩:=x;exact⟨o,e _ i,r⟩
theorem jr.typeIs{f:yai}(x:jr s.heap I f i a n ep):s.TypeIs (.ref I) "set_iterator":=by obtain⟨o,e,h,_⟩:=x;exact⟨o,e,h⟩
theorem wK.typeIs(x:wK s.heap a es ep t):s.TypeIs (.ref a) "set":=by obtain⟨o,e,h,_⟩:=x;exact⟨o,e,h⟩
theorem yL{src:Source}{Q:Nat->yah->Prop}(a:n≠0)(h:∀i d,i<n->Q i {s with drawn:=d}):yar (model prog w) A (choose src n) Q E s:=by
 intro j p e;show Sem.wp _ _ (.choose src n .pure) _ _ _ _;rw[Sem.wp_choose];exact⟨a,h _ _ (zcN _ (Nat.pos_of_ne_zero a))⟩
theorem jI{α:Type}:∀{l:List α}{i:Nat}(h:i<l.length),(l[i]::l.eraseIdx i).Perm l
 |x::r,0,h=>.refl _
 |x::r,i+1,h=>by
  have a:i<r.length:=Nat.lt_of_succ_lt_succ h;show(r[i]::x::r.eraseIdx i).Perm (x::r);exact(List.Perm.swap ..).trans ((jI (Nat.lt_of_succ_lt_succ h)).cons x)
theorem vN{α:Type}:∀(n:Nat)(a:List α){s:yah}{Q:List α->yah->Prop},a.length=n->(∀ys d,ys.Perm a->Q ys {s with drawn:=d})->yar (model prog w) A (drawOrder n a) Q E s
 |0,a,s,Q,hl,h=>by
  obtain rfl:a=[]:=zaa hl;unfold drawOrder;exact yab (h [] s.drawn .nil)
 |n+1,[],s,Q,hl,h=>by cases hl
 |n+1,x::r,s,Q,hl,h=>by
  unfold drawOrder;refine yaa (yL (by simp) λi d e=>?_);rw[zak e];dsimp only;refine yaa (vN n _ ?_ λys l j=>?_)
  ·rw[List.length_eraseIdx,yIp e,hl];rfl
  ·refine yab (h _ l ((j.cons _).trans ?_));exact jI e
theorem zN{α:Type}(next:Nat->Nat):∀(n k:Nat)(left:List α)(out:Array α),left.length=n->(pickOrder.go next n k left out).toList.Perm (out.toList++left)
 |0,k,left,out,h=>by
  obtain rfl:left=[]:=zaa h;unfold pickOrder.go;simp
 |n+1,k,left,out,h=>by
  unfold pickOrder.go;have a:next k % left.length<left.length:=zcN _ (by lia)
  rw[zak a];dsimp only;refine(zN next n (k+1) _ _ ?_).trans ?_
  ·rw[List.length_eraseIdx,yIp a,h];rfl
  ·rw[zbl,zbc];exact(jI a).append_left _
theorem qB{α:Type}(next:Nat->Nat)(a:Array α):(pickOrder next a).toList.Perm a.toList:=by
 unfold pickOrder;have:=zN next a.size 0 a.toList #[] zaJ
 simpa using this
end M5
namespace M5
open PySem PySem.Spec PyProof.Rows
theorem next_item{sl nx:Nat}{x:yai}{Q:Option yai->yah->Prop}(e:jr s.heap I (rawInt sl) i a n ep)(H:wK s.heap a es ep t)(y:t.fits es.size=true)(v:es.size=n)(u:∀{A':yal}{Q':Option (yai×Nat)->yah->Prop}{O:yai->yah->Prop},Q' (some (x,nx)) s->yar (model prog w) A' (setNext a sl i ep) Q' O s)(L:∀h',jr h' I (rawInt nx) (i+1) a n ep->Heap.SameBut I s.heap h'->Q (some x) {s with heap:=h'}):yar (model prog w) A (pyNext (.ref I)) Q E s:=by
 obtain⟨o,m,G,hd⟩:=id e;obtain⟨os,l,C,q⟩:=id H;unfold pyNext;refine yaa (wpAny_attempt (wpAny_callSpecial?_slot (name:=Str.ofString "__next__") e.typeIs F.slot_next (wpAny_call_entry F.slot_next e.typeIs F.entry_next ?_ (F.args_next _))));unfold Builtin.«set_iterator.__next__»;refine yaa (wpAny_of_eq (a:=(Value.ref I,[])) rfl ?_);refine yaa (wpAny_fieldsOf m hd ?_);dsimp only[rawInt];refine yaa (wpAny_setEntries_of l q y ?_);rw[yIn (by rw[v];simp)];refine yaa (u ?_);dsimp only;refine yaa (wpAny_setField m hd (by simp) ?_);have j:=zax (Obj.mapFields (·.setIfInBounds 0 (rawInt nx))) m (Obj.isFreed_of_fields (Obj.data_mapFields hd _));have h:=Obj.data_mapFields hd (·.setIfInBounds 0 (rawInt nx));refine yaa (wpAny_setField j h (by simp) ?_);refine yab ⟨x,rfl,yab (L _ ?_ ((Heap.SameBut.update ..).trans (Heap.SameBut.update ..)))⟩;exact⟨_,zax _ j (Obj.isFreed_of_fields (Obj.data_mapFields h _)),(Obj.cls_mapFields ..).trans ((Obj.cls_mapFields ..).trans G),by
  rw[Obj.data_mapFields h];simp[rawInt]⟩
theorem next_end{sl:Nat}{Q:Option yai->yah->Prop}(u:A.handled=none)(h:jr s.heap I (rawInt sl) i a n ep)(H:wK s.heap a es ep t)(y:t.fits es.size=true)(x:es.size=n)(v:∀{A':yal}{Q':Option (yai×Nat)->yah->Prop}{O:yai->yah->Prop},Q' none s->yar (model prog w) A' (setNext a sl i ep) Q' O s)(L:∀h',Heap.ExtBut I s.heap h'->Q none {s with heap:=h'}):yar (model prog w) A (pyNext (.ref I)) Q E s:=by
 obtain⟨o,q,S,hd⟩:=id h;obtain⟨os,j,C,l⟩:=id H;unfold pyNext;refine yaa (wpAny_attempt (wpAny_callSpecial?_slot (name:=Str.ofString "__next__") h.typeIs F.slot_next (wpAny_call_entry F.slot_next h.typeIs F.entry_next ?_ (F.args_next _))));unfold Builtin.«set_iterator.__next__»;refine yaa (wpAny_of_eq (a:=(Value.ref I,[])) rfl ?_);refine yaa (wpAny_fieldsOf q hd ?_);dsimp only[rawInt];refine yaa (wpAny_setEntries_of j l y ?_);rw[yIn (by rw[x];simp)];refine yaa (v ?_);dsimp only;refine yaa (wpAny_setField q hd (by simp) ?_);refine yaa ?_;simp only[newExc,newTuple];refine yaa (yae ?_ (by size_fits));refine yaa (m:=firstArgMember _ _) (wpAny_of_eq (a:=Value.none) (by first|rfl|(simp only[firstArgMember];rfl)) ?_);refine yae ?_ (by size_fits);simp only[raiseNew];refine yaa (wpAny_handled ?_)
 first|rw[show A.in1.handled=none from u]|rw[u]
 refine yaa (yab (wpAny_throw ?_));refine yaa (wpAny_isInstance (T:="StopIteration") (b:=true) ⟨_,zaK _ rfl,rfl⟩ isSubtype_stop ?_);refine yab (L _ (Heap.ExtBut.push (Heap.ExtBut.push ?_ _) _));exact λb P G e=>(zar _ _ (Ne.symm G)).trans e
theorem xY{T:Addr}{pl:Nat}{tk:Tok}{ps:Array yai}{v:Int}{x:yai}{Q:Option yai->yah->Prop}(e:jr s.heap I (.ref T) i a n ep)(S:wK s.heap a es ep t)(u:t.fits es.size=true)(C:es.size=n)(P:s.heap.IsTuple T ps)(y:ps[i]? =some (.int pl tk))(G:es[pl]? =some (v,x))(U:∀h',jr h' I (.ref T) (i+1) a n ep->Heap.SameBut I s.heap h'->Q (some x) {s with heap:=h'}):yar (model prog w) A (pyNext (.ref I)) Q E s:=by
 obtain⟨o,m,O,hd⟩:=id e;obtain⟨os,h,L,j⟩:=id S;obtain⟨W,l,H,nt,q⟩:=id P;unfold pyNext;refine yaa (wpAny_attempt (wpAny_callSpecial?_slot (name:=Str.ofString "__next__") e.typeIs F.slot_next (wpAny_call_entry F.slot_next e.typeIs F.entry_next ?_ (F.args_next _))));unfold Builtin.«set_iterator.__next__»;refine yaa (wpAny_of_eq (a:=(Value.ref I,[])) rfl ?_);refine yaa (wpAny_fieldsOf m hd ?_);dsimp only[rawInt];refine yaa (wpAny_setEntries_of h j u ?_);rw[yIn (by rw[C];simp)];refine yaa (wpAny_seqItems l q ?_);dsimp only;rw[zbk,y];dsimp only;refine yaa ?_;unfold setNextDrawn;refine yaa (wpAny_setState_of h j u ?_);dsimp only;rw[yIn (by simp),zbk,G];dsimp only;refine yab ?_;refine yaa (wpAny_setField m hd (by simp) ?_);refine yab ⟨x,rfl,yab (U _ ?_ (Heap.SameBut.update ..))⟩;exact⟨_,zax _ m (Obj.isFreed_of_fields (Obj.data_mapFields hd _)),(Obj.cls_mapFields ..).trans O,by
  rw[Obj.data_mapFields hd];simp[rawInt]⟩
theorem BI{T:Addr}{ps:Array yai}{Q:Option yai->yah->Prop}(y:A.handled=none)(h:jr s.heap I (.ref T) i a n ep)(U:wK s.heap a es ep t)(L:t.fits es.size=true)(H:es.size=n)(S:s.heap.IsTuple T ps)(G:ps[i]? =none)(W:∀h',Heap.ExtBut I s.heap h'->Q none {s with heap:=h'}):yar (model prog w) A (pyNext (.ref I)) Q E s:=by
 obtain⟨o,u,Z,hd⟩:=id h;obtain⟨os,l,P,x⟩:=id U;obtain⟨X,j,O,nt,v⟩:=id S;unfold pyNext;refine yaa (wpAny_attempt (wpAny_callSpecial?_slot (name:=Str.ofString "__next__") h.typeIs F.slot_next (wpAny_call_entry F.slot_next h.typeIs F.entry_next ?_ (F.args_next _))));unfold Builtin.«set_iterator.__next__»;refine yaa (wpAny_of_eq (a:=(Value.ref I,[])) rfl ?_);refine yaa (wpAny_fieldsOf u hd ?_);dsimp only[rawInt];refine yaa (wpAny_setEntries_of l x L ?_);rw[yIn (by rw[H];simp)];refine yaa (wpAny_seqItems j v ?_);dsimp only;rw[zbk,G];dsimp only;refine yaa (wpAny_setField u hd (by simp) ?_);have q:=zax (Obj.mapFields (·.setIfInBounds 0 (rawInt 0))) u (Obj.isFreed_of_fields (Obj.data_mapFields hd _));refine yaa (wpAny_setField q (Obj.data_mapFields hd _) (by simp) ?_);refine yaa ?_;simp only[newExc,newTuple];refine yaa (yae ?_ (by size_fits));refine yaa (m:=firstArgMember _ _) (wpAny_of_eq (a:=Value.none) (by first|rfl|(simp only[firstArgMember];rfl)) ?_);refine yae ?_ (by size_fits);simp only[raiseNew];refine yaa (wpAny_handled ?_)
 first|rw[show A.in1.handled=none from y]|rw[y]
 refine yaa (yab (wpAny_throw ?_));refine yaa (wpAny_isInstance (T:="StopIteration") (b:=true) ⟨_,zaK _ rfl,rfl⟩ isSubtype_stop ?_);refine yab (W _ (Heap.ExtBut.push (Heap.ExtBut.push ?_ _) _));exact λb Y C e=>(zar _ _ (Ne.symm C)).trans ((zar _ _ (Ne.symm C)).trans e)
theorem z9{f:yai}(e:jr s.heap I f i a n ep)(h:Q (.ref I) s):yar (model prog w) A (pyIter (.ref I)) Q E s:=by
 refine wpAny_pyIter_slot e.typeIs F.qp (wpAny_call_entry F.qp e.typeIs F.yt ?_ (F.Cn _));show yar _ _ (ret (.ref I)) _ _ s;exact yab ⟨_,rfl,"set_iterator",_,e.typeIs,F.slot_next.lookup,h⟩
theorem CW{j:List yai}{sl:Nat->Nat}(W:A.handled=none)(u:a≠I)(P:t.fits es.size=true)(L:j.length=es.size)(S:∀i x,j[i]? =some x->∀{A':yal}{s':yah}{Q':Option (yai×Nat)->yah->Prop}{G:yai->yah->Prop},wK s'.heap a es ep t->Q' (some (x,sl (i+1))) s'->yar (model prog w) A' (setNext a (sl i) i ep) Q' G s')(X:∀{A':yal}{s':yah}{Q':Option (yai×Nat)->yah->Prop}{G:yai->yah->Prop},wK s'.heap a es ep t->Q' none s'->yar (model prog w) A' (setNext a (sl j.length) j.length ep) Q' G s'):
  Walks prog w A I [I,a] [I] j.length (λi v=>j[i]? =some v) (λi h=>jr h I (rawInt (sl i)) i a es.size ep/\wK h a es ep t) where
 sub:=λb l=>by simp at l;simp[l]
 frame:=λ_ _ _ x O=>⟨x.1.at λo e=>O I (by simp) o e,x.2.at λo e=>O a (by simp) o e⟩
 item:=λi s Q E U x q=>by
  have H:j[i]? =some j[i]:=zak U;refine next_item x.1 x.2 P rfl (S i _ H x.2) λC n m=>?_;exact q _ C s.toks H ⟨n,x.2.at λo e=>(m.2 a u).trans e⟩ λb o l F=>m.extBut b o (λz=>l (by simp[z])) F
 done:=λs Q E x q=>next_end W x.1 x.2 P rfl (X x.2) λC y=>q C s.toks λb o l F=>y b o (λz=>l (by simp[z])) F
 self:=λ_ _ _ _ x q=>z9 x.1 q
theorem Lj{T:Addr}{ps:List Nat}{j:List yai}(W:A.handled=none)(C:a≠I)(X:T≠I)(O:t.fits es.size=true)(U:j.length=ps.length)(S:∀i (h:i<ps.length)(h2:i<j.length),∃k,es[ps[i]]? =some (k,j[i])):
  Walks prog w A I [I,a,T] [I] j.length (λi v=>j[i]? =some v) (λi h=>jr h I (.ref T) i a es.size ep/\wK h a es ep t/\h.IsTuple T (ps.map λ(i:Nat)=>rawInt i).toArray) where
 sub:=λb m=>by simp at m;simp[m]
 frame:=λ_ _ _ x n=>⟨x.1.at λo e=>n I (by simp) o e,x.2.1.at λo e=>n a (by simp) o e,x.2.2.at λo e=>n T (by simp) o e⟩
 item:=λi s Q E L x y=>by
  have P:j[i]? =some j[i]:=zak L;have u:i<ps.length:=by lia
  obtain⟨k,n⟩:=S i u L;refine xY (pl:=ps[i]) (tk:=0) x.1 x.2.1 O rfl x.2.2 (by simp[u,rawInt]) n λG q l=>?_;exact y _ G s.toks P ⟨q,x.2.1.at λo e=>(l.2 a C).trans e,x.2.2.at λo e=>(l.2 T X).trans e⟩ λb o m H=>l.extBut b o (λz=>m (by simp[z])) H
 done:=λs Q E x y=>BI W x.1 x.2.1 O rfl x.2.2 (by simp[U]) λG F=>y G s.toks λb o m H=>F b o (λz=>m (by simp[z])) H
 self:=λ_ _ _ _ x y=>z9 x.1 y
theorem gM{Q:Bool->yah->Prop}(h:Q (w.params.followText "set-order") s):yar (model prog w) A setsByText Q E s:=by
 unfold setsByText;exact yaa (wpAny_askSetting (yab h))
theorem KU{Q:Option (yai×Nat)->yah->Prop}(m:w.params.followText "set-order"=true)(n:wK s.heap a es ep t)(l:t.fits es.size=true)(h:Q (((pickOrder (w.params.setOrder a ep) es)[i]?).map λe=>(e.2,0)) s):yar (model prog w) A (setNext a 0 i ep) Q E s:=by
 obtain⟨o,j,q,hd⟩:=n;unfold setNext;refine yaa (wpAny_setState_of j hd l ?_);dsimp only;refine yaa (gM ?_);rw[yIp m];rw[yIn (by simp)];refine yaa ?_;unfold setWalk;refine yaa (wpAny_setState_of j hd l ?_);dsimp only;refine yaa (gM ?_);rw[yIp m];refine yaa (wpAny_askSetting (yab ?_));exact yab h
theorem pull{α:Type}(es:Array α)(ps:List Nat)(h:ps.Perm (zcM es.size)):∃l:List α,l.length=ps.length/\l.Perm es.toList/\∀i (h:i<ps.length)(h2:i<l.length),es[ps[i]]? =some l[i]:=by
 have all:∀p∈ps,p<es.size:=λp e=>zca.mp (h.mem_iff.mp e);have key:∀a:List Nat,(∀p∈a,p<es.size)->∃l:List α,l.length=a.length/\l=a.filterMap (λi=>es[i]?)/\∀i (h:i<a.length)(h2:i<l.length),es[a[i]]? =some l[i]:=by
  intro a
  induction a with
  |nil=>exact λ_=>⟨[],rfl,rfl,λi h=>by simp at h⟩
  |cons q r ih=>
   intro s;obtain⟨l,n,m,j⟩:=ih λp e=>s p (zay _ e);have o:=s q zaL;refine⟨es[q]::l,by simp[n],by rw[zaD,zai o,m],λi h h2=>?_⟩;cases i with
   |zero=>simp[o]
   |succ i=>exact j i (by simpa using h) (by simpa using h2)
 obtain⟨l,n,m,j⟩:=key ps all;refine⟨l,n,?_,j⟩;rw[m,<-filterMap_getElem?_range es];exact h.filterMap _
end M5
namespace L2
open PySem PySem.Spec PyProof.Rows
theorem Inv.S6(I:Inv X pins σ H s)(d:Drawn):Inv X pins σ H {s with drawn:=d}:=
 ⟨I.ok,I.os,I.bare,I.base,I.loc,I.cell,I.free,I.gU,I.pin,I.hok,I.len⟩
end L2
namespace M
open PySem PySem.Spec PyProof.Rows L2
noncomputable def kE(ks:List Key)(ds:List D)(k:Key):Option D:=((ks.zip ds).find? λp=>decide (p.1=k)).map (·.2)
noncomputable def pG(ks:List Key)(ds:List D)(k:Key)(d:D):MO:=if(ks.any λj=>decide (j=k))=true then .dct ks ((ks.zip ds).map λp=>if p.1=k then d else p.2) else .dct (ks++[k]) (ds++[d])
theorem Ac{w:Wd}{k:Key}{d:D}:∀{kvs:List (Key×V)}{ds:List D},ao K w ds (kvs.map (·.2))->kE (kvs.map (·.1)) ds k=some d->∃v,ir kvs k=some v/\Rep K w d v
 |[],ds,h,e=>by simp[kE] at e
 |(j,u)::r,ds,h,e=>by
  cases ds with
  |nil=>simp[kE] at e
  |cons x ds=>
   simp only[zci,ao] at h;obtain⟨l,m,i,h1,h2⟩:=h;injection i with e1 e2;subst e1;subst e2;unfold kE at e;unfold ir;by_cases a:j=k
   ·rw[zci,zaN,List.find?_cons_of_pos (by simpa using a)] at e;rw[List.find?_cons_of_pos (by simpa using a)];cases e;exact⟨u,rfl,h1⟩
   ·rw[zci,zaN,List.find?_cons_of_neg (by simpa using a)] at e;rw[List.find?_cons_of_neg (by simpa using a)];exact Ac (kvs:=r) h2 e
theorem uC{w:Wd}{k:Key}{d:D}{v:V}(g:Rep K w d v):∀{kvs:List (Key×V)}{ds:List D},ao K w ds (kvs.map (·.2))->
  ao K w (((kvs.map (·.1)).zip ds).map λp=>if p.1=k then d else p.2) ((kvs.map λe=>if e.1=k then(e.1,v) else e).map (·.2))
 |[],ds,h=>by
  cases ds with
  |nil=>exact .nil
  |cons x ds=>simp only[zcr,ao] at h;obtain⟨_,_,z,_⟩:=h;cases z
 |(j,u)::r,ds,h=>by
  cases ds with
  |nil=>simp only[zci,ao] at h;cases h
  |cons x ds=>
   simp only[zci,ao] at h;obtain⟨l,m,i,h1,h2⟩:=h;injection i with e1 e2;subst e1;subst e2;simp only[zci,zaN];refine .cons ?_ (uC g h2);by_cases a:j=k
   ·rw[yIp a,yIp a];exact g
   ·rw[yIn a,yIn a];exact h1
theorem uF{w:Wd}{k:Key}{d:D}{kvs:List (Key×V)}(g:Rep K w d v)(h:ao K w ds (kvs.map (·.2))):l6 K w (pG (kvs.map (·.1)) ds k d) (.dK (putK kvs k v)):=by
 unfold pG putK;have e:((kvs.map (·.1)).any λj=>decide (j=k))=(kvs.any λa=>decide (a.1=k)):=by
  rw[zcs];rfl
 rw[e];by_cases i:(kvs.any λa=>decide (a.1=k))=true
 ·rw[yIp i,yIp i];refine⟨_,rfl,?_,uC g h⟩;rw[zct];refine zaF λa _=>?_;show(if a.1=k then(a.1,v) else a).1=a.1;split<;>rfl
 ·rw[yIn i,yIn i];refine⟨_,rfl,by simp,?_⟩;rw[zbS];exact h.snoc g
theorem NB{w:Wd}{p:Nat}{ks:List Key}(ok:Ok K w H S)(h:Rep K w (.loc p) v)(e:S[p]? =some (some (.dct ks ds))):
  ∃a kvs,v=.ref a/\w.r p=some a/\H a=some (.dK kvs)/\kvs.map (·.1)=ks/\ao K w ds (kvs.map (·.2)):=by
 simp only[Rep] at h;obtain⟨a,h1,rfl⟩:=h;obtain⟨o,u,i,n,m,kvs,rfl,l,j⟩:=ok.live p _ e;rw[h1] at i;cases i;exact⟨a,kvs,rfl,h1,m,l,j⟩
def Gg(a b c:AE):AS:=λD e S=>c e S λl s=>a e s λo q=>b e q λm i=>∃n h k j,o.d=.loc n/\m.d=.int k/\i[n]? =some (some (.lst h))/\CS h.length k=some j/\D.nx e (i.set n (some (.lst (h.set j l.d))))
theorem LZ{a b c:AE}:∀D t H,gJ K (Gg a b c) D t H->De (aR K c) (Qq (aR K a) (aR K b) KI) D t H:=by
 rintro D t H ⟨w,u,S,Da,ok,env,q,bk⟩;refine⟨w,u,S,_,ok,env,q,.go λr3 S1 v3 Q H1 i C m U=>?_⟩;refine⟨Q,u,S1,_,C,env.le i,U,.go λr1 Z v1 P H2 h y l q2=>?_⟩;refine⟨P,u,Z,_,y,(env.le i).le h,q2,.go λr2 S3 v2 O H3 e s o v=>?_⟩;obtain⟨n,es,k,j,I,G,E,W,q3⟩:=v;rw[I] at l;obtain⟨a,L,rfl,X,Y,F⟩:=sO s (l.le e) E;rw[bg o G];refine⟨a,L,k,j,rfl,rfl,Y,by rw[F.length];exact W,?_⟩;have x:=s.put E X (iy (F.set (m.le (h.trans e)) j));exact bk.nx u _ t O _ ((i.trans h).trans e) x (((env.le i).le h).le e) q3
section
variable {o i:Expr}{pc pu:Pos}
theorem Il{a:AE}(j:GE X o ta)(hi:GE X i tb)(e:GE X value a)(l:∀v,assign (.Subscript o i pos') X.env v=(do
   let ov <-holding [v] (eval o X.env);let iv <-holding [v,ov] (eval i X.env)
   standAt pos'
   holding [v,ov,iv] (setItem ov iv v)
   release [v,ov,iv] []):=by intro _;rfl)(h:swapsWithSole [.Subscript o i pos'] value pos.line X.env=pure false:=by rfl)(hw:swappedStores [.Subscript o i pos'] value X.env=pure none:=by rfl)(h1:(assignEach [.Subscript o i pos'] X.env).map (·.2)=[assign (.Subscript o i pos') X.env]:=by rfl):GS X (.Assign [.Subscript o i pos'] value pos) (Gg ta tb a):=
 ⟨mS (L2.lG e.p (L2.My j.p hi.p set_list l) h hw h1) LZ⟩
theorem KP:Tf X (unaryOp .USub) (λx S Q=>∃i,x=.int i/\Q (.dat (.int (-i))) S):=⟨m1 Ll λx H Q h=>by
 obtain⟨w,d,S,e,ok,a,⟨i,rfl,q⟩,bk⟩:=h;exact⟨i,bg a rfl,bk.dat .refl ok .int q⟩⟩
end
theorem Qw{w:Wd}(k:Ok K w H S)(e:S[m]? =some (some (.lst ds))):∃s,w.le s/\Ok K s H (S.set m none)/\∀v,Rep K w (.loc m) v->Rep K s (.lst ds) v:=by
 obtain⟨a,u,h1,h2,P,h,rfl,O⟩:=k.live m _ e;have le:w.le ⟨upd w.B a (.lst h),w.r⟩:=⟨al h2,λ_ _ e=>e⟩
 have at_:∀n o,(S.set m none)[n]? =some (some o)->n≠m/\S[n]? =some (some o):=λn o z=>by
  by_cases x:m=n
  ·subst x;rw[zbd] at z;simp at z
  ·rw[zaA x] at z;exact⟨λy=>x y.symm,z⟩
 refine⟨⟨upd w.B a (.lst h),w.r⟩,le,⟨λb o z=>?_,λn o z=>?_,λn j o C I G z=>?_,λn l=>k.top n (by rw[zbP] at l;exact l)⟩,λv E=>?_⟩
 ·by_cases F:b=a
  ·subst F;have z:upd w.B b (.lst h) b=some o:=z;rw[bF] at z;rw[P];exact z
  ·have z:upd w.B a (.lst h) b=some o:=z;rw[aO F] at z;exact k.base b o z
 ·obtain⟨l,z⟩:=at_ n o z;obtain⟨q,L,i,W,U,Q⟩:=k.live n o z;have t:q≠a:=λy=>l (k.inj n m _ _ z e (by rw[i,h1,y]));exact⟨q,L,i,by show upd w.B a _ q=none;rw[aO t];exact W,U,Q.le le⟩
 ·exact k.inj n j o C (at_ n o I).2 (at_ j C G).2 z
 ·simp only[Rep] at E⊢;obtain⟨q,i,rfl⟩:=E;rw[h1] at i;cases i;exact⟨a,h,rfl,bF,O.le le⟩
noncomputable def sb(m:Nat)(e:D):D->D
 |.loc n=>if n=m then e else .loc n
 |d=>d
theorem xh{w e:Wd}{m:Nat}{ds:List D}(le:w.le e)(f:∀v,Rep K w (.loc m) v->Rep K e (.lst ds) v):∀{es:List D}{a:List V},ao K w es a->ao K e (es.map (sb m (.lst ds))) a
 |[],a,h=>by simp only[ao] at h;subst h;exact .nil
 |d::es,a,h=>by
  simp only[ao] at h;obtain⟨x,r,rfl,h1,h2⟩:=h;refine .cons ?_ (xh le f h2);cases d with
  |loc n=>
   show Rep K e (if n=m then _ else _) x;by_cases i:n=m
   ·rw[yIp i];subst i;exact f x h1
   ·rw[yIn i];exact h1.le le
  |_=>exact h1.le le
def Oh(a:AE):AE:=λj S Q=>a j S λr i=>∃m h e,r=.dat (.tup e)/\i[m]? =some (some (.lst h))/\Q (.dat (.tup (e.map (sb m (.lst h))))) (i.set m none)
theorem Pu{a:AE}:∀i H Q,aR K (Oh a) i H Q->aR K a i H Q:=by
 rintro i H Q ⟨w,s,S,U,ok,env,q,bk⟩;refine⟨w,s,S,_,ok,env,q,λr P v x W o n e j=>?_⟩;obtain⟨m,O,G,I,E,y⟩:=j;subst I;have e:Rep K x (.tup G) v:=e;simp only[Rep] at e;obtain⟨t,u,rfl,F,C⟩:=e;obtain⟨L,h,l,f⟩:=Qw n E;refine bk.dat (o.trans h) l ?_ y;simp only[Rep];exact⟨t,u,rfl,dJ.same h.b F,xh h f C⟩
theorem fre{t:AE}(h:GE X e t):GE X e (Oh t):=⟨mE h.p Pu⟩
end M
namespace M6
open PySem PySem.Spec PyProof.Rows
mutual
noncomputable def bG:yam->Bool
 |.int _=>true
 |.str x=>(PyData.str x).canLay0
 |.tuple xs=>cj xs
 |_=>false
noncomputable def cj:List yam->Bool
 |[]=>true
 |x::xs=>bG x&&cj xs
end
mutual
noncomputable def bu(w:yak):yam->Int
 |.int i=>hashInt i
 |.str x=>hashStr w x
 |.tuple xs=>reduceHash (Builtin.Tuple.tupleHashOf (iI w xs))
 |_=>0
noncomputable def iI(w:yak):List yam->List Int
 |[]=>[]
 |x::xs=>bu w x::iI w xs
end
mutual
noncomputable def Rq:yam->Nat
 |.int _=>1
 |.str _=>1
 |.tuple xs=>pB xs+1
 |_=>0
noncomputable def pB:List yam->Nat
 |[]=>0
 |x::xs=>Rq x+pB xs
end
theorem jw(w:yak):∀a b,iI w (a++b)=iI w a++iI w b
 |[],b=>rfl
 |x::a,b=>by simp only[zbw,iI,jw w a b]
theorem mJ:∀a b,pB (a++b)=pB a+pB b
 |[],b=>by simp[pB]
 |x::a,b=>by simp only[zbw,pB,mJ a b];lia
theorem eV:∀{e:List yam},cj e=true->∀x∈e,bG x=true
 |[],_,x,a=>by simp at a
 |y::e,h,x,a=>by
  simp only[cj,zbF] at h;rcases zch.mp a with rfl|a
  ·exact h.1
  ·exact eV h.2 x a
theorem cC:∀{a:List yam}{x:yam},x∈a->x.depth<=PyData.depthAll a
 |y::a,x,e=>by
  simp only[PyData.depthAll];rcases zch.mp e with rfl|e
  ·lia
  ·have:=cC e;lia
theorem bw(a:List yam):(PyData.tuple a).depth=PyData.depthAll a+1:=by
 simp only[PyData.depth]
theorem eB(e:s.heap.get? a=some o)(h:o.cls=Value.type "tuple"):s.TypeIs (.ref a) "tuple":=⟨o,e,h⟩
theorem uE:∀(n:Nat)(d:yam){v:yai}{as:List Addr}{A:yal}{E:yai->yah->Prop}{s:yah}{Q:Int->yah->Prop},d.depth<=n->bG d=true->Reads s.heap v d as->A.units+n<cLine->
  Q (bu w d) {s with toks:=s.toks+Rq d}->yar (model prog w) A (pyHash v) Q E s:=by
 intro n
 induction n with
 |zero=>
  intro d v as A E s Q hd j y I h;cases y with
  |int i t=>exact wpAny_pyHash_int h
  |str x t=>exact wpAny_pyHash_str h
  |tuple ho hc hd' hall=>rw[bw] at hd;lia
  |none=>simp[bG] at j
  |bool b=>simp[bG] at j
  |list _ _ _ _=>simp[bG] at j
  |dict _ _ _ _ _=>simp[bG] at j
 |succ n ih=>
  intro d v as A E s Q hd j y I h;cases y with
  |int i t=>exact wpAny_pyHash_int h
  |str x t=>exact wpAny_pyHash_str h
  |none=>simp[bG] at j
  |bool b=>simp[bG] at j
  |list _ _ _ _=>simp[bG] at j
  |dict _ _ _ _ _=>simp[bG] at j
  |@tuple a o vs m xs as ho hc hdat hall=>
   have L:=eB ho hc;have j:cj xs=true:=j;rw[bw] at hd;show yar (model prog w) A (pyHashByItsType (.ref a)) Q E s;refine W.pyHash_slot (T:="tuple") L F.slot_tuple_hash F.entry_tuple_hash (F.args_tuple_hash_1 (.ref a)) (by decide) (.inr (by lia)) ?_;show yar (model prog w) A.in1 (do
    let __do_lift <-Builtin.Tuple.tupleItemsOf (.ref a);let __s <-forIn __do_lift (#[]:Array Int) λx __s=>do
       let __do_lift <-pyHash x
       pure (ForInStep.yield (__s.push __do_lift))
    retInt (Builtin.Tuple.tupleHashOf __s.toList)) _ E s
   refine yaa (wpAny_tupleItemsOf ho hdat (yaa ?_));rw[<-zaV];refine wpAny_forIn_list _ (λrest b u=>∃e left l,xs=e++left/\ReadsAll s.heap rest left l/\b.toList=iI w e/\u={s with toks:=s.toks+pB e}) _ ?_ ?_ vs.toList #[] ⟨[],xs,_,rfl,hall,rfl,rfl⟩
   ·rintro x rest b u ⟨e,left,l,rfl,C,G,rfl⟩;cases C with
    |@cons _ _ d' ds as1 bs hx hrest=>
     have H:d'∈e++d'::ds:=by simp
     refine yaa (ih d' (as:=as1) (s:={s with toks:=s.toks+pB e}) (by have:=cC H;lia) (eV j d' H) hx (by show A.units+1+n<cLine;lia) ?_);refine yab ⟨e++[d'],ds,bs,by simp,hrest,?_,?_⟩
     ·rw[zbl,G,jw];rfl
     ·rw[mJ];simp only[pB,Nat.add_zero,Nat.add_assoc]
   ·rintro b u ⟨e,left,l,rfl,C,G,rfl⟩;cases C;rw[zbK] at h;rw[G];refine yac (wpAny_ret_mkInt (Q:=λv u=>∃n t,v=Value.int n t/\Q (reduceHash n) u) ⟨_,_,rfl,?_⟩) (λO u=>?_) (λ_ _ z=>z)
    ·have h:Q (reduceHash (Builtin.Tuple.tupleHashOf (iI w e))) {s with toks:=s.toks+(pB e+1)}:=h;exact h
    ·rintro⟨v,rfl,n,t,rfl,q⟩;exact⟨n,t,rfl,q⟩
theorem jE:∀(n:Nat)(d:yam){v:yai}{as:List Addr}{A:yal}{E:yai->yah->Prop}{s:yah}{Q:Bool->yah->Prop},d.depth<=n->bG d=true->Reads s.heap v d as->Q true s->yar (model prog w) A (eqIsQuiet n v) Q E s:=by
 intro n
 induction n with
 |zero=>
  intro d v as A E s Q hd e l h;cases l with
  |int i t=>rw[eqIsQuiet_byValue 0 rfl];exact yab h
  |str x t=>rw[eqIsQuiet_byValue 0 rfl];exact yab h
  |tuple ho hc hd' hall=>rw[bw] at hd;lia
  |none=>simp[bG] at e
  |bool b=>simp[bG] at e
  |list _ _ _ _=>simp[bG] at e
  |dict _ _ _ _ _=>simp[bG] at e
 |succ n ih=>
  intro d v as A E s Q hd e l h;cases l with
  |int i t=>rw[eqIsQuiet_byValue _ rfl];exact yab h
  |str x t=>rw[eqIsQuiet_byValue _ rfl];exact yab h
  |none=>simp[bG] at e
  |bool b=>simp[bG] at e
  |list _ _ _ _=>simp[bG] at e
  |dict _ _ _ _ _=>simp[bG] at e
  |@tuple a o vs m xs as ho hc hdat hall=>
   have I:=eB ho hc;have e:cj xs=true:=e;rw[bw] at hd;rw[eqIsQuiet.eq_def];refine yaa (wpAny_specialOf I F.slot_tuple_eq.lookup ?_);refine yaa (wpAny_isInstance I isSubtype_tuple_tuple ?_);rw[yIn (by decide)];refine yaa (wpAny_seqItems ho hdat (yaa ?_));show yar (model prog w) A (forIn vs _ _) _ E s;rw[<-zaV];refine wpAny_forIn_list _ (λrest r C=>r.1=none/\C=s/\∃left u,ReadsAll s.heap rest left u/\∀x∈left,x∈xs) _ ?_ ?_ vs.toList (none,()) ⟨rfl,rfl,xs,_,hall,λ_ q=>q⟩
   ·rintro y rest ⟨G,L⟩ C ⟨l,rfl,left,u,O,j⟩;cases O with
    |@cons _ _ d' ds as1 bs q hrest=>
     have H:d'∈xs:=j d' (by simp);refine yaa (ih d' (as:=as1) (by have:=cC H;lia) (eV e d' H) q ?_);exact yab ⟨rfl,rfl,ds,bs,hrest,λx q=>j x (zay _ q)⟩
   ·rintro⟨G,L⟩ C ⟨l,rfl,_⟩;have l:G=none:=l;subst l;exact yab h
noncomputable instance:DecidableEq yam:=λ_ _=>Classical.propDecidable _
mutual
theorem ki:∀x y:yam,bG x=true->bG y=true->PyData.eqv x y=decide (x=y)
 |.int i,.int j,_,_=>by
  simp only[PyData.eqv];by_cases h:i=j
  ·subst h;simp
  ·have:¬PyData.int i=.int j:=λe=>h (by injection e);rw[yDf this];simpa using h
 |.str i,.str j,_,_=>by
  simp only[PyData.eqv];by_cases h:i=j
  ·subst h;simp
  ·have:¬PyData.str i=.str j:=λe=>h (by injection e);rw[yDf this];simpa using h
 |.tuple xs,.tuple ys,hx,hy=>by
  simp only[PyData.eqv];rw[pA xs ys hx hy];by_cases h:xs=ys
  ·subst h;simp
  ·have:¬PyData.tuple xs=.tuple ys:=λe=>h (by injection e);rw[yDf this,yDf h]
 |.int i,.str j,_,_=>by rw[yDf (λe=>nomatch e)];rfl
 |.int i,.tuple j,_,_=>by rw[yDf (λe=>nomatch e)];rfl
 |.str i,.int j,_,_=>by rw[yDf (λe=>nomatch e)];rfl
 |.str i,.tuple j,_,_=>by rw[yDf (λe=>nomatch e)];rfl
 |.tuple i,.int j,_,_=>by rw[yDf (λe=>nomatch e)];rfl
 |.tuple i,.str j,_,_=>by rw[yDf (λe=>nomatch e)];rfl
 |.none,_,h,_=>by simp[bG] at h
 |.bool _,_,h,_=>by simp[bG] at h
 |.list _,_,h,_=>by simp[bG] at h
 |.dict _,_,h,_=>by simp[bG] at h
 |_,.none,_,h=>by simp[bG] at h
 |_,.bool _,_,h=>by simp[bG] at h
 |_,.list _,_,h=>by simp[bG] at h
 |_,.dict _,_,h=>by simp[bG] at h
theorem pA:∀x y:List yam,cj x=true->cj y=true->PyData.eqvAll x y=decide (x=y)
 |[],[],_,_=>by simp[PyData.eqvAll]
 |[],y::ys,_,_=>by simp[PyData.eqvAll]
 |x::xs,[],_,_=>by simp[PyData.eqvAll]
 |x::xs,y::ys,hx,hy=>by
  simp only[cj,zbF] at hx hy;simp only[PyData.eqvAll];rw[ki x y hx.1 hy.1,pA xs ys hx.2 hy.2];by_cases h:x=y<;>by_cases g:xs=ys<;>simp[h,g]
end
mutual
theorem eY:∀x:yam,bG x=true->x.canLay0=true
 |.int i,_=>rfl
 |.str i,h=>h
 |.tuple xs,h=>by simp only[PyData.canLay0];exact z5 xs h
 |.none,h=>by simp[bG] at h
 |.bool _,h=>by simp[bG] at h
 |.list _,h=>by simp[bG] at h
 |.dict _,h=>by simp[bG] at h
theorem z5:∀x:List yam,cj x=true->PyData.canLayAll0 x=true
 |[],_=>rfl
 |x::xs,h=>by
  simp only[cj,zbF] at h;simp only[PyData.canLayAll0,eY x h.1,z5 xs h.2,zco]
end
def isKey(h:Heap)(d:yam)(a:Addr):Prop:=bG d=true/\d.depth<=6/\∃e,Reads h (.ref a) d e
mutual
theorem qy{h h':Heap}{b:Addr}{ob:Obj}{es:Array yav}{ep:Nat}(n:h.get? b=some ob)(hd:ob.data=Data.dict es ep)(l:Heap.SameBut b h h'):∀(d:yam){v:yai}{as:List Addr},bG d=true->Reads h v d as->Reads h' v d as
 |.int i,v,as,hk,hr=>by cases hr;exact .int ..
 |.str i,v,as,hk,hr=>by cases hr;exact .str ..
 |.tuple xs,v,as,hk,hr=>by
  cases hr with
  |@tuple a o vs m _ _ ho hc hdat hall=>
   have j:a≠b:=λe=>by
    subst e;rw[n] at ho;cases ho;rw[hd] at hdat;cases hdat
   exact .tuple (by rw[l.2 a j];exact ho) hc hdat (n9 n hd l xs hk hall)
 |.none,_,_,h,_=>by simp[bG] at h
 |.bool _,_,_,h,_=>by simp[bG] at h
 |.list _,_,_,h,_=>by simp[bG] at h
 |.dict _,_,_,h,_=>by simp[bG] at h
theorem n9{h h':Heap}{b:Addr}{ob:Obj}{es:Array yav}{ep:Nat}(e:h.get? b=some ob)(hd:ob.data=Data.dict es ep)(a:Heap.SameBut b h h'):∀(ds:List yam){vs:List yai}{as:List Addr},cj ds=true->ReadsAll h vs ds as->ReadsAll h' vs ds as
 |[],vs,as,hk,hr=>by cases hr;exact .nil
 |d::ds,vs,as,hk,hr=>by
  simp only[cj,zbF] at hk;cases hr with
  |cons hx hr=>exact .cons (qy e hd a d hk.1 hx) (n9 e hd a ds hk.2 hr)
end
noncomputable def e7(prog:yaj)(w:yak):HeapKind prog w yam where
 is:=isKey
 hash:=bu w
 draws:=Rq
 room:=λA=>A.units+10<cLine
 inj:=λ⟨_,_,i,n⟩ ⟨_,_,bs,m⟩=>(Reads.unique n _ _ m).1
 keeps:=λ⟨h1,h2,i,e⟩ q hd l=>⟨h1,h2,i,qy q hd l _ h1 e⟩
 pyHash:=λo ⟨h1,h2,i,e⟩ h=>uE 6 _ h2 h1 e (by lia) h
 eqBool:=λ{A E s x y a b Q} o ⟨h1,h2,i,e⟩ ⟨j,u,bs,t⟩ h=>SeqAt.eqBoolOverData prog w A E s _ _ _ _ _ _ Q e t (eY _ h1) (eY _ j) (by lia) (by
  rw[ki _ _ h1 j];exact h)
 quiet:=λ⟨h1,h2,i,e⟩ h=>jE 8 _ (by lia) h1 e h
def jo(h:Heap)(d:Addr)(es:Array yav)(ep:Nat):Prop:=∃o,h.get? d=some o/\o.ExactDict/\o.data=Data.dict es ep
theorem jo.at{d:Addr}{es:Array yav}(x:jo h d es ep)(e:∀o,h.get? d=some o->h'.get? d=some o):jo h' d es ep:=by obtain⟨o,a,r⟩:=x;exact⟨o,e o a,r⟩
theorem jo.typeIs{d:Addr}{es:Array yav}(x:jo s.heap d es ep):s.TypeIs (.ref d) "dict":=by obtain⟨o,a,e,_⟩:=x;exact⟨o,a,e.1⟩
theorem nextK{it d:Addr}{es:Array yav}{e:yav}{Q:Option yai->yah->Prop}(l:s.heap.IsKeyIter it d i es.size ep)(G:jo s.heap d es ep)(u:es[i]? =some e)(C:∀h',h'.IsKeyIter it d (i+1) es.size ep->Heap.SameBut it s.heap h'->Q (some e.key) {s with heap:=h'}):yar (model prog w) A (pyNext (.ref it)) Q E s:=by
 obtain⟨o,t,x,hd⟩:=id l;obtain⟨I,h,v,m⟩:=id G;have q:=Heap.IsKeyIter.typeIs l;unfold pyNext;refine yaa (wpAny_attempt (wpAny_callSpecial?_slot (name:=Str.ofString "__next__") q F.slot_dict_keyiterator_next (wpAny_call_entry F.slot_dict_keyiterator_next q F.entry_dict_keyiterator_next ?_ (F.args_dict_keyiterator_next_1 _))));unfold Builtin.«dict_keyiterator.__next__»;refine yaa (yab ?_);refine yaa ?_;refine yaa ?_;refine yaa (wpAny_typeNameOfWhole_keyiter q (yab ?_));have a:Builtin.Dict_items.ownsTuple "dict_keyiterator"=false:=by decide+kernel
 refine yaa (wpAny_fieldsOf t hd ?_);simp only[a,zaU,if_false,List.drop_zero];show yar (model prog w) A.in1 (if(Value.ref d==Value.none)=true then _ else _) _ _ s;rw[yIn (by exact zaT)];refine yaa (yab ?_);refine yaa (wpAny_dictEntries h m ?_);rw[yIn (by simp)];refine yaa (yab ?_);refine yaa (wpAny_dictEpoch h m ?_);rw[yIn (by simp)];refine yab ?_;dsimp only;rw[yIn (by lia),show((i:Int)).toNat=i from zbk i,u];dsimp only;refine yaa (?_);refine yaa (wpAny_typeNameOfWhole_keyiter q (yab ?_));simp only[a,zaU,if_false];refine yaa (wpAny_isOneOf_keyiter q ?_);refine yaa (wpAny_setField t hd (by simp) ?_);have H:∀b:Bool,b=false->(if b=true then(i:Int) - 1 else(i:Int)+1)=((i+1:Nat):Int):=λb y=>by subst y;simp
 rw[H _ (by decide+kernel)];refine yaa (yad ?_);have j:=zax (Obj.mapFields (·.setIfInBounds (0+1) (rawInt ((i+1:Nat):Int)))) t (Obj.isFreed_of_fields (Obj.data_mapFields hd _));have n:=(Obj.cls_mapFields o (·.setIfInBounds (0+1) (rawInt ((i+1:Nat):Int)))).trans x;refine yaa (wpAny_isOneOf_keyiter ⟨_,j,n⟩ ?_);rw[yIp (by decide+kernel)];refine yab (yab ⟨e.key,rfl,yab (C _ ?_ (Heap.SameBut.update ..))⟩);exact⟨_,j,n,by rw[Obj.data_mapFields hd];simp[rawInt]⟩
theorem Sl{it d:Addr}{es:Array yav}{Q:Option yai->yah->Prop}(t:A.handled=none)(j:s.heap.IsKeyIter it d es.size es.size ep)(y:jo s.heap d es ep)(x:∀h',Heap.ExtBut it s.heap h'->Q none {s with heap:=h'}):yar (model prog w) A (pyNext (.ref it)) Q E s:=by
 obtain⟨o,q,H,hd⟩:=id j;obtain⟨C,i,u,l⟩:=id y;have n:=Heap.IsKeyIter.typeIs j;unfold pyNext;refine yaa (wpAny_attempt (wpAny_callSpecial?_slot (name:=Str.ofString "__next__") n F.slot_dict_keyiterator_next (wpAny_call_entry F.slot_dict_keyiterator_next n F.entry_dict_keyiterator_next ?_ (F.args_dict_keyiterator_next_1 _))));unfold Builtin.«dict_keyiterator.__next__»;refine yaa (yab ?_);refine yaa ?_;refine yaa ?_;refine yaa (wpAny_typeNameOfWhole_keyiter n (yab ?_));have h:Builtin.Dict_items.ownsTuple "dict_keyiterator"=false:=by decide+kernel
 refine yaa (wpAny_fieldsOf q hd ?_);simp only[h,zaU,if_false,List.drop_zero];show yar (model prog w) A.in1 (if(Value.ref d==Value.none)=true then _ else _) _ _ s;rw[yIn (by exact zaT)];refine yaa (yab ?_);refine yaa (wpAny_dictEntries i l ?_);rw[yIn (by simp)];refine yaa (yab ?_);refine yaa (wpAny_dictEpoch i l ?_);rw[yIn (by simp)];refine yab ?_;dsimp only;rw[yIn (by lia),show((es.size:Int)).toNat=es.size from zbk _,zap (zcI _)];dsimp only;refine yaa ?_;refine yaa (wpAny_typeNameOfWhole_keyiter n (yab ?_));simp only[h,zaU,if_false];refine yaa (wpAny_setField q hd (by simp) ?_);refine yaa ?_;simp only[newExc,newTuple];refine yaa (yae ?_ (by size_fits));refine yaa (m:=firstArgMember _ _) (wpAny_of_eq (a:=Value.none) (by first|rfl|(simp only[firstArgMember];rfl)) ?_);refine yae ?_ (by size_fits);simp only[raiseNew];refine yaa (wpAny_handled ?_)
 first|rw[show A.in1.handled=none from t]|rw[t]
 refine yaa (yab (wpAny_throw ?_));refine yaa (wpAny_isInstance (T:="StopIteration") (b:=true) ⟨_,zaK _ rfl,rfl⟩ isSubtype_stop ?_);refine yab (x _ (Heap.ExtBut.push (Heap.ExtBut.push ?_ _) _));exact λb G v e=>(zar _ _ (Ne.symm v)).trans e
theorem Qh{d:Addr}{es:Array yav}(hd:(d==yas)=false)(i:jo s.heap d es ep)(l:Q (.ref s.heap.objs.size) {s with heap:=s.heap.push {cls:=.type "dict_keyiterator",data:=.fields #[.ref d,.int 0 0,.int es.size 0,.int ep 0]}}):yar (model prog w) A (pyIter (.ref d)) Q E s:=by
 obtain⟨m,a,j,e⟩:=id i;have h:=i.typeIs;refine wpAny_pyIter_slot h F.slot_dict_iter (wpAny_call_entry F.slot_dict_iter h F.entry_dict_iter ?_ (F.args_dict_iter_1 _));unfold Builtin.«dict.__iter__»;refine yaa (yaa (wpAny_notOrdered_dict h (yab ?_)));refine yaa (yab ?_);unfold Builtin.Dict.showsAll;rw[yIn (by rw[hd];exact zaT)];refine yaa (yab ?_);refine yaa (wpAny_dictEntries a e ?_);refine yaa (wpAny_dictEpoch a e ?_);refine yaa (yae ?_ (by size_fits));exact yab ⟨_,rfl,"dict_keyiterator",_,⟨_,zaK _ rfl,rfl⟩,F.slot_dict_keyiterator_next.lookup,l⟩
theorem Li(C:A.handled=none)(I d:Addr)(t:d≠I)(es:Array yav)(ep:Nat):
  Walks prog w A I [I,d] [I] es.size (λi v=>∃e,es[i]? =some e/\v=e.key) (λi h=>h.IsKeyIter I d i es.size ep/\jo h d es ep) where
 sub:=λb j=>by simp only[zaO] at j;simp[j]
 frame:=λi h q a x=>⟨Heap.IsKeyIter.at a.1 λo e=>x I (by simp) o e,a.2.at λo e=>x d (by simp) o e⟩
 item:=λi s Q E y a n=>by
  have u:es[i]? =some es[i]:=zai y;refine nextK a.1 a.2 u λq m l=>n es[i].key q s.toks ⟨es[i],u,rfl⟩ ⟨m,a.2.at λo e=>by rw[l.2 d t];exact e⟩ λb o j e=>?_;rw[l.2 b (λz=>j (by simp[z]))];exact e
 done:=λs Q E a n=>Sl C a.1 a.2 λq F=>n q s.toks λb o j e=>F b o (λz=>j (by simp[z])) e
 self:=λi s Q E a n=>wpAny_pyIter_keyiter a.1 n
theorem Lz{d:Addr}{es:Array yav}(lo:(d==yas)=false):W.KdlSrc prog w "dict" d d es.size (λi v=>∃e,es[i]? =some e/\v=e.key) (λh=>jo h d es ep) where
 type:=λs a=>a.typeIs
 there:=λh a=>by obtain⟨o,j,_⟩:=a;exact⟨zcF j,zcF j⟩
 keep:=λh t a n=>a.at λo e=>n d (.inl rfl) o e
 notList:=by decide
 notTuple:=by decide
 hint:=λA E s Q a l=>W.kdl_hint_dict a.typeIs l
 iter:=λA s q a=>by
  have m:d<s.heap.objs.size:=by obtain⟨o,j,_⟩:=a;exact zcF j
  exact⟨_,_,λE Q l=>Qh lo a l,Li q s.heap.objs.size d (zcv m) es ep,⟨_,zaK _ rfl,rfl,rfl⟩,a.at λo e=>zaq _ e⟩
theorem vF{d:Addr}{es:Array yav}{R:List yai->yah->Prop}(lo:(d==yas)=false)(m:A.handled=none)(q:jo s.heap d es ep)(l:es.size<=yag)(h:∀(h':Heap)(tk:Nat),(∀b o,s.heap.get? b=some o->h'.get? b=some o)->R (es.toList.map (·.key)) {s with heap:=h',toks:=tk}):yar (model prog w) A (collect (.ref d)) R E s:=by
 refine W.kdu_collect (Lz lo) m q l λh' tk j kp a=>?_;have:j.toList=es.toList.map (·.key):=by
  refine List.ext_getElem? λi=>?_;rw[zaw,zba,zaw];cases z:j[i]? with
  |some v=>
   obtain⟨e,n,rfl⟩:=a.2 i v z;rw[n];rfl
  |none=>
   have:es.size<=i:=by rw[<-a.1];exact zac.mp z
   rw[zap this];rfl
 rw[this];exact h h' tk kp
mutual
noncomputable def fH:yam->yam->Bool
 |.int i,.int j=>decide (i<j)
 |.str i,.str j=>decide (i.cps.toList<j.cps.toList)
 |.tuple xs,.tuple ys=>cG xs ys
 |_,_=>false
noncomputable def cG:List yam->List yam->Bool
 |[],[]=>false
 |[],_::_=>true
 |_::_,[]=>false
 |x::xs,y::ys=>if x=y then cG xs ys else fH x y
end
mutual
noncomputable def bO:yam->yam->Bool
 |.int _,.int _=>true
 |.str _,.str _=>true
 |.tuple xs,.tuple ys=>dQ xs ys
 |_,_=>false
noncomputable def dQ:List yam->List yam->Bool
 |x::xs,y::ys=>bO x y&&dQ xs ys
 |_,_=>true
end
theorem fQ{h:Heap}:∀{ds:List yam}{vs:List yai}{as:List Addr},ReadsAll h vs ds as->vs.length=ds.length
 |[],_,_,h=>by cases h;rfl
 |_::_,_,_,h=>by cases h with|cons _ r=>simp[fQ r]
theorem IS:∀(n:Nat)(x y:yam){u v:yai}{as bs:List Addr}{A:yal}{E:yai->yah->Prop}{s:yah}{Q:yai->yah->Prop},x.depth<=n->y.depth<=n->bG x=true->bG y=true->bO x y=true->Reads s.heap u x as->Reads s.heap v y bs->A.units+n<cLine->
  Q (.bool (fH x y)) s->yar (model prog w) A (yan .Lt u v) Q E s:=by
 intro n
 induction n with
 |zero=>
  intro x y u v as bs A E s Q hx hy e Z C I S hu h;cases I with
  |int i t=>
   cases S with
   |int j t'=>exact wpAny_lt_int h
   |_=>simp[bO] at C
  |str i t=>
   cases S with
   |str j t'=>exact lt_str h
   |_=>simp[bO] at C
  |tuple ho C hd' hall=>rw[bw] at hx;lia
  |none=>simp[bG] at e
  |bool b=>simp[bG] at e
  |list _ _ _ _=>simp[bG] at e
  |dict _ _ _ _ _=>simp[bG] at e
 |succ n ih=>
  intro x y u v as bs A E s Q hx hy e Z C I S hu h;cases I with
  |int i t=>
   cases S with
   |int j t'=>exact wpAny_lt_int h
   |_=>simp[bO] at C
  |str i t=>
   cases S with
   |str j t'=>exact lt_str h
   |_=>simp[bO] at C
  |none=>simp[bG] at e
  |bool b=>simp[bG] at e
  |list _ _ _ _=>simp[bG] at e
  |dict _ _ _ _ _=>simp[bG] at e
  |@tuple a o us m xs as ho hcl hdat hall=>
   cases S with
   |@tuple b o2 vs m2 ys bs ho2 hcl2 hdat2 hall2=>
    have hT:=eB ho hcl;have U:=eB ho2 hcl2;rw[bw] at hx hy;have e:cj xs=true:=e;have Z:cj ys=true:=Z;have C:dQ xs ys=true:=C;show yar (model prog w) A (richCompare .Lt (.ref a) (.ref b)) Q E s;refine wpAny_richCompare_same_room hT U F.slot_tuple_lt ?_ (by lia);refine wpAny_call_entry F.slot_tuple_lt hT F.entry_tuple_lt ?_ (F.args_tuple_lt_2 _ _);unfold Builtin.«tuple.__lt__»;refine yaa (yab ?_);refine yaa (wpAny_isInstance U isSubtype_tuple_tuple ?_);rw[yIn (by decide)];refine yaa (wpAny_tupleItemsOf ho hdat (yaa (wpAny_tupleItemsOf ho2 hdat2 (yaa ?_))));refine wpAny_forIn_list _ (λrest r W=>r.1=none/\W=s/\∃L H Y X P O,rest=Y.zip X/\ReadsAll s.heap Y L P/\ReadsAll s.heap X H O/\cG xs ys=cG L H/\(∀z∈L,z∈xs)/\(∀z∈H,z∈ys)/\dQ L H=true/\us.size+H.length=vs.size+L.length) _ ?_ ?_ (us.toList.zip vs.toList) (none,())
     ⟨rfl,rfl,xs,ys,us.toList,vs.toList,_,_,rfl,hall,hall2,rfl,λ_ z=>z,λ_ z=>z,C,by
      have h1:=fQ hall;have h2:=fQ hall2;rw[zaJ] at h1 h2;lia⟩
    ·rintro⟨p,q⟩ rest ⟨r1,r2⟩ W ⟨I,rfl,L,H,Y,X,P,O,hz,h1,h2,hl,m1,m2,G,l⟩;cases h1 with
     |nil=>simp at hz
     |@cons _ _ d1 ds1 a1 b1 g1 t1=>
      cases h2 with
      |nil=>simp at hz
      |@cons _ _ d2 ds2 a2 b2 g2 t2=>
       rw[zaN] at hz;injection hz with e1 e2;injection e1 with e3 e4;subst e3;subst e4;subst e2;have n1:=m1 d1 (by simp);have n2:=m2 d2 (by simp);have k1:=eV e d1 n1;have k2:=eV Z d2 n2;have dd1:=cC n1;have dd2:=cC n2;simp only[dQ,zbF] at G;dsimp only;refine yaa (SeqAt.eqBoolOverData prog w _ _ _ _ _ _ _ _ _ _ g1 g2 (eY _ k1) (eY _ k2) (by show A.units+1+_<cLine;lia) ?_);rw[ki _ _ k1 k2];by_cases he:d1=d2
       ·rw[yDt he];refine yab ⟨rfl,rfl,ds1,ds2,_,_,_,_,rfl,t1,t2,?_,λz hz=>m1 z (zay _ hz),λz hz=>m2 z (zay _ hz),G.2,by simp only[zbq] at l;lia⟩;rw[hl];simp only[cG];rw[yIp he]
       ·rw[yDf he];have hl2:cG xs ys=fH d1 d2:=by
         rw[hl];simp only[cG];rw[yIn he]
        refine yaa (wpAny_rule ?_);refine yaa (ih d1 d2 (u:=p) (v:=q) (A:=A.in1) (by lia) (by lia) k1 k2 G.1 g1 g2 (by show A.units+1+n<cLine;lia) ?_);refine yaa (yab (yab ?_));refine yab ⟨_,rfl,(λz=>by cases z),?_⟩;rw[<-hl2];exact h
    ·rintro⟨r1,r2⟩ W ⟨I,rfl,L,H,Y,X,P,O,hz,h1,h2,hl,m1,m2,G,l⟩;have I:r1=none:=I;subst I;refine yab ⟨_,rfl,(λz=>by cases z),?_⟩;have Sg:decide (us.size<vs.size)=cG xs ys:=by
      rw[hl];cases h1 with
      |nil=>
       cases H with
       |nil=>simp only[cG,zbO] at l⊢;exact yDf (by lia)
       |cons _ _=>simp only[cG,zbq,zbO] at l⊢;exact yDt (by lia)
      |cons g1 t1=>
       cases h2 with
       |nil=>simp only[cG,zbq,zbO] at l⊢;exact yDf (by lia)
       |cons g2 t2=>simp at hz
     show Q (.bool (decide (us.size<vs.size))) W;rw[Sg];exact h
   |_=>simp[bO] at C
def Fs(b:Bool)(z:yam):Prop:=(b=false/\∃i,z=.int i)∨(b=true/\∃i,z=.str i)
theorem EL{x y:yam}{v:yai}{as bs:List Addr}{Q:Bool->yah->Prop}(n:Nat)(j:x.depth<=n)(i:y.depth<=n)(e:bG x=true)(a:bG y=true)(o:bO x y=true)(m:Reads s.heap u x as)(q:Reads s.heap v y bs)(l:A.units+n<cLine)(h:Q (fH x y) s):yar (model prog w) A (PyProof.Rows.oneLt' false u v) Q E s:=W.kat_one u v (IS n x y j i e a o m q l h)
theorem uZ{A:yal}{Q:Bool->yah->Prop}{s:yah}{m1 m2:Nat}:∀(e a:List yam){l j:List yai}{as bs:List Addr}(i:Nat),(∀z∈e,z.depth<=6)->(∀z∈a,z.depth<=6)->cj e=true->cj a=true->dQ e a=true->ReadsAll s.heap l e as->ReadsAll s.heap j a bs->A.units+6<cLine->
  (i=0->∃b,Fs b (e.headD .none)/\Fs b (a.headD .none))->m1+a.length=m2+e.length->Q (cG e a) s->W.KatLex prog w A true (decide (m1<m2)) Q (l.zip j) i s
 |[],a,l,j,as,bs,i,d1,d2,k1,k2,hc,h1,h2,hu,h0,hm,h=>by
  cases h1;show Q (decide (m1<m2)) s;cases a with
  |nil=>simp only[cG,zbO] at hm h;rw[yDf (by lia)];exact h
  |cons _ _=>simp only[cG,zbO,zbq] at hm h;rw[yDt (by lia)];exact h
 |x::e,[],l,j,as,bs,i,d1,d2,k1,k2,hc,h1,h2,hu,h0,hm,h=>by
  cases h2;rw[List.zip_nil_right];show Q (decide (m1<m2)) s;simp only[cG,zbO,zbq] at hm h;rw[yDf (by lia)];exact h
 |x::e,y::a,l,j,as,bs,i,d1,d2,k1,k2,hc,h1,h2,hu,h0,hm,h=>by
  simp only[cj,zbF] at k1 k2;simp only[dQ,zbF] at hc;have G:=d1 x (by simp);have F:=d2 y (by simp);cases h1 with
  |@cons u us _ _ a1 b1 g1 t1=>
   cases h2 with
   |@cons v vs _ _ a2 b2 g2 t2=>
    rw[zaN,W.KatLex.eq_2];refine SeqAt.eqBoolOverData prog w _ _ _ _ _ _ _ _ _ _ g1 g2 (eY _ k1.1) (eY _ k2.1) (by lia) ?_;rw[ki _ _ k1.1 k2.1];simp only[cG] at h;by_cases m:x=y
    ·rw[yDt m,yIp rfl];rw[yIp m] at h;exact uZ e a (i+1) (λz hz=>d1 z (zay _ hz)) (λz hz=>d2 z (zay _ hz)) k1.2 k2.2 hc.2 t1 t2 hu (λz=>by lia) (by simp only[zbq] at hm;lia) h
    ·rw[yDf m,yIn (by decide)];rw[yIn m] at h;by_cases n:i=0
     ·obtain⟨b,E,C⟩:=h0 n;subst n;rcases E with⟨rfl,p,t⟩|⟨rfl,p,t⟩<;>rcases C with⟨z,q,o⟩|⟨z,q,o⟩<;>cases z
      ·cases(show x=_ from t);cases(show y=_ from o);cases g1;cases g2;exact W.kat_lt_int h
      ·cases(show x=_ from t);cases(show y=_ from o);cases g1;cases g2;exact PyProof.Rows.oneLt_str h
     ·have:(true&&i==0)=false:=by simp[n]
      rw[this];exact EL 6 G F k1.1 k2.1 hc.1 g1 g2 hu h
def dz{e:Type}(P:e->Prop)(n:Nat):W.KasT e->Prop
 |.ret a=>P a
 |.ask i j k=>i<n/\j<n/\∀b,dz P n (k b)
theorem dz.bind{e l:Type}{P:e->Prop}{R:l->Prop}{f:e->W.KasT l}:∀{t:W.KasT e},dz P n t->(∀a,P a->dz R n (f a))->dz R n (t.bind f)
 |.ret a,h,g=>g a h
 |.ask i j k,⟨h1,h2,h3⟩,g=>⟨h1,h2,λb=>dz.bind (h3 b) g⟩
theorem dI{p:Array Nat}(e:0<n)(a:p.Perm (zcM n).toArray)(x:Nat):p.getD x 0<n:=by
 rw[Srt.kg];cases z:p[x]? with
 |none=>exact e
 |some y=>
  have h:y∈p:=Array.mem_of_getElem? z;have:=(a.mem_iff).mp h;simpa using this
theorem tH(e:0<n){p:Array Nat}(a:p.Perm (zcM n).toArray):∀(f x:Nat),dz (λ_=>True) n (W.kas_asc p f x)
 |0,x=>trivial
 |f+1,x=>⟨dI e a _,dI e a _,λb=>by
  show dz _ n (if b=true then _ else _);cases b
  ·exact tH e a f (x+1)
  ·exact trivial⟩
theorem ko(a:0<n):∀(f:Nat){p:Array Nat}(x q:Nat),p.Perm (zcM n).toArray->dz (λr:Array Nat×Nat×Nat=>r.1.Perm (zcM n).toArray) n (W.kas_desc f p x q)
 |0,p,x,q,hp=>hp
 |f+1,p,x,q,hp=>⟨dI a hp _,dI a hp _,λb=>by
  show dz _ n (if b=true then(if q> 0 then _ else _) else _);cases b
  ·refine⟨dI a hp _,dI a hp _,λc=>?_⟩;show dz _ n (if c=true then _ else _);cases c
   ·exact ko a f (x+1) (q+1) hp
   ·exact hp
  ·rw[yIp rfl];by_cases e:q> 0
   ·rw[yIp e];exact ko a f (x+1) 0 (Srt.cY.trans hp)
   ·rw[yIn e];exact ko a f (x+1) 0 hp⟩
theorem t8(h:0<n){p:Array Nat}(e:p.Perm (zcM n).toArray)(x m:Nat):dz (λr:Nat×Array Nat=>r.2.Perm (zcM n).toArray) n (W.kas_tail3 x m p):=
 dz.bind (tH h (Srt.cY.trans e) _ _) λa _=>Srt.cY.trans e
theorem kq(a:0<n){p:Array Nat}(i:p.Perm (zcM n).toArray)(x m:Nat):dz (λr:Nat×Array Nat=>r.2.Perm (zcM n).toArray) n (W.kas_descPart x m p):=
 dz.bind (ko a _ _ _ i) λr e=>by
  by_cases h:r.2.2> 0
  ·rw[yIp h];exact t8 a (Srt.cY.trans e) _ _
  ·rw[yIn h];exact t8 a e _ _
theorem Cd(e:0<n){p:Array Nat}(a:p.Perm (zcM n).toArray)(m:Nat):dz (λr:Nat×Array Nat=>r.2.Perm (zcM n).toArray) n (W.kas_count m p):=
 dz.bind (tH e a _ _) λx _=>by
  by_cases h:(x==m)=true
  ·rw[yIp h];exact a
  ·rw[yIn h];by_cases h2:x> 1
   ·rw[yIp h2];refine⟨dI e a _,dI e a _,λb=>?_⟩;show dz _ n (if b=true then _ else _);cases b
    ·exact kq e (Srt.cY.trans a) _ _
    ·exact a
   ·rw[yIn h2];exact kq e a _ _
theorem lH(e:0<n){p:Array Nat}(a:p.Perm (zcM n).toArray)(k:Nat):∀(f l r:Nat),dz (λ_=>True) n (W.kas_place p k f l r)
 |0,l,r=>trivial
 |f+1,l,r=>by
  rw[W.kas_place.eq_2];by_cases h:l≥r
  ·rw[yIp h];exact trivial
  ·rw[yIn h];refine⟨dI e a _,dI e a _,λb=>?_⟩;show dz _ n (if b=true then _ else _);cases b
   ·exact lH e a k f _ _
   ·exact lH e a k f _ _
theorem Aw(a:0<n):∀(f:Nat){p:Array Nat}(j:Nat),p.Perm (zcM n).toArray->dz (λr:Array Nat=>r.Perm (zcM n).toArray) n (W.kas_bin f p j)
 |0,p,j,hp=>hp
 |f+1,p,j,hp=>by
  rw[W.kas_bin.eq_2];exact dz.bind (lH a hp _ _ _ _) λl _=>Aw a f (j+1) ((bubble_perm _ _ _).trans hp)
theorem um(e:0<n):dz (λr:Array Nat=>r.Perm (zcM n).toArray) n (W.kas_sort n):=
 dz.bind (Cd e (Array.Perm.refl _) _) λr a=>by
  by_cases h:r.1<n
  ·rw[yIp h];exact Aw e _ _ a
  ·rw[yIn h];exact a
theorem wp_run{e:Type}{n:Nat}{P:e->Prop}{f:Nat->Nat->Bool}{cmp:Nat->Nat->(Bool->yah->Prop)->yah->Prop}{Q:e->yah->Prop}{s:yah}(l:∀i j C,i<n->j<n->C (f i j) s->cmp i j C s):∀{t:W.KasT e},dz P n t->Q (Srt.run f t) s->W.KasT.kasWp cmp t Q s
 |.ret a,h,q=>q
 |.ask i j k,⟨h1,h2,h3⟩,q=>l i j _ h1 h2 (wp_run l (h3 _) q)
theorem zE{e:Type}{n:Nat}{P:e->Prop}{f:Nat->Nat->Bool}:∀{t:W.KasT e},dz P n t->P (Srt.run f t)
 |.ret a,h=>h
 |.ask i j k,⟨_,_,h3⟩=>show P (Srt.run f (k (f i j))) from zE (h3 (f i j))
theorem run_eq{l:Type}{n:Nat}{P:l->Prop}{f g:Nat->Nat->Bool}:∀{t:W.KasT l},dz P n t->(∀i j,i<n->j<n->f i j=g i j)->Srt.run f t=Srt.run g t
 |.ret a,h,_=>rfl
 |.ask i j k,⟨h1,h2,h3⟩,e=>by
  show Srt.run f (k (f i j))=Srt.run g (k (g i j));rw[e i j h1 h2];exact run_eq (h3 _) e
theorem qz{vs:List yai}:((zcM vs.length).map λi=>vs.getD i Value.none)=vs:=by
 refine zbx (by simp) λi h1 h2=>?_;simp[zcQ,zak h2]
noncomputable def cT(h:Heap)(a:Addr)(vs:List yai):Heap:=((h.update a (Obj.mapSeq λ_=>#[])).push (seqObj "tuple" vs.toArray 0)).push (seqObj "list" #[] 0)
theorem yg{vs:List yai}{P:PySem.Fin->yah->Prop}(f:Nat->Nat->Bool)(H:s.heap.get? a=some (seqObj "list" vs.toArray n))(I:vs.length<64)(hk:2<=vs.length->∃κ,(∀(Q:SortKind->yah->Prop),Q κ {s with heap:=cT s.heap a vs}->yar (model prog w) A (keyKind' vs.toArray) Q (λ_ _=>False) {s with heap:=cT s.heap a vs})/\∀i j C,i<vs.length->j<vs.length->C (f i j) {s with heap:=cT s.heap a vs}->W.kas_ask prog w A κ vs i j C {s with heap:=cT s.heap a vs})(h:∀p:Array Nat,p.Perm (zcM vs.length).toArray->(2<=vs.length->p=Srt.run f (W.kas_sort vs.length))->P (.done (.ret .none)) {s with heap:=sortedHeap s.heap a vs (p.toList.map λi=>vs.getD i Value.none).toArray}):
  yar (model prog w) A (Builtin.«list.sort» ⟨[.ref a],[]⟩) P E s:=by
 obtain⟨t,q⟩:∃t,(s.heap.update a (Obj.mapSeq λ_=>#[])).get? a=some (seqObj "list" #[] t):=⟨_,get?_update_seq H λ_=>#[]⟩
 have e:(cT s.heap a vs).get? a=some (seqObj "list" #[] t):=zaq _ (zaq _ q);have hz:vs.toArray.size<=yag:=by rw[zaY,yaf];lia
 rw[list_sort_plain a];refine yaa (listItems_at H rfl (yaa (listUpdate_at H rfl ?_ hz (zcJ _))));refine yaa (seqEpoch_at q rfl (yaa (wpAny_newTuple ?_ (by simpa using hz))));refine yaa (wpAny_newList (yad ?_) (zcJ _));show yar (model prog w) A (if vs.toArray.size<2 then _ else _) P E {s with heap:=cT s.heap a vs};by_cases h2:vs.length<2
 ·rw[yIp (by rw[zaY];exact h2)];refine yaa (yab ?_);dsimp only;rw[yIp (by rw[zaY];exact h2)];refine yaa (yab ?_);have S:((vs.toArray.zip vs.toArray).map (·.2))=((zcM vs.length).map λi=>vs.getD i Value.none).toArray:=by
   rw[List.zip_toArray,List.map_toArray,List.map_snd_zip (zcI _),qz]
  refine yaa (seqEpoch_at e rfl (yaa (listUpdate_at e rfl ?_ (zcJ _) ?_)))
  ·show yar (model prog w) A (if(t != t)=true then _ else _) P E _;rw[yIn (by simp)];refine yab ?_;have:=h (zcM vs.length).toArray (Array.Perm.refl _) (λz=>by lia);rw[<-S] at this;exact this
  ·show((vs.toArray.zip vs.toArray).map (·.2)).size<=_;rw[S,qz,zaY,yaf];lia
 ·rw[yIn (by rw[zaY];exact h2)];obtain⟨κ,k1,Z⟩:=hk (by lia);refine yaa (yac (k1 (λo l=>o=κ/\l={s with heap:=cT s.heap a vs}) ⟨rfl,rfl⟩) (λo l z=>?_) (λ_ _ z=>z.elim));obtain⟨rfl,rfl⟩:=z;dsimp only;rw[yIn (by rw[zaY];exact h2)];have m:=um (n:=vs.length) (by lia);refine yaa (yac (W.kat_run (Q:=λu l=>∃p:Array Nat,(arrOf u).map (·.2)=(p.toList.map λi=>vs.getD i Value.none).toArray/\failedOf u=none/\p.Perm (zcM vs.length).toArray/\p=Srt.run f (W.kas_sort vs.length)/\l={s with heap:=cT s.heap a vs}) (G:=λp l=>(p.Perm (zcM vs.length).toArray/\p=Srt.run f (W.kas_sort vs.length))/\l={s with heap:=cT s.heap a vs}) rfl (by lia) I ?_ (wp_run Z m ⟨⟨zE m,rfl⟩,rfl⟩)) ?_ (λ_ _ z=>z))
  ·rintro p U l hp1 F y ⟨⟨x,v⟩,rfl⟩;exact⟨p,W.kat_snds rfl F,y,x,v,rfl⟩
  ·rintro⟨⟨⟩,u⟩ l ⟨p,O,Y,L,X,rfl⟩;dsimp only;refine yaa (seqEpoch_at e rfl (yaa (listUpdate_at e rfl ?_ (zcJ _) ?_)))
   ·rw[Y];dsimp only;rw[yIn (by simp)];refine yab ?_;have:=h p L λ_=>X;rw[<-O] at this;exact this
   ·rw[O];have:=L.size_eq;rw[zaY,zbJ,zaJ,this,zaY,zbe,yaf];lia
mutual
theorem qx{h h':Heap}{b:Addr}{ob:Obj}(l:h.get? b=some ob)(hd:ob.cls≠ .type "tuple")(kp:∀c o,c≠b->h.get? c=some o->h'.get? c=some o):∀(d:yam){v:yai}{as:List Addr},bG d=true->Reads h v d as->Reads h' v d as
 |.int i,v,as,hk,hr=>by cases hr;exact .int ..
 |.str i,v,as,hk,hr=>by cases hr;exact .str ..
 |.tuple xs,v,as,hk,hr=>by
  cases hr with
  |@tuple a o vs m _ _ ho hc hdat hall=>
   have j:a≠b:=λe=>by
    subst e;rw[l] at ho;cases ho;exact hd hc
   exact .tuple (kp a o j ho) hc hdat (n8 l hd kp xs hk hall)
 |.none,_,_,h,_=>by simp[bG] at h
 |.bool _,_,_,h,_=>by simp[bG] at h
 |.list _,_,_,h,_=>by simp[bG] at h
 |.dict _,_,_,h,_=>by simp[bG] at h
theorem n8{h h':Heap}{b:Addr}{ob:Obj}(a:h.get? b=some ob)(hd:ob.cls≠ .type "tuple")(kp:∀c o,c≠b->h.get? c=some o->h'.get? c=some o):∀(ds:List yam){vs:List yai}{as:List Addr},cj ds=true->ReadsAll h vs ds as->ReadsAll h' vs ds as
 |[],vs,as,hk,hr=>by cases hr;exact .nil
 |d::ds,vs,as,hk,hr=>by
  simp only[cj,zbF] at hk;cases hr with
  |cons hx hr=>exact .cons (qx a hd kp d hk.1 hx) (n8 a hd kp ds hk.2 hr)
end
theorem eU{α a:Type}{f:α->a}:∀{ks:List α}{out:List a},out.Perm (ks.map f)->∃o':List α,o'.Perm ks/\out=o'.map f
 |[],out,h=>⟨[],.refl _,by simpa using h⟩
 |k::ks,out,h=>by
  have o:f k∈out:=h.mem_iff.mpr (by simp);obtain⟨n,m,rfl⟩:=List.append_of_mem o;have h2:(n++m).Perm (ks.map f):=by
   have:=List.perm_middle.symm.trans h;rw[zci] at this;exact this.cons_inv
  obtain⟨o',i,e⟩:=eU h2;obtain⟨l,j,t,s,q⟩:=List.map_eq_append_iff.mp e.symm;subst t;refine⟨l++k::j,List.perm_middle.trans (i.cons k),?_⟩;rw[zbS,zci,s,q]
mutual
theorem E5:∀x:yam,fH x x=false
 |.int i=>by simp only[fH];exact yDf (Int.lt_irrefl i)
 |.str i=>by simp only[fH];exact yDf (List.lt_irrefl _)
 |.tuple xs=>by simp only[fH];exact zZ xs
 |.none=>by simp only[fH]
 |.bool _=>by simp only[fH]
 |.list _=>by simp only[fH]
 |.dict _=>by simp only[fH]
theorem zZ:∀x:List yam,cG x x=false
 |[]=>by simp only[cG]
 |x::xs=>by simp only[cG];rw[yIp trivial];exact zZ xs
end
theorem tE{i:Int}{y:yam}(h:bO (.int i) y=true):∃j,y=.int j:=by
 cases y<;>first|exact⟨_,rfl⟩|simp[bO] at h
theorem tw{i:Str}{y:yam}(h:bO (.str i) y=true):∃j,y=.str j:=by
 cases y<;>first|exact⟨_,rfl⟩|simp[bO] at h
theorem tu{a:List yam}{y:yam}(h:bO (.tuple a) y=true):∃ys,y=.tuple ys/\dQ a ys=true:=by
 cases y<;>first|exact⟨_,rfl,h⟩|simp[bO] at h
mutual
theorem E4:∀x y z:yam,bO x y=true->bO y z=true->bO x z=true->fH x y=true->fH y z=true->fH x z=true
 |.int i,y,z,a,b,_,h,g=>by
  obtain⟨j,rfl⟩:=tE a;obtain⟨k,rfl⟩:=tE b;simp only[fH,decide_eq_true_eq] at h g⊢;lia
 |.str i,y,z,a,b,_,h,g=>by
  obtain⟨j,rfl⟩:=tw a;obtain⟨k,rfl⟩:=tw b;simp only[fH,decide_eq_true_eq] at h g⊢;exact List.lt_trans h g
 |.tuple xs,y,z,a,b,c,h,g=>by
  obtain⟨l,rfl,a⟩:=tu a;obtain⟨e,rfl,b⟩:=tu b;simp only[fH] at h g⊢;exact E3 xs l e a b c h g
 |.none,_,_,a,_,_,_,_=>by simp[bO] at a
 |.bool _,_,_,a,_,_,_,_=>by simp[bO] at a
 |.list _,_,_,a,_,_,_,_=>by simp[bO] at a
 |.dict _,_,_,a,_,_,_,_=>by simp[bO] at a
theorem E3:∀x y z:List yam,dQ x y=true->dQ y z=true->dQ x z=true->cG x y=true->cG y z=true->cG x z=true
 |[],[],z,_,_,_,h,_=>by simp[cG] at h
 |[],y::ys,[],_,_,_,_,g=>by simp[cG] at g
 |[],y::ys,z::zs,_,_,_,_,_=>by simp only[cG]
 |x::xs,[],z,_,_,_,h,_=>by simp[cG] at h
 |x::xs,y::ys,[],_,_,_,_,g=>by simp[cG] at g
 |x::xs,y::ys,z::zs,a,b,c,h,g=>by
  simp only[dQ,zbF] at a b c;simp only[cG] at h g⊢;by_cases i:x=y
  ·rw[yIp i] at h;subst i;by_cases e:x=z
   ·rw[yIp e] at g⊢;exact E3 xs ys zs a.2 b.2 c.2 h g
   ·rw[yIn e] at g⊢;exact g
  ·rw[yIn i] at h;by_cases e:y=z
   ·subst e;rw[yIn i];exact h
   ·rw[yIn e] at g;have t:=E4 x y z a.1 b.1 c.1 h g;rw[yIn (λj=>by subst j;rw[E5] at t;cases t)];exact t
end
mutual
theorem yf:∀x y:yam,bO x y=true->x≠y->fH x y=true∨fH y x=true
 |.int i,y,a,n=>by
  obtain⟨j,rfl⟩:=tE a;have:i≠j:=λe=>n (by rw[e]);simp only[fH,decide_eq_true_eq];lia
 |.str i,y,a,n=>by
  obtain⟨j,rfl⟩:=tw a;simp only[fH,decide_eq_true_eq];by_cases h:i.cps.toList<j.cps.toList
  ·exact .inl h
  ·by_cases g:j.cps.toList<i.cps.toList
   ·exact .inr g
   ·refine absurd ?_ n;have e:i.cps.toList=j.cps.toList:=List.le_antisymm g h;obtain⟨i⟩:=i;obtain⟨j⟩:=j;have e:i.toList=j.toList:=e;rw[show i=j from Array.toList_inj.mp e]
 |.tuple xs,y,a,n=>by
  obtain⟨l,rfl,a⟩:=tu a;simp only[fH];exact zY xs l a λe=>n (by rw[e])
 |.none,_,a,_=>by simp[bO] at a
 |.bool _,_,a,_=>by simp[bO] at a
 |.list _,_,a,_=>by simp[bO] at a
 |.dict _,_,a,_=>by simp[bO] at a
theorem zY:∀x y:List yam,dQ x y=true->x≠y->cG x y=true∨cG y x=true
 |[],[],_,n=>absurd rfl n
 |[],y::ys,_,_=>.inl (by simp only[cG])
 |x::xs,[],_,_=>.inr (by simp only[cG])
 |x::xs,y::ys,a,n=>by
  simp only[dQ,zbF] at a;simp only[cG];by_cases e:x=y
  ·subst e;rw[yIp rfl,yIp rfl];exact zY xs ys a.2 λe=>n (by rw[e])
  ·rw[yIn e,yIn (Ne.symm e)];exact yf x y a.1 e
end
noncomputable def R7(S:List yam)(i:∀x∈S,∀y∈S,bO x y=true):Srt.Ord {x // x∈S} where
 lt:=λa b=>fH a.1 b.1
 Se:=λa=>E5 a.1
 tr:=λa b c h g=>E4 _ _ _ (i _ a.2 _ b.2) (i _ b.2 _ c.2) (i _ a.2 _ c.2) h g
 nt:=λa b c h=>by
  by_cases e:a.1=b.1
  ·exact .inr (by rw[<-e];exact h)
  ·rcases yf _ _ (i _ a.2 _ b.2) e with z|z
   ·exact .inl z
   ·exact .inr (E4 _ _ _ (i _ b.2 _ a.2) (i _ a.2 _ c.2) (i _ b.2 _ c.2) z h)
theorem Hr{o:List (yam×Addr)}{p:Array Nat}{q:yam×Addr}(hok:∀k∈o,bG k.1=true)(Z:∀k∈o,∀l∈o,bO k.1 l.1=true)(I:p.Perm (zcM n).toArray)(L:n=o.length)(U:2<=n->p=Srt.run (λi j=>fH (o.getD i q).1 (o.getD j q).1) (W.kas_sort n)):
  (p.toList.map λi=>o.getD i q).Pairwise (λx y=>fH y.1 x.1=false):=by
 have Q:p.size=n:=by have:=I.size_eq;simpa using this
 rw[zah];intro i j t v Y;have E:i<p.size:=by simpa using t
 have u:j<p.size:=by simpa using v
 have h2:2<=n:=by lia
 have C:∀i∈p.toList,i<o.length:=λi t=>by
  have:=(Array.perm_iff_toList_perm.mp I).mem_iff.mp t;rw[<-L];simpa using this
 cases o with
 |nil=>simp at L;lia
 |cons m rest=>
  generalize P:(m::rest).map (·.1)=S;have F:∀x∈S,∀y∈S,bO x y=true:=λx s y H=>by
   rw[<-P] at s H;obtain⟨a,a1,rfl⟩:=zcu.mp s;obtain⟨b,b1,rfl⟩:=zcu.mp H;exact Z a a1 b b1
  have X:∀i,((m::rest).getD i m).1∈S:=λi=>by
   rw[<-P];refine zcu.mpr ⟨_,?_,rfl⟩;by_cases h:i<(m::rest).length
   ·rw[zcQ,zak h];exact zby h
   ·rw[zcQ,zat (by lia)];simp
  obtain⟨G,e1,e2,e3⟩:=Srt.HA (O:=R7 S F) (k:=λi=>⟨((m::rest).getD i m).1,X i⟩) (n:=n) (by lia);have eq:Srt.run (λi j=>fH ((m::rest).getD i q).1 ((m::rest).getD j q).1) (W.kas_sort n)=G:=by
   rw[<-e1];refine run_eq (um (n:=n) (by lia)) λi j t v=>?_;have d:∀i,i<n->(m::rest).getD i q=(m::rest).getD i m:=λi t=>by
    have:i<(m::rest).length:=by lia
    rw[zcQ,zcQ,zak this];rfl
   show _=fH ((m::rest).getD i m).1 ((m::rest).getD j m).1;rw[d i t,d j v]
  obtain rfl:p=G:=(U h2).trans eq;have:=e3 i j (by lia) (by lia);have this:fH ((m::rest).getD (p.getD j 0) m).1 ((m::rest).getD (p.getD i 0) m).1=false:=this;have g:∀x (s:x<p.size),(m::rest).getD (p.getD x 0) m=(m::rest).getD p[x] q:=λx s=>by
   have e:p.getD x 0=p[x]:=by simp[zcO,s]
   rw[e];have:p[x]<(m::rest).length:=C _ (Array.getElem_mem_toList s);rw[zcQ,zcQ,zak this];rfl
  rw[g i E,g j u] at this;rw[zbz,zbz,Array.getElem_toList,Array.getElem_toList];exact this
def GY(b:Bool)(h:Heap)(k:yam×Addr):Prop:=isKey h k.1 k.2/\∃p r,Fs b p/\k.1=.tuple (p::r)
def yT(h:Heap)(k:yam×Addr):Prop:=isKey h k.1 k.2/\∃p r,k.1=.tuple (.int p::r)
theorem yT.g{k:yam×Addr}(i:yT h k):GY false h k:=by obtain⟨a,p,r,e⟩:=i;exact⟨a,_,r,.inl ⟨rfl,p,rfl⟩,e⟩
noncomputable def tyB(b:Bool):String:=if b then "str" else "int"
theorem Qu{z:yam}{v:yai}{as:List Addr}(f:Fs b z)(g:Reads h v z as)(s:yah):s.TypeIs v (tyB b):=by
 rcases f with⟨rfl,p,rfl⟩|⟨rfl,p,rfl⟩
 ·cases g;exact typeIs_int s _ _
 ·cases g;exact typeIs_str s _ _
theorem u6{b:Bool}{h:Heap}:∀{ks:List (yam×Addr)},(∀k∈ks,GY b h k)->∃fs,W.KatTups h (ks.map λk=>.ref k.2) fs/\fs.length=ks.length/\∀f∈fs,∀s:yah,s.TypeIs f (tyB b)
 |[],_=>⟨[],.nil,rfl,by simp⟩
 |(d,a)::ks,hk=>by
  obtain⟨fs,h1,h2,u⟩:=u6 λk n=>hk k (zay _ n);obtain⟨⟨k1,x,y,q⟩,p,r,t,e⟩:=hk (d,a) (by simp);have e:d=.tuple (p::r):=e;subst e;cases q with
  |@tuple _ o vs m _ _ ho hc hdat hall=>
   generalize j:vs.toList=l at hall;cases hall with
   |@cons v l' _ _ a1 b1 g1 t1=>
    refine⟨v::fs,.cons ho hc hdat ?_ h1,by simp[h2],λf i=>?_⟩
    ·rw[<-zaw,j];rfl
    ·rcases zch.mp i with rfl|i
     ·exact Qu t g1
     ·exact u f i
theorem JT(O:∀k∈ks,GY b s.heap k)(Y:∀k∈ks,∀l∈ks,bO k.1 l.1=true)(U:A.units+6<cLine)(i j:Nat)(C:Bool->yah->Prop)(hi:i<ks.length)(E:j<ks.length)(h:C (fH ks[i].1 ks[j].1) s):
  W.kas_ask prog w A (tuples' true) (ks.map λk=>.ref k.2) i j C s:=by
 have I:=O ks[i] (zby hi);have H:=O ks[j] (zby E);have a:=Y ks[i] (zby hi) ks[j] (zby E);have e:∀n (L:n<ks.length),(ks.map λk=>Value.ref k.2).getD n Value.none=.ref ks[n].2:=λn L=>by simp[zcQ,L]
 unfold W.kas_ask;rw[e i hi,e j E];generalize ks[i]=x at I a h;generalize ks[j]=y at H a h;obtain⟨⟨k1,v,as,X⟩,p,r,f1,G⟩:=I;obtain⟨⟨S,u,bs,Z⟩,q,t,f2,F⟩:=H;obtain⟨dx,ax⟩:=x;obtain⟨dy,ay⟩:=y;have G:dx=.tuple (p::r):=G;have F:dy=.tuple (q::t):=F;subst G;subst F;have v:(PyData.tuple (p::r)).depth<=6:=v;have u:(PyData.tuple (q::t)).depth<=6:=u;rw[bw] at v u;cases X with
 |@tuple _ o us m _ _ ho hcl hdat hall=>
  cases Z with
  |@tuple _ o2 vs m2 _ _ ho2 hcl2 hdat2 hall2=>
   have Q:=fQ hall;have P:=fQ hall2;rw[zaJ] at Q P;exact W.kat_lt ho hdat ho2 hdat2 (uZ _ _ 0 (λz hz=>by have:=cC hz;lia) (λz hz=>by have:=cC hz;lia) k1 S a hall hall2 U (λ_=>⟨b,f1,f2⟩) (by lia) h)
theorem BR{vs:List yai}{b:Addr}(i:b≠a)(e:h.get? b=some o):(cT h a vs).get? b=some o:=
 zaq _ (zaq _ ((zar _ _ (Ne.symm i)).trans e))
theorem mh{d:Addr}{R:yah->Prop}(hh:A.handled=none)(hk:∀k∈ks,GY b s.heap k)(hc:∀k∈ks,∀l∈ks,bO k.1 l.1=true)(h64:ks.length<64)(hu:A.units+20<cLine)(col:∀{A':yal}{Q':List yai->yah->Prop}{U:yai->yah->Prop},A'.handled=none->(∀s1 (a:List (yam×Addr)),(∀b o,s.heap.get? b=some o->s1.heap.get? b=some o)->R s1->a.Perm ks->Q' (a.map λk=>Value.ref k.2) s1)->yar (model prog w) A' (collect (.ref d)) Q' U s)(h:∀(s1:yah)(h2:Heap)(out:List (yam×Addr))(c:Nat),R s1->(∀b o,s.heap.get? b=some o->s1.heap.get? b=some o)->(∀b o,s1.heap.get? b=some o->h2.get? b=some o)->h2.get? s1.heap.objs.size=some (seqObj "list" (out.map λk=>Value.ref k.2).toArray c)->out.Perm ks->out.Pairwise (λx y=>fH y.1 x.1=false)->Q (.ref s1.heap.objs.size) {s1 with heap:=h2}):
  yar (model prog w) A (call (.builtin "sorted") [.ref d]) Q E s:=by
 refine zaj kind_sorted plain_sorted entry_sorted (args_sorted1 _) ?_;unfold Builtin.«sorted»;refine yaa (m:=checkCount "sorted" 1 1 _) (yab ?_);refine yaa (col ?_ λs1 a kp hR n=>?_)
 ·exact hh
 have hol:a.length=ks.length:=n.length_eq;generalize t:(a.map λk=>Value.ref k.2)=vs;have H:vs.length=a.length:=by rw[<-t,zbJ]
 refine yaa (wpAny_newList ?_ (by first|(rw[yaf];lia)|(rw[zaY,yaf];lia)));have S:(s1.heap.push (seqObj "list" vs.toArray 0)).get? s1.heap.objs.size=some (seqObj "list" vs.toArray 0):=zaK _ rfl;have F:∀k∈a,GY b (cT (s1.heap.push (seqObj "list" vs.toArray 0)) s1.heap.objs.size vs) k:=λk u=>by
  obtain⟨⟨k1,k2,as,hr⟩,r⟩:=hk k (n.mem_iff.mp u);exact⟨⟨k1,k2,as,qx S (λz=>by injection z with z;exact absurd z (by decide)) (λc o Z e=>BR Z e) _ k1 (Reads.keeps (λb o e=>zaq _ (kp b o e)) hr)⟩,r⟩
 have O:∀k∈a,∀l∈a,bO k.1 l.1=true:=λk h1 l h2=>hc k (n.mem_iff.mp h1) l (n.mem_iff.mp h2);generalize ab:(PyData.none,(0:Addr))=df;have key:∀(A':yal),A'.units+8<cLine->∀{P:PySem.Fin->yah->Prop}{U:yai->yah->Prop},(∀p:Array Nat,p.Perm (zcM vs.length).toArray->(2<=vs.length->p=Srt.run (λi j=>fH (a.getD i df).1 (a.getD j df).1) (W.kas_sort vs.length))->P (.done (.ret .none)) {s1 with heap:=sortedHeap (s1.heap.push (seqObj "list" vs.toArray 0)) s1.heap.objs.size vs (p.toList.map λi=>vs.getD i Value.none).toArray})->
   yar (model prog w) A' (Builtin.«list.sort» ⟨[.ref s1.heap.objs.size],[]⟩) P U {s1 with heap:=s1.heap.push (seqObj "list" vs.toArray 0)}:=λA' hA P U hP=>by
  refine yg (s:={s1 with heap:=s1.heap.push (seqObj "list" vs.toArray 0)}) _ S (by lia) (λh2=>⟨tuples' true,λQ' hQ'=>?_,?_⟩) hP
  ·obtain⟨fs,f1,f2,f3⟩:=u6 F;rw[t] at f1;cases b<;>exact W.kat_kind (T:=.type (tyB _)) f1 (by lia) (λv hv A2 Q2 E2 s2 _ q=>wpAny_typeOf (f3 v hv s2) q) (by decide) hQ'
  ·intro i j C G hj hC;have e:∀i (G:i<a.length),a.getD i df=a[i]:=λi G=>by simp[zcQ,G]
   rw[e i (by lia),e j (by lia)] at hC;have:=JT (prog:=prog) (w:=w) (A:=A') (s:={s1 with heap:=cT (s1.heap.push (seqObj "list" vs.toArray 0)) s1.heap.objs.size vs}) F O (by lia) i j C (by lia) (by lia) hC;rw[t] at this;exact this
 refine yaa (yad (wpAny_call_entry slot_list_sort ⟨_,S,rfl⟩ entry_list_sort (key _ ?_ λp hp I=>⟨_,rfl,?_⟩) (args_list_sort _)))
 ·show A.units+1+1+8<cLine;lia
 ·obtain⟨c,Y⟩:=sortedHeap_at (out:=(p.toList.map λi=>vs.getD i Value.none).toArray) S;have L:p.toList.Perm (zcM a.length):=by have:=Array.perm_iff_toList_perm.mp hp;rw[H] at this;simpa using this
  have X:∀i∈p.toList,i<a.length:=λi G=>zca.mp (L.mem_iff.mp G);have eo:(p.toList.map λi=>vs.getD i Value.none)=(p.toList.map λi=>a.getD i df).map λk=>Value.ref k.2:=by
   rw[zct];refine zaF λi G=>?_;have:=X i G;rw[<-t];simp[zcQ,this]
  refine yab ⟨_,rfl,h s1 _ (p.toList.map λi=>a.getD i df) c hR kp (λb o e=>?_) (by rw[<-eo];exact Y) ?_ ?_⟩
  ·have lb:=zcF e;show(sortedHeap _ _ _ _).get? b=some o;rw[sortedHeap_old (zcv lb) (by rw[size_push'];exact zbh lb)];exact zaq _ e
  ·refine(L.map _).trans ?_;have:(zcM a.length).map (λi=>a.getD i df)=a:=by
    refine zbx (by simp) λi h1 h2=>?_;simp[zcQ,zak h2]
   rw[this];exact n
  ·exact Hr (λk u=>(F k u).1.1) O hp H I
end M6
namespace L2
open PySem PySem.Spec PyProof.Rows M6
def mV(W:yak)(a:Addr)(e:List (yam×Addr)):Heap->Prop:=λh=>(a==yas)=false/\∃o i j,h.get? a=some o/\o.ExactDict/\o.data=Data.dict i j/\
 i.toList=e.map (λx=>({hash:=bu W x.1,key:=.ref x.2,val:=.bool true}:yav))/\(e.map (·.1)).Nodup
theorem mV.at{W:yak}{i:List (yam×Addr)}(x:mV W a i h)(e:∀o,h.get? a=some o->h'.get? a=some o):mV W a i h':=by
 obtain⟨z,o,j,l,h1,r⟩:=x;exact⟨z,o,j,l,e o h1,r⟩
theorem mV.ok{W:yak}{i:List (yam×Addr)}(x:mV W a i h):bq P w H h a (.ext (mV W a i)):=by
 obtain⟨z,o,j,l,h1,r⟩:=id x;exact⟨x,⟨o,h1⟩,λh1 h2 y e=>y.at e⟩
theorem nB{W:yak}{b:Addr}{l:List (yam×Addr)}(x:bq P w H h a (.ext (mV W b l))):b=a:=by
 obtain⟨y,⟨o,e⟩,m⟩:=x;apply Classical.byContradiction;intro i;obtain⟨z,v,I,L,h1,h2,G,r⟩:=id y;have s:(h.update b λ_=>{cls:=.none}).get? a=some o:=(zar _ _ i).trans e;have q:(h.update b λ_=>{cls:=.none}).get? b=some {cls:=.none}:=zax (λ_=>{cls:=.none}) h1 rfl;obtain⟨_,C,t,u,k1,F,n,_⟩:=m h (h.update b λ_=>{cls:=.none}) y λE j=>by rw[e] at j;cases j;exact s
 rw[q] at k1;cases k1;cases n
noncomputable def xQ(a:List (yam×Addr))(d:yam)(b:Addr):List (yam×Addr):=if(a.any λx=>decide (x.1=d))=true then a else a++[(d,b)]
theorem uG(a:List (yam×Addr))(d:yam)(b:Addr):storedH (a.map λx=>(x.1,x.2,Value.bool true)) d b (.bool true)=(xQ a d b).map λx=>(x.1,x.2,Value.bool true):=by
 have e:(atKey (a.map λx=>(x.1,x.2,Value.bool true)) d).isSome=(a.any λx=>decide (x.1=d)):=by
  unfold atKey;rw[zbo]
  induction a with
  |nil=>rfl
  |cons x a ih=>
   rw[zci,zbN,zcj];by_cases h:x.1=d
   ·simp[h]
   ·simp only[h,decide_false,Bool.false_or];exact ih
 unfold storedH xQ;rw[e];by_cases h:(a.any λx=>decide (x.1=d))=true
 ·rw[yIp h,yIp h,zct];refine zaF λx _=>?_;simp only[Function.comp,putAt];split<;>rfl
 ·rw[yIn h,yIn h,zbS];rfl
section
variable {σ:St}
def rE(K:yaI)(H:Hp)(a:List (yam×Addr)):Prop:=∀x∈a,bG x.1=true/\x.1.depth<=6/\cO K H x.1 (.ref x.2)
theorem Inv.key(I:Inv X pins σ H s){d:yam}{b:Addr}(h1:bG d=true)(h2:d.depth<=6)(a:cO X.K H d (.ref b)):isKey s.heap d b:=
 ⟨h1,h2,I.reads d (.ref b) (.ref b) a rfl⟩
theorem BK{b:Addr}{i:List (yam×Addr)}{d:yam}{Q:Unit->yah->Prop}(hu:A.units+20<cLine)(I:Inv X pins σ H s)(e:H a=some (.ext (mV X.w a i)))(hk:rE X.K H i)(h1:bG d=true)(h2:d.depth<=6)(h3:cO X.K H d (.ref b))(hl:i.length<1000)(h:∀s',Inv X pins σ (upd H a (.ext (mV X.w a (xQ i d b)))) s'->Q () s'):yar (model X.prog X.w) A (setItem (.ref a) (.ref b) (.bool true)) Q E s:=by
 obtain⟨⟨z,o,es,ep,Y,U,hd,m,Z⟩,_,_⟩:=(show bq X.prog X.w H s.heap a (.ext (mV X.w a i)) from I.hok a _ e)
 have dd:Heap.DictOfH (e7 X.prog X.w) s.heap a (i.map λx=>(x.1,x.2,Value.bool true)):=by
  refine⟨o,es,ep,Y,U,hd,?_,λx l=>?_,?_⟩
  ·rw[m,zct];rfl
  ·obtain⟨y,S,rfl⟩:=zcu.mp l;obtain⟨k1,P,O⟩:=hk y S;exact I.key k1 P O
  ·rw[zct];exact Z
 refine wpAny_setItem_heap (knd:=e7 X.prog X.w) (hsz:=by rw[zbJ,yaf];lia) (show A.units+1+10<cLine by lia) (I.key h1 h2 h3) dd λh' j W=>h _ ?_;rw[uG] at j;obtain⟨q,n,t,v,G,F,C,_,u⟩:=j;have L:mV X.w a (xQ i d b) h':=⟨z,q,n,t,v,G,F,by rw[C,zct];rfl,by rw[zct] at u;exact u⟩
 exact sX I (by rw[e];exact True.intro) W ⟨q,v⟩ L.ok
end
def C8(W:yak):TE:=λ_ H Q=>∀p,H p=none->Q (.ref p) (upd H p (.ext (mV W p [])))
def KA(K:yaI)(W:yak)(m ty l:TE):TS:=λD e H=>l e H λv o=>m e o λx n=>ty e n λy i=>∃(a j b:Addr)(h:List (yam×Addr))(d:yam),v=.bl true/\x=.ref a/\y=.ref b/\i a=some (.ext (mV W j h))/\
 rE K i h/\bG d=true/\d.depth<=6/\cO K i d (.ref b)/\h.length<1000/\(j=a->D.nx e (upd i a (.ext (mV W a (xQ h d b)))))
theorem fL{α:Type}(f:α->Addr):∀l:List α,Vals (l.map λx=>V.ref (f x)) (l.map λx=>Value.ref (f x))
 |[]=>.nil
 |x::l=>.cons rfl (fL f l)
section
variable {o i:Expr}{td ty tv:TE}
theorem iB:PE X (.Dict [] [] pos) (C8 X.w):=λe s j H Q I h=>
 wpAny_Dict_empty ⟨.ref s.heap.objs.size,_,I.laid (a:=s.heap.objs.size) (o:=.ext (mV X.w s.heap.objs.size [])) (t':=s.toks) (λ_ _ q=>zaq _ q) (zcI _) (mV.ok ⟨beq_eq_false_iff_ne.mpr (Ne.symm (zcv I.big)),_,#[],0,zaK _ rfl,⟨rfl,rfl,rfl⟩,rfl,rfl,List.nodup_nil⟩),rfl,h _ (I.hok.fresh (zcI _))⟩
theorem jb(hu:X.A.units+20<cLine)(ho:PE X o td)(hi:PE X i ty)(hv:PE X value tv)(hs:yat value (some (.Subscript o i pos')) pos.line X.env=pure false):
  PS X (.Assign [.Subscript o i pos'] value pos) (KA X.K X.w td ty tv):=by
 intro j s l H D I h;refine wpAny_Assign_Subscript (bQ (hv j s l H _ I h) λr G q=>?_) hs;obtain⟨v,H1,I1,P,Q⟩:=q;refine bQ (ho j G l H1 _ I1 Q) λu F n=>?_;obtain⟨x,H2,I2,O,q2⟩:=n;refine bQ (hi j F l H2 _ I2 q2) λZ E m=>?_;obtain⟨y,H3,t,L,a,a',b,C,d,ev,ex,ey,e,k1,Y,W,U,S,q3⟩:=m;subst ev ex ey;obtain rfl:u=Value.ref a:=O;obtain rfl:Z=Value.ref b:=L;obtain rfl:r=Value.bool true:=P;obtain rfl:=nB (show bq X.prog X.w H3 E.heap a (.ext (mV X.w a' C)) from t.hok a _ e);exact BK hu t e k1 Y W U S λs4 I4=>⟨l,_,I4,q3 rfl⟩
end
end L2
namespace M6
open PySem PySem.Spec PyProof.Rows
theorem u9{es:Array yav}{h:Array yai}(a:ItemsOf (λi v=>∃e,es[i]? =some e/\v=e.key) h es.size):h.toList=es.toList.map (·.key):=by
 refine List.ext_getElem? λi=>?_;rw[zaw,zba,zaw];cases z:h[i]? with
 |some v=>
  obtain⟨e,j,rfl⟩:=a.2 i v z;rw[j];rfl
 |none=>
  have:es.size<=i:=by rw[<-a.1];exact zac.mp z
  rw[zap this];rfl
theorem ug{d:Addr}{es:Array yav}{ns:List Int}(t:A.handled=none)(lo:(d==yas)=false)(u:jo s.heap d es ep)(i:IntsAre (es.toList.map (·.key)) ns)(v:es.size<64)(h:∀(h1 h2:Heap)(tk:Nat)(out:List yai)(a:List Int)(c:Nat),(∀b o,s.heap.get? b=some o->h1.get? b=some o)->(∀b o,h1.get? b=some o->h2.get? b=some o)->h2.get? h1.objs.size=some (seqObj "list" out.toArray c)->IntsAre out a->a.Perm ns->a.Pairwise (· <=·)->Q (.ref h1.objs.size) {s with heap:=h2,toks:=tk}):
  yar (model prog w) A (call (.builtin "sorted") [.ref d]) Q E s:=by
 refine zaj kind_sorted plain_sorted entry_sorted (args_sorted1 _) ?_;unfold Builtin.«sorted»;refine yaa (m:=checkCount "sorted" 1 1 _) (yab ?_);refine yaa (vF lo ?_ u (by rw[yaf];lia) λh1 tk kp=>?_)
 ·exact t
 have j:(es.toList.map (·.key)).length=es.size:=by rw[zbJ,zaJ]
 generalize (es.toList.map (·.key))=vs at i j;refine yaa (wpAny_newList ?_ (by first|(rw[yaf];lia)|(rw[zaY,yaf];lia)));have n:(h1.push (seqObj "list" vs.toArray 0)).get? h1.objs.size=some (seqObj "list" vs.toArray 0):=zaK _ rfl;refine yaa (yad (wpAny_call_entry slot_list_sort ⟨_,n,rfl⟩ entry_list_sort (list_sort_tree n i (by lia) λout a C y x=>⟨_,rfl,?_⟩) (args_list_sort _)));obtain⟨c,l⟩:=sortedHeap_at (out:=out) n;refine yab ⟨_,rfl,h h1 _ tk out.toList a c kp (λb o e=>?_) (by rw[zaC];exact l) C y x⟩;have q:=zcF e;show(sortedHeap _ _ _ _).get? b=some o;rw[sortedHeap_old (zcv q) (by rw[size_push'];exact zbh q)];exact zaq _ e
end M6
namespace L2
open PySem PySem.Spec PyProof.Rows M6
theorem Nj{k:Key}(h:oW k u=true):RelV (kV k) u:=by
 rcases bJ h with⟨i,t,rfl,rfl⟩|⟨x,t,rfl,rfl⟩
 ·exact⟨t,rfl⟩
 ·exact⟨t,rfl⟩
theorem u7{prog:yaj}{w:yak}:∀{kvs:List (Key×V)}{vs:List (Key×yai)}{es:List yav},KV kvs vs->Pairs (bN prog w) es vs->Vals (kvs.map λp=>kV p.1) (es.map (·.key))
 |[],_,es,h1,h2=>by cases h1;cases h2;exact .nil
 |p::kvs,_,es,h1,h2=>by
  cases h1 with
  |cons r t=>
   cases h2 with
   |cons g1 g2 g3=>
    refine .cons ?_ (u7 t g3);show RelV (kV p.1) _;rw[r.1];exact Nj g1
theorem vd:∀{ns:List Int}{us:List yai},Vals (ns.map V.int) us->IntsAre us ns
 |[],us,h=>by cases h;exact .nil
 |n::ns,us,h=>by
  cases h with
  |cons r t=>
   obtain⟨tk,rfl⟩:=r;exact .cons n tk (vd t)
def Mq:List V->Hp->VK->Prop:=λh H Q=>∃(a:Addr)(e:List (Key×V)),h=[.ref a]/\H a=some (.dK e)/\∀p,H p=none->Q (.ref p) (upd H p (.lst (e.map λx=>kV x.1)))
def Mn:List V->Hp->VK->Prop:=λi H Q=>∃(a:Addr)(h:List (Key×V))(ns:List Int),i=[.ref a]/\H a=some (.dK h)/\(h.map λx=>kV x.1)=ns.map V.int/\ns.length<64/\∀p (e:List Int),H p=none->e.Perm ns->e.Pairwise (· <=·)->Q (.ref p) (upd H p (.lst (e.map V.int)))
def Mr(h:Bool):R2:=λy x H Q=>∃a e k,x=.ref a/\y=kV k/\H a=some (.dK e)/\Q (.bl (h != (ir e k).isSome)) H
theorem xN{j:St}{kvs:List (Key×V)}(I:Inv X pins j H s)(e:H a=some (.dK kvs)):(a==yas)=false/\kvs.length<=yag/\∃es ep,jo s.heap a es ep/\Vals (kvs.map λx=>kV x.1) (es.toList.map (·.key)):=by
 obtain⟨z,hd,vs,i,o,es,ep,n,l,h,t,m,q⟩:=K3 I.hok e;exact⟨hd,z,es,ep,⟨o,n,l,h⟩,u7 i m⟩
theorem yz{k:Nat}(v:aX k X.A):b7 X (.type "list") Mq:=by
 intro m s F H G L Q I r h;obtain⟨a,i,rfl,e,q⟩:=h;obtain⟨u,rfl,ru⟩:=vals1 r;cases ru;obtain⟨lo,hz,t,P,C,n⟩:=xN I e;have y:t.size=i.length:=by have:=n.length;simpa using this.symm
 refine W.kdl_call (Lz lo) v.hd C (by rw[y];exact hz) λO tk l c kp g j=>?_;have E:l.toList=t.toList.map (·.key):=u9 j;refine⟨.ref s.heap.objs.size,_,I.laid (a:=s.heap.objs.size) (t':=tk) (o:=.lst (i.map λx=>kV x.1)) kp (zcI _) ⟨by rw[zbJ];exact hz,l.toList,c,by rw[E];exact n,by rw[zaC];exact g⟩,rfl,q _ (I.hok.fresh (zcI _))⟩
theorem yx{k:Nat}(E:aX k X.A):b7 X (.builtin "sorted") Mn:=by
 intro i s y H S U Q I r h;obtain⟨a,C,ns,rfl,e,F,t,q⟩:=h;obtain⟨u,rfl,ru⟩:=vals1 r;cases ru;obtain⟨lo,hz,L,Y,G,n⟩:=xN I e;rw[F] at n;have W:L.size=ns.length:=by have:=n.length;simpa using this.symm
 refine ug E.hd lo G (vd n) (by lia) λh1 h2 tk out j c m l g P v O=>?_;have x:Inv X i y H {s with heap:=h1,toks:=tk}:=I.kept (t':=tk) m;refine⟨.ref h1.objs.size,_,x.laid (a:=h1.objs.size) (t':=tk) (o:=.lst (j.map V.int)) l (zcI _) ⟨by rw[zbJ,v.length_eq,yaf];lia,out,c,lA P,g⟩,rfl,q _ j (x.hok.fresh (zcI _)) v O⟩
theorem MJ(n:X.A.units+1<cLine):fE X (yan .In) (Mr false):=by
 intro j s t H y x v u Q I l m h;obtain⟨a,i,k,rfl,rfl,e,q⟩:=h;obtain rfl:u=Value.ref a:=m;exact Sm n I (qh.k e) l λC o=>⟨.bl (ir i k).isSome,H,o,rfl,by simpa using q⟩
theorem BD(n:X.A.units+1<cLine):fE X (yan .NotIn) (Mr true):=by
 intro j s t H y x v u Q I l m h;obtain⟨a,i,k,rfl,rfl,e,q⟩:=h;obtain rfl:u=Value.ref a:=m;exact Jt n I (qh.k e) l λC o=>⟨.bl (!(ir i k).isSome),H,o,rfl,by simpa using q⟩
end L2
namespace M6
open PySem PySem.Spec PyProof.Rows
theorem BQ:typeLookup (.type "list") (Str.ofString "keys")=pure none:=by rw[typeLookup_type];kernel_rfl
theorem BX{n:Array yai}{k:Nat}{Q:Option yai->yah->Prop}(m:s.heap.get? a=some {cls:=.type "list",data:=.seq n k})(H:A.handled=none)(h:∀(h':Heap)(tk:Nat),(∀b o,s.heap.get? b=some o->h'.get? b=some o)->Q none {s with heap:=h',toks:=tk}):yar (model prog w) A (getAttr? (.ref a) (Str.ofString "keys")) Q E s:=by
 have v:=sub_AttributeError;have S:=PySem.F.slot_list_getattribute.lookup;have P:=PySem.F.slot_list_getattribute.bind (Value.ref a);have L:=am_list_getattr_none;have I:=BQ;obtain⟨q,g,d,tk,os⟩:=s;dsimp only at h m⊢;have O:Shared.TypeIs ⟨q,g,d,tk,os⟩ (.ref a) "list":=⟨_,m,rfl⟩
 unfold getAttr? getAttrBy? getAttrBy getAttrByItsOwn callGetattribute boundAndCalled;generalize G:@PySem.call=C
 wp_walk
 subst G;refine call_meets PySem.F.slot_list_getattribute (s:=⟨q,g,d,tk+1,os⟩) ⟨_,m,rfl⟩ am_entry_list_getattribute (PySem.F.args_list_getattribute_2 (Value.ref a) (Value.str (Str.ofString "keys") tk)) (meets_getattribute_miss_list a n k #[] (Str.ofString "keys") tk I (by decide+kernel)) ⟨m,H,λh' i e j=>?_⟩;obtain⟨t,u,y⟩:=j.there;have l:Shared.TypeIs ⟨h',g,d,i,os⟩ (.ref e) "AttributeError":=⟨_,y,rfl⟩
 have x:=j.keeps;show yar (model prog w) A (getattributeRaised (Value.ref a) (Value.str (Str.ofString "keys") tk) (Value.type "list") (.ref e) none false false) _ _ _;unfold getattributeRaised;refine yaa (wpAny_isInstance l v ?_);rw[yIp rfl];refine yaa (wpAny_of_eq L ?_);show yar (model prog w) A (do let _ <-throw (Value.ref e);_) _ _ _;refine yaa (wpAny_throw ?_);show yar (model prog w) A (do
       let __do_lift <-isInstance (Value.ref e) (Value.type "AttributeError")
       if __do_lift=true then pure none else throw (Value.ref e)) Q E _
 refine yaa (wpAny_isInstance l v ?_);rw[yIp rfl];exact yab (h h' i x)
theorem qP:entryFor table "dict.update.loop"=some Builtin.«dict.update.loop»:=entryFor_of_tree (by kernel_rfl)
theorem jc:plainId "dict.update.loop"=true:=by decide+kernel
noncomputable def bU{K:Type}[DecidableEq K](ps:List (K×yai)):List (K×yai):=ps.foldl (λa p=>stored a p.1 p.2) []
section
variable {K:Type}[DecidableEq K]{knd:KeyKind prog w K}
def jL(knd:KeyKind prog w K)(h:Heap)(v:yai)(p:K×yai):Prop:=∃t a o n,v=.ref t/\h.get? t=some o/\o.cls=.type "tuple"/\o.data=.seq #[a,p.2] n/\knd.is p.1 a=true
theorem jL.at{v:yai}{p:K×yai}(x:jL knd h v p)(e:∀b o,o.cls=.type "tuple"->h.get? b=some o->h'.get? b=some o):jL knd h' v p:=by
 obtain⟨t,i,o,n,h1,h2,a,j⟩:=x;exact⟨t,i,o,n,h1,e t o a h2,a,j⟩
theorem nC{d:Addr}{kvs:List (K×yai)}(x:Heap.DictOf knd h d kvs)(e:∀o,h.get? d=some o->h'.get? d=some o):Heap.DictOf knd h' d kvs:=by
 obtain⟨o,a,i,h1,r⟩:=x;exact⟨o,a,i,e o h1,r⟩
theorem wV(kvs:List (K×yai))(k:K)(v:yai):(stored kvs k v).length<=kvs.length+1:=by
 unfold stored;split
 ·rw[zbJ];lia
 ·rw[zaM];exact zcI _
theorem nS(ps:List (K×yai))(p:K×yai):bU (ps++[p])=stored (bU ps) p.1 p.2:=by
 unfold bU;rw[List.foldl_append];rfl
theorem pY(ps:List (K×yai)):(bU ps).length<=ps.length:=by
 have:∀(l e:List (K×yai)),(l.foldl (λe p=>stored e p.1 p.2) e).length<=e.length+l.length:=by
  intro l
  induction l with
  |nil=>intro e;simp
  |cons a r ih=>intro e;rw[zbQ,zbq];have:=ih (stored e a.1 a.2);have:=wV e a.1 a.2;lia
 have:=this ps [];simpa[bU] using this
theorem BU{d:Addr}{ps:List (K×yai)}{R:Result->yah->Prop}{St:Nat->Heap->Prop}(W:Walks prog w A.in1 I [I,l] [I] its.size (λi v=>its[i]? =some v) St)(hSt:∀i h,St i h->∀o,h.get? I=some o->o.cls≠ .type "tuple")(u:d≠I)(Y:d≠l)(G:its.size=ps.length)(hn:ps.length<=1000):
  ∀(k i:Nat)(s:yah),its.size - i=k->i<=its.size->St i s.heap->Heap.DictOf knd s.heap d (bU (ps.take i))->(∀(i:Nat)(v:yai)(p:K×yai),its[i]? =some v->ps[i]? =some p->jL knd s.heap v p)->
   (∀(h':Heap)(tk:Nat),Heap.DictOf knd h' d (bU ps)->(∀b o,b≠d->b≠I->s.heap.get? b=some o->h'.get? b=some o)->R (.ok (.ret .none)) {s with heap:=h',toks:=tk})->
   codeAny (model prog w) A (.builtin "dict.update.loop" ⟨[.ref d,.ref I,rawInt i,.none],[]⟩) R s:=by
 intro k
 induction k with
 |zero=>
  intro i s hk hi a P hp hR;obtain rfl:i=its.size:=by lia
  refine codeAny_builtin qP ?_;rw[Around.under_plainId jc _];show yar _ A.in1 (pyNext (.ref I) >>= _) _ _ s;refine yaa (W.done s _ _ a λh' tk x=>?_);rw[G,zbv] at P;refine yaa (yab ?_);exact yab (hR h' tk (nC P λo e=>x d o (by simpa using u) e) λb o h1 h2 e=>x b o (by simpa using h2) e)
 |succ k ih=>
  intro i s hk hi a P hp hR;have F:i<its.size:=by lia
  refine codeAny_builtin qP ?_;rw[Around.under_plainId jc _];show yar _ A.in1 (pyNext (.ref I) >>= _) _ _ s;refine yaa (W.item i s _ _ F a λv h' tk hP y x=>?_);have C:ps[i]? =some ps[i]:=zak (by lia);have E:∀(i:Nat)(v:yai)(p:K×yai),its[i]? =some v->ps[i]? =some p->jL knd h' v p:=λj v p h1 h2=>(hp j v p h1 h2).at λb o q e=>x b o (by
   intro z;simp only[zaO] at z;subst z;exact hSt i _ a o e q) e
  obtain⟨t,ku,o,m,rfl,ho,q,hd,X⟩:=E i v _ hP C;have H:Heap.DictOf knd h' d (bU (ps.take i)):=nC P λo e=>x d o (by simpa using u) e;dsimp only;refine yaa (yad ?_);refine yaa (wpAny_tryCatch ?_);unfold Builtin.Dict.pairItems;refine yaa (wpAny_typeOf (T:="tuple") ⟨o,ho,q⟩ ?_);rw[yIp (by decide)];refine yaa (wpAny_seqItems ho hd (yab ?_));have h2:=pY (ps.take i);rw[zbr] at h2;refine yad (wpAny_dictSet_pairs X H (λn L hs=>?_) (by rw[yaf];lia));have e9:∀b o,b≠d->h'.get? b=some o->n.get? b=some o:=λb o O e=>(hs.2 b O).trans e;refine yab ⟨plainId_quiet jc _,?_⟩;rw[show((i:Int)+1)=((i+1:Nat):Int) by lia];refine ih (i+1) {s with heap:=n,toks:=tk+1} (by lia) F (W.frame _ h' n y λb O o e=>e9 b o ?_ e) ?_ (λj v p h1 h2=>(E j v p h1 h2).at λb o q e=>e9 b o ?_ e) λh3 Q hD3 S=>?_
  ·simp only[zch,zbA,or_false] at O;rcases O with rfl|rfl
   ·exact Ne.symm u
   ·exact Ne.symm Y
  ·rw[List.take_succ,C];show Heap.DictOf knd n d (bU (ps.take i++[ps[i]]));rw[nS];exact L
  ·intro z;subst z;obtain⟨od,_,_,U,Z,_⟩:=H;rw[U] at e;cases e;rw[Z.1] at q;injection q with q;exact absurd q (by decide)
  ·exact hR h3 Q hD3 λb o h1 h2 e=>S b o h1 h2 (e9 b o h1 (x b o (by simpa using h2) e))
theorem yC{ps:List (K×yai)}(U:A.handled=none){c:Nat}(S:s.heap.get? l=some {cls:=.type "list",data:=.seq its c})(x:its.size=ps.length)(X:∀(i:Nat)(v:yai)(p:K×yai),its[i]? =some v->ps[i]? =some p->jL knd s.heap v p)(Z:ps.length<=1000)(h:∀(h':Heap)(tk:Nat),Heap.DictOf knd h' s.heap.objs.size (bU ps)->(∀b o,s.heap.get? b=some o->h'.get? b=some o)->Q (.ref s.heap.objs.size) {s with heap:=h',toks:=tk}):
  yar (model prog w) A (call (.type "dict") [.ref l]) Q E s:=by
 refine callType_codes PySem.F.kt_called_dict (PySem.F.kt_typeCall_dict_1 (.ref l)) PySem.F.entry_dict_init (kt_code_dict_new (.ref l) (Q₁:=λu j=>u=.ref s.heap.objs.size/\j={s with heap:=s.heap.push {cls:=.type "dict",data:=.dict #[]}}) ⟨rfl,rfl⟩) λobj j z=>?_;obtain⟨rfl,rfl⟩:=z;have a:Heap.DictOf knd (s.heap.push {cls:=Value.type "dict",data:=Data.dict #[]}) s.heap.objs.size []:=Heap.DictOf.new s.heap;have n:(s.heap.push {cls:=Value.type "dict",data:=Data.dict #[]}).get? l=some {cls:=.type "list",data:=.seq its c}:=zaq _ S;refine⟨Heap.DictOf.typeIs a,PySem.F.args_dict_init_2 _ _,?_⟩;unfold Builtin.«dict.__init__»;refine yaa (yaa (wpAny_notOrdered_dict (Heap.DictOf.typeIs a) (yab ?_)));show yar _ _ (Builtin.Dict.updateFrom "dict.__init__" s.heap.objs.size (.ref l) [] .none) _ _ _;unfold Builtin.Dict.updateFrom;refine yaa (wpAny_typeOf (T:="list") ⟨_,n,rfl⟩ ?_);rw[yIp (by decide)];refine yaa (BX n U λh1 W m=>?_);rw[yIp (by decide)];refine yaa (wpAny_rule ?_);have y:h1.IsList l its:=⟨_,m _ _ n,rfl,c,rfl⟩
 refine yaa (wpAny_pyIter_list y ?_);have C:Heap.DictOf knd h1 s.heap.objs.size []:=nC a λo e=>m _ _ e;refine yab ⟨plainId_quiet jc _,?_⟩;have G:s.heap.objs.size<h1.objs.size:=by obtain⟨o,_,_,Y,_⟩:=C;exact zcF Y
 have O:l<s.heap.objs.size:=zcF S;have q:∀b o,s.heap.get? b=some o->h1.get? b=some o:=λb o e=>m b o (zaq _ e);refine BU (ps:=ps) (Walks.list (A:=A.in1.in1) U h1.objs.size l (zcv (zcz O G)) its) (λi h z o e=>?_) (zcv G) (zcy O) x Z its.size 0 _ rfl (zcJ _) ?_ ?_ ?_ λh' tk L H=>⟨rfl,h h' tk L λb o e=>?_⟩
 ·obtain⟨o',t,I,_⟩:=z.1;rw[e] at t;cases t;rw[I];intro z;injection z with z;exact absurd z (by decide)
 ·exact⟨⟨_,zaK _ rfl,rfl,rfl⟩,y.at λo e=>zaq _ e⟩
 ·exact nC C λo e=>zaq _ e
 ·exact λi v p h2 h3=>(X i v p h2 h3).at λb o _ e=>zaq _ (q b o e)
 ·have P:=zcF e;exact H b o (zcv P) (zcv (zcz P G)) (zaq _ (q b o e))
end
end M6
namespace L2
open PySem PySem.Spec PyProof.Rows M6
noncomputable def putAll(kvs:List (Key×V)):List (Key×V):=kvs.foldl (λa p=>putK a p.1 p.2) []
theorem oh:∀{kvs:List (Key×V)}{vs:List (Key×yai)},KV kvs vs->∀{a:List (Key×V)}{b:List (Key×yai)},KV a b->KV (kvs.foldl (λe p=>putK e p.1 p.2) a) (vs.foldl (λe p=>stored e p.1 p.2) b)
 |[],_,h,a,b,g=>by cases h;exact g
 |p::kvs,_,h,a,b,g=>by
  cases h with
  |@cons _ q _ vs r t=>
   show KV (kvs.foldl _ (putK a p.1 p.2)) (vs.foldl _ (stored b q.1 q.2));rw[<-r.1];exact oh t (g.put p.1 r.2)
theorem xP(kvs:List (Key×V)):(putAll kvs).length<=kvs.length:=by
 have:∀(l e:List (Key×V)),(l.foldl (λe p=>putK e p.1 p.2) e).length<=e.length+l.length:=by
  intro l
  induction l with
  |nil=>intro e;simp
  |cons a r ih=>intro e;rw[zbQ,zbq];have:=ih (putK e a.1 a.2);have:=iG e a.1 a.2;lia
 have:=this kvs [];simpa[putAll] using this
def Ov(K:yaI)(H:Hp)(ts:List Addr)(kvs:List (Key×V)):Prop:=Paired (λt (p:Key×V)=>dJ K H t [kV p.1,p.2]) ts kvs
def Mt(K:yaI):List V->Hp->VK->Prop:=λi H Q=>∃(a:Addr)(h:List Addr)(e:List (Key×V)),i=[.ref a]/\H a=some (.lst (h.map V.ref))/\Ov K H h e/\e.length<=1000/\∀p,H p=none->Q (.ref p) (upd H p (.dK (putAll e)))
theorem qw:∀{ts:List Addr}{us:List yai},Vals (ts.map V.ref) us->us=ts.map Value.ref
 |[],us,h=>by cases h;rfl
 |t::ts,us,h=>by
  cases h with
  |cons r g=>
   obtain rfl:_=Value.ref t:=r;rw[qw g];rfl
theorem EG{e:List (Addr×Obj)}{m:St}{H:Hp}{s:yah}(I:Inv X e m H s):∀{ts:List Addr}{kvs:List (Key×V)},Ov X.K H ts kvs->∃ps:List (Key×yai),KV kvs ps/\ps.length=ts.length/\∀(i:Nat)(v:yai)(p:Key×yai),(ts.map Value.ref)[i]? =some v->ps[i]? =some p->jL (bN X.prog X.w) s.heap v p
 |[],_,h=>by cases h;exact⟨[],.nil,rfl,λi v p h=>by simp at h⟩
 |t::ts,_,h=>by
  cases h with
  |@cons _ q _ kvs r g=>
   obtain⟨ps,h1,h2,E⟩:=EG I g;obtain⟨x,a,⟨o,y,C,n,hd⟩,_⟩:=I.tuple r;cases a with
   |@cons _ ku _ its' g1 a=>
    cases a with
    |@cons _ u _ its'' g2 a=>
     cases a;refine⟨(q.1,u)::ps,.cons ⟨rfl,g2⟩ h1,by simp[h2],λi v p l j=>?_⟩;cases i with
     |zero=>
      simp only[zci,List.getElem?_cons_zero,zcL.injEq] at l j;subst l;subst j;exact⟨t,ku,o,n,rfl,y,C,hd,qM g1⟩
     |succ i=>
      simp only[zci,zam] at l j;exact E i v p l j
theorem yD{k:Nat}(E:aX k X.A):b7 X (.type "dict") (Mt X.K):=by
 intro m s O H P S Q I r h;obtain⟨a,x,j,rfl,e,F,W,q⟩:=h;obtain⟨u,rfl,ru⟩:=vals1 r;cases ru;obtain⟨hz,its,c,y,g⟩:=(show bq X.prog X.w H s.heap a (.lst (x.map V.ref)) from I.hok a _ e)
 have t:=qw y;obtain⟨ps,n,C,p3⟩:=EG I F;have U:=Paired.length n;refine yC (knd:=bN X.prog X.w) (its:=its.toArray) (ps:=ps) E.hd g (by rw[zaY,t,zbJ];exact C.symm) (λi v p h1 h2=>p3 i v p (by rw[<-t];simpa using h1) h2) (by lia) λG tk L kp=>?_;have l:G.DictOf (bN X.prog X.w) s.heap.objs.size (bU ps):=L;refine⟨.ref s.heap.objs.size,_,I.laid (a:=s.heap.objs.size) (t':=tk) (o:=.dK (putAll j)) kp (zcI _) ⟨by have:=xP j;rw[yaf];lia,beq_eq_false_iff_ne.mpr (Ne.symm (zcv I.big)),_,oh n .nil,l⟩,rfl,q _ (I.hok.fresh (zcI _))⟩
end L2
namespace M
open PySem PySem.Spec PyProof.Rows L2 M6
noncomputable def keyOf:D->Option Key
 |.int i=>some (.inl i)
 |.str x=>some (.inr x)
 |_=>none
noncomputable def kD:Key->D
 |.inl i=>.int i
 |.inr x=>.str x
noncomputable def kB(ks:List Key)(k:Key):Bool:=ks.any λj=>decide (j=k)
theorem rY{w:Wd}{d:D}{k:Key}(h:Rep K w d v)(e:keyOf d=some k):v=kV k:=by
 cases d<;>simp only[keyOf] at e<;>cases e
 ·simpa[Rep,kV] using h
 ·simpa[Rep,kV] using h
theorem HJ{w:Wd}{d:D}{k:Key}(h:Rep K w d v)(e:keyOf (aS S d)=some k):v=kV k:=by
 cases z:aS S d<;>rw[z] at e<;>simp only[keyOf] at e<;>cases e
 ·exact cB h z
 ·exact bM h z
theorem Nk{w:Wd}(k:Key):Rep K w (kD k) (kV k):=by cases k<;>simp[kD,kV,Rep]
theorem z7{w:Wd}:∀(kvs:List (Key×V)),ao K w ((kvs.map (·.1)).map kD) (kvs.map λx=>kV x.1)
 |[]=>.nil
 |p::r=>.cons (Nk p.1) (z7 r)
def tO:AE:=λ_ S Q=>Q (.new (.dct [] [])) S
theorem H9:∀a H Q,aR K tO a H Q->C9 a H Q:=by
 rintro a H Q ⟨w,h,S,i,ok,env,q,bk⟩ p e;exact bk (.new (.dct [] [])) S _ w _ .refl (ok.alloc e) (ok.fresh e ⟨[],rfl,rfl,.nil⟩) q
def e8(a b:AE):AE:=λe S Q=>a e S λm n=>b e n λl j=>∃h i k d,aS j m.d=.dct h i/\keyOf l.d=some k/\kE h i k=some d/\Q (.dat d) j
theorem Ia{a b:AE}:∀m H Q,aR K (e8 a b) m H Q->Ko (aR K a) (aR K b) m H Q:=by
 rintro m H Q ⟨w,s,S,Qa,ok,env,q,bk⟩;refine⟨w,s,S,_,ok,env,q,.go λX L U y H1 l o h C=>?_⟩;refine⟨y,s,L,_,o,env.le l,C,.go λW S2 P O H2 j i e n=>?_⟩;obtain⟨Y,Z,k,d,x,u,t,q2⟩:=n;obtain⟨a,E,rfl,h1,rfl,F⟩:=fq i (h.le j) x;obtain⟨v,I,G⟩:=Ac F t;rw[rY e u];refine⟨a,v,rfl,?_,bk.dat (l.trans j) i G q2⟩;rw[<-I];exact qh.k h1
def pO(a b c:AE):AS:=λD e S=>c e S λl s=>a e s λo q=>b e q λm j=>∃n i h k,o.d=.loc n/\keyOf m.d=some k/\j[n]? =some (some (.dct i h))/\h.length<1000/\D.nx e (j.set n (some (pG i h k l.d)))
theorem HY{a b c:AE}:∀D t H,gJ K (pO a b c) D t H->KD (aR K a) (aR K b) (aR K c) D t H:=by
 rintro D t H ⟨w,u,S,Da,ok,env,q,bk⟩;refine⟨w,u,S,_,ok,env,q,.go λr3 Z v3 Q H1 i C l U=>?_⟩;refine⟨Q,u,Z,_,C,env.le i,U,.go λr1 Y v1 P H2 h y j q2=>?_⟩;refine⟨P,u,Y,_,y,(env.le i).le h,q2,.go λr2 S3 v2 O H3 e o m v=>?_⟩;obtain⟨n,ks,X,k,L,I,F,hl,q3⟩:=v;rw[L] at j;obtain⟨a,E,rfl,W,h1,rfl,G⟩:=NB o (j.le e) F;rw[rY m I];have s:E.length=X.length:=by have:=G.length;rw[zbJ] at this;exact this
 refine⟨a,_,rfl,G2.k h1 (by rw[s,yaf];lia),?_⟩;have x:=o.put F W (uF (k:=k) (l.le (h.trans e)) G);exact bk.nx u _ t O _ ((i.trans h).trans e) x (((env.le i).le h).le e) q3
def yO(a:Bool):A2:=λx y S Q=>match aS S y with
 |.dct ks _=>∃k,keyOf (aS S x)=some k/\Q (.dat (.bl (a != kB ks k))) S
 |_=>False
theorem K5:∀x y H Q,vB K (yO neg) x y H Q->Mr neg x y H Q:=by
 intro x y H Q h;obtain⟨w,d,e,S,s,ok,m,l,q,bk⟩:=h;unfold yO at q;cases z:aS S e<;>rw[z] at q<;>first|exact q.elim|skip
 obtain⟨k,j,q⟩:=q;obtain⟨a,i,rfl,h1,rfl,o⟩:=fq ok l z;refine⟨a,i,k,rfl,HJ m j,h1,bk.dat .refl ok .bl ?_⟩;have n:kB (i.map (·.1)) k=(ir i k).isSome:=by
  unfold kB;rw[zcs];exact nN k i
 rw[<-n];exact q
def yN:AN:=λh S Q=>∃d a e,h=[d]/\aS S d=.dct a e/\Q (.new (.lst (a.map kD))) S
def Oa:AN:=λh S Q=>∃d e,∃ns:List Int,h=[d]/\aS S d=.dct (ns.map Sum.inl) e/\ns.length<64/\∀a:List Int,a.Perm ns->a.Pairwise (· <=·)->Q (.new (.lst (a.map D.int))) S
noncomputable def vq(a:List Key×List D)(p:Key×D):List Key×List D:=if kB a.1 p.1=true then(a.1,(a.1.zip a.2).map λx=>if x.1=p.1 then p.2 else x.2) else(a.1++[p.1],a.2++[p.2])
noncomputable def m9(ps:List (Key×D)):List Key×List D:=ps.foldl vq ([],[])
def Oi:AN:=λe S Q=>∃d,∃a:List (Key×D),e=[d]/\aS S d=.lst (a.map λp=>.tup [kD p.1,p.2])/\a.length<=1000/\Q (.new (.dct (m9 a).1 (m9 a).2)) S
theorem sY(a:List Key×List D)(p:Key×D):pG a.1 a.2 p.1 p.2=.dct (vq a p).1 (vq a p).2:=by
 unfold pG vq kB;split<;>rfl
theorem vv{w:Wd}:∀{ps:List (Key×D)}{kvs:List (Key×V)},Paired (λ(p:Key×D)(q:Key×V)=>p.1=q.1/\Rep K w p.2 q.2) ps kvs->∀{a:List Key×List D}{b:List (Key×V)},b.map (·.1)=a.1->ao K w a.2 (b.map (·.2))->
  (kvs.foldl (λe p=>putK e p.1 p.2) b).map (·.1)=(ps.foldl vq a).1/\ao K w (ps.foldl vq a).2 ((kvs.foldl (λe p=>putK e p.1 p.2) b).map (·.2))
 |[],_,h,a,b,g1,g2=>by cases h;exact⟨g1,g2⟩
 |p::ps,_,h,a,b,g1,g2=>by
  cases h with
  |@cons _ q _ kvs r t=>
   have i:=uF (K:=K) (k:=p.1) r.2 g2;rw[g1] at i;rw[show pG a.1 a.2 p.1 p.2=_ from sY a p] at i;obtain⟨l,j,n,m⟩:=i;injection j with j;subst j;rw[r.1] at n m;exact vv t n m
theorem qD{w:Wd}{H:Hp}{S:aL}(ok:Ok K w H S):∀{ps:List (Key×D)}{a:List V},ao K w (ps.map λp=>D.tup [kD p.1,p.2]) a->∃ts kvs,a=ts.map V.ref/\Ov K H ts kvs/\Paired (λ(p:Key×D)(q:Key×V)=>p.1=q.1/\Rep K w p.2 q.2) ps kvs
 |[],a,h=>⟨[],[],by simpa[ao] using h,.nil,.nil⟩
 |p::ps,a,h=>by
  simp only[zci,ao] at h;obtain⟨x,r,rfl,h1,h2⟩:=h;obtain⟨ts,kvs,rfl,o,n⟩:=qD ok h2;simp only[Rep] at h1;obtain⟨t,u,rfl,m,e⟩:=h1;simp only[ao] at e;obtain⟨j,y,rfl,k1,i,v,rfl,l,rfl⟩:=e;have s:j=kV p.1:=rY k1 (by cases p.1<;>rfl);subst s;exact⟨t::ts,(p.1,i)::kvs,rfl,.cons (dJ.same ok.base m) o,.cons ⟨rfl,l⟩ n⟩
section
variable {o i:Expr}
theorem fT:GE X (.Dict [] [] pos) tO:=⟨mE L2.fT H9⟩
theorem cy(a:X.A.units+1<cLine)(h:GE X o ta)(hi:GE X i tb)(e:Oz i):GE X (.Subscript o i pos) (e8 ta tb):=⟨mE (L2.Ip a h.p hi.p e) Ia⟩
theorem iz{a:AE}(h:X.A.units+1<cLine)(l:GE X o ta)(hi:GE X i tb)(e:GE X value a)(j:yat value (some (.Subscript o i pos')) pos.line X.env=pure false):GS X (.Assign [.Subscript o i pos'] value pos) (pO ta tb a):=
 ⟨mS (L2.Im h l.p hi.p e.p j) HY⟩
theorem P6{k:Nat}(a:aX k X.A):mQ X (yan .In) (yO false):=⟨m2 (MJ (di a)) K5⟩
theorem uL{k:Nat}(a:aX k X.A):mQ X (yan .NotIn) (yO true):=⟨m2 (BD (di a)) K5⟩
theorem sD{k:Nat}(m:aX k X.A):tW X (.type "list") yN:=⟨mC (yz m) λn H Q h=>by
 obtain⟨w,x,S,y,ok,rep,⟨d,s,u,rfl,z,q⟩,bk⟩:=h;obtain⟨v,rfl,l⟩:=gQ rep;obtain⟨a,e,rfl,h1,rfl,t⟩:=fq ok l z;exact⟨a,e,rfl,h1,λp j=>bk (.new (.lst _)) S _ w _ .refl (ok.alloc j) (ok.fresh j ⟨_,rfl,z7 e⟩) q⟩⟩
theorem zV{k:Nat}(n:aX k X.A):tW X (.builtin "sorted") Oa:=⟨mC (yx n) λy H Q h=>by
 obtain⟨w,F,S,G,ok,rep,⟨d,E,ns,rfl,z,s,q⟩,bk⟩:=h;obtain⟨v,rfl,m⟩:=gQ rep;obtain⟨a,e,rfl,h1,h2,C⟩:=fq ok m z;refine⟨a,e,ns,rfl,h1,?_,s,λp j l u t=>bk (.new (.lst _)) S _ w _ .refl (ok.alloc l) (ok.fresh l ⟨_,rfl,eF j⟩) (q j u t)⟩;have:(e.map λx=>kV x.1)=(e.map (·.1)).map kV:=by rw[zct];rfl
 rw[this,h2,zct];rfl⟩
theorem sE{k:Nat}(x:aX k X.A):tW X (.type "dict") Oi:=⟨mC (yD x) λs H Q h=>by
 obtain⟨w,G,S,I,ok,rep,⟨d,j,rfl,z,F,q⟩,bk⟩:=h;obtain⟨v,rfl,u⟩:=gQ rep;obtain⟨a,s,rfl,h1,h2⟩:=bz ok u z;obtain⟨t,e,rfl,y,n⟩:=qD ok h2;have m:=Paired.length n;obtain⟨E,C⟩:=vv n (a:=([],[])) (b:=[]) rfl .nil;exact⟨a,t,e,rfl,h1,y,by lia,λp l=>bk (.new (.dct (m9 j).1 (m9 j).2)) S _ w _ .refl (ok.alloc l) (ok.fresh l ⟨_,rfl,E,C⟩) q⟩⟩
end
def nF(W:yak)(ks:List D):Addr->List Addr->Heap->Prop:=λa bs=>mV W a ((ks.map py).zip bs)
noncomputable def nO(W:yak)(ks:List D):MO:=.Hh (nF W ks) ks
def dj(d:D):Prop:=b8 d=true/\bG (py d)=true/\(py d).depth<=6/\∃a,d=.tup a
noncomputable def putN(ks:List D)(k:D):List D:=if(ks.any λj=>decide (py j=py k))=true then ks else ks++[k]
theorem o8{w:Wd}{d:D}(ok:Ok K w H S)(h:Rep K w d v)(g:dj d):∃b,v=.ref b/\cO K H (py d) (.ref b):=by
 obtain⟨a,j,i,l,rfl⟩:=g;have h2:=h;simp only[Rep] at h2;obtain⟨b,e,rfl,_⟩:=h2;have:=zx ok h (by simpa[aS] using a);exact⟨b,rfl,by simpa[aS] using this⟩
theorem iH{w:Wd}{H:Hp}{S:aL}(ok:Ok K w H S):∀{ks:List D}{bs:List Addr},ao K w ks (bs.map V.ref)->(∀k∈ks,dj k)->rE K H ((ks.map py).zip bs)
 |[],bs,_,_=>λx i=>by simp at i
 |k::ks,[],h,_=>by simp only[zcr,ao] at h;obtain⟨_,_,z,_⟩:=h;cases z
 |k::ks,b::bs,h,g=>by
  simp only[zci,ao] at h;obtain⟨x,r,e,h1,h2⟩:=h;injection e with e1 e2;subst e1;subst e2;intro y a;rw[zci,zaN] at a;rcases zch.mp a with rfl|a
  ·obtain⟨l,e,hd⟩:=o8 ok h1 (g k (by simp));cases e;exact⟨(g k (by simp)).2.1,(g k (by simp)).2.2.1,hd⟩
  ·exact iH ok h2 (λk j=>g k (zay _ j)) y a
def tN(W:yak):AE:=λ_ S Q=>Q (.new (nO W [])) S
theorem HZ{W:yak}:∀a H Q,aR K (tN W) a H Q->C8 W a H Q:=by
 rintro a H Q ⟨w,h,S,i,ok,env,q,bk⟩ p e;exact bk (.new (nO W [])) S _ w _ .refl (ok.alloc e) (ok.fresh e ⟨p,[],rfl,.nil⟩) q
def AF(W:yak)(a b c:AE):AS:=λD e S=>c e S λl q=>a e q λm o=>b e o λi j=>∃n h,l.d=.bl true/\m.d=.loc n/\j[n]? =some (some (nO W h))/\dj i.d/\(∀k∈h,dj k)/\h.length<1000/\D.nx e (j.set n (some (nO W (putN h i.d))))
theorem EC{ks:List D}{bs:List Addr}{k:D}{b:Addr}(h:ks.length=bs.length):∃a,xQ ((ks.map py).zip bs) (py k) b=((putN ks k).map py).zip a/\(a=bs/\putN ks k=ks∨a=bs++[b]/\putN ks k=ks++[k]):=by
 have e:(((ks.map py).zip bs).any λx=>decide (x.1=py k))=(ks.any λj=>decide (py j=py k)):=by
  have:((ks.map py).zip bs).map (·.1)=ks.map py:=zbB (by rw[zbJ];lia);have h1:(((ks.map py).zip bs).any λx=>decide (x.1=py k))=((((ks.map py).zip bs).map (·.1)).any λd=>decide (d=py k)):=by rw[zcs];rfl
  rw[h1,this,zcs];rfl
 unfold xQ putN;rw[e];by_cases i:(ks.any λj=>decide (py j=py k))=true
 ·rw[yIp i,yIp i];exact⟨bs,rfl,.inl ⟨rfl,rfl⟩⟩
 ·rw[yIn i,yIn i];refine⟨bs++[b],?_,.inr ⟨rfl,rfl⟩⟩;rw[zbS,List.zip_append (by rw[zbJ];exact h)];rfl
theorem LV{W:yak}{a b c:AE}:∀D v H,gJ K (AF W a b c) D v H->KA K W (aR K a) (aR K b) (aR K c) D v H:=by
 rintro D v H ⟨w,x,S,Da,ok,env,q,bk⟩;refine⟨w,x,S,_,ok,env,q,.go λr3 S1 v3 w1 H1 j G s q1=>?_⟩;refine⟨w1,x,S1,_,G,env.le j,q1,.go λr1 S2 v1 w2 H2 o F h q2=>?_⟩;refine⟨w2,x,S2,_,F,(env.le j).le o,q2,.go λE S3 v2 Z H3 m i l C=>?_⟩;obtain⟨n,P,Y,X,O,I,g2,hl,q3⟩:=C;rw[X] at h;have h:=h.le m;simp only[Rep] at h;obtain⟨a,Q,rfl⟩:=h;obtain⟨a1,u,k1,k2,k3,U,bs,rfl,y⟩:=i.live n _ O;rw[Q] at k1;cases k1;obtain⟨b,rfl,hb⟩:=o8 i l I;have t:P.length=bs.length:=by have:=y.length;rw[zbJ] at this;exact this.symm
 refine⟨a,U,b,_,py E.d,?_,rfl,rfl,k3,iH i y g2,I.2.1,I.2.2.1,hb,?_,λe=>?_⟩
 ·rw[jC s Y]
 ·rw[zbT,zbJ];lia
 ·subst e;obtain⟨L,e1,e2⟩:=EC (k:=E.d) (b:=b) t;rw[e1];refine bk.nx x _ v Z _ ((j.trans o).trans m) (i.put O Q (o':=nO W (putN P E.d)) ⟨U,L,rfl,?_⟩) (((env.le j).le o).le m) q3;rcases e2 with⟨rfl,e⟩|⟨rfl,e⟩
  ·rw[e];exact y
  ·rw[e,zbS];exact y.snoc l
theorem rG{w:Wd}:∀{ks:List D}{bs:List Addr},ao K w ks (bs.map V.ref)->∀x∈ks.zip bs,Rep K w x.1 (.ref x.2)
 |[],_,_,x,a=>by simp at a
 |_::_,[],_,x,a=>by simp at a
 |k::ks,b::bs,h,x,a=>by
  simp only[zci,ao] at h;obtain⟨y,r,e,h1,h2⟩:=h;injection e with e1 e2;subst e1;subst e2;rw[zaN] at a;rcases zch.mp a with rfl|a
  ·exact h1
  ·exact rG h2 x a
theorem fG{w:Wd}:∀{o:List (D×Addr)},(∀x∈o,Rep K w x.1 (.ref x.2))->ao K w (o.map (·.1)) (o.map λx=>V.ref x.2)
 |[],_=>.nil
 |x::o,h=>.cons (h x (by simp)) (fG λy a=>h y (zay _ a))
section
variable {o i:Expr}
theorem iB:GE X (.Dict [] [] pos) (tN X.w):=⟨mE L2.iB HZ⟩
theorem jb{k:Nat}(j:aX k X.A){a:AE}(l:GE X o ta)(hi:GE X i tb)(e:GE X value a)(h:yat value (some (.Subscript o i pos')) pos.line X.env=pure false):GS X (.Assign [.Subscript o i pos'] value pos) (AF X.w ta tb a):=
 ⟨mS (L2.jb (by have:=j.units;lia) l.p hi.p e.p h) LV⟩
end
theorem CY{u:HO}(h:H a=some u):upd H a u=H:=by
 funext b;by_cases e:b=a
 ·subst e;rw[bF,h]
 ·rw[aO e]
inductive CN(p:Nat)(ks:List Key):List D->aL->List D->aL->Prop
 |nil {ds:List D}{S:aL}:CN p ks ds S ds S
 |step {ds ds' es:List D}{S S':aL}{m:Nat} (h:S[m]? =some (some (.lst es))) (hm:m≠p) (t:CN p ks (ds.map (sb m (.lst es))) ((S.set m none).set p (some (.dct ks (ds.map (sb m (.lst es)))))) ds' S'):CN p ks ds S ds' S'
theorem Jj{p:Nat}{ks:List Key}{l:List D}{y:aL}(h:CN p ks ds S l y):∀{w:Wd}{H:Hp},S[p]? =some (some (.dct ks ds))->Ok K w H S->∃E,w.le E/\Ok K E H y:=by
 induction h with
 |nil=>exact λ_ ok=>⟨_,.refl,ok⟩
 |@step ds l es S y m hS hm t ih=>
  intro w H n ok;obtain⟨C,e,q,f⟩:=Qw ok hS;have O:p<S.length:=by
   rcases zcA p S.length with z|z
   ·exact z
   ·rw[zat z] at n;cases n
  have x:(S.set m none)[p]? =some (some (.dct ks ds)):=by rw[zaA hm];exact n
  obtain⟨a,u,k1,P,L,j,rfl,I,k6⟩:=ok.live p _ n;have v:C.r p=some a:=e.r _ _ k1;have G:l6 K C (.dct ks (ds.map (sb m (.lst es)))) (.dK j):=⟨j,rfl,I,xh e f k6⟩
  have i:=q.put x v G;rw[CY L] at i;obtain⟨F,s,o⟩:=ih (by rw[zbd,yIp rfl,yIp (by simpa using O)]) i;exact⟨F,e.trans s,o⟩
def Gk(a:AE):AE:=λm S Q=>a m S λr l=>∃p h i e j,r=.dat (.loc p)/\l[p]? =some (some (.dct h i))/\CN p h i l e j/\Q (.dat (.loc p)) j
theorem L6{a:AE}:∀i H Q,aR K (Gk a) i H Q->aR K a i H Q:=by
 rintro i H Q ⟨w,o,S,O,ok,env,q,bk⟩;refine⟨w,o,S,_,ok,env,q,λr L v s P n m e j=>?_⟩;obtain⟨p,F,G,C,I,y,x,u,t⟩:=j;subst y;have e:Rep K s (.loc p) v:=e;obtain⟨E,h,l⟩:=Jj u x m;exact bk.dat (n.trans h) l (e.le h) t
theorem Si{t:AE}(h:GE X e t):GE X e (Gk t):=⟨mE h.p L6⟩
end M
namespace M7
open PySem PySem.Spec PyProof.Rows M5
def nc(a:Array Nat):Prop:=∀i j,i<j->(e:j<a.size)->(h:i<a.size)->a[i]<a[j]
theorem pK{a:Array Nat}(e:nc a)(j:Nat):∀(f lo hi:Nat),hi - lo<=f->lo<=hi->hi<=a.size->(∀i (h:i<a.size),i<lo->a[i]<j)->(∀i (h:i<a.size),hi<=i->j<=a[i])->
  SetTable.below.go a j f lo hi<=a.size/\(∀i (h:i<a.size),i<SetTable.below.go a j f lo hi->a[i]<j)/\∀i (h:i<a.size),SetTable.below.go a j f lo hi<=i->j<=a[i]
 |0,lo,hi,h1,h2,h3,h4,h5=>by
  rw[SetTable.below.go.eq_1];have:hi=lo:=by lia
  subst this;exact⟨h3,h4,h5⟩
 |f+1,lo,hi,h1,h2,h3,h4,h5=>by
  rw[SetTable.below.go.eq_2];by_cases o:lo<hi
  ·rw[yIp o];dsimp only;have l:(lo+hi) / 2<a.size:=by lia
   have q:a.getD ((lo+hi) / 2) j=a[(lo+hi) / 2]:=by simp[zcO,l]
   rw[q];by_cases n:a[(lo+hi) / 2]<j
   ·rw[yIp n];refine pK e j f _ hi (by lia) (by lia) h3 (λi h m=>?_) h5;rcases zcA i ((lo+hi) / 2) with z|z
    ·have:=e i _ z l h;lia
    ·obtain rfl:i=(lo+hi) / 2:=by lia
     exact n
   ·rw[yIn n];refine pK e j f lo _ (by lia) (by lia) (by lia) h4 (λi h m=>?_);rcases zcA ((lo+hi) / 2) i with z|z
    ·have:=e _ i z h l;lia
    ·obtain rfl:i=(lo+hi) / 2:=by lia
     lia
  ·rw[yIn o];have:hi=lo:=by lia
   subst this;exact⟨h3,h4,h5⟩
theorem iK{a:Array Nat}(e:nc a)(j:Nat):SetTable.below a j<=a.size/\(∀i (h:i<a.size),i<SetTable.below a j->a[i]<j)/\∀i (h:i<a.size),SetTable.below a j<=i->j<=a[i]:=
 pK e j a.size 0 a.size (by lia) (zcJ _) (zcI _) (λi h z=>absurd z (zbV _)) (λi h z=>by lia)
theorem yG{a:Array Nat}(e:nc a)(hi:i<a.size):SetTable.below a (a[i]+1)=i+1:=by
 obtain⟨h1,h2,j⟩:=iK e (a[i]+1);have l:i<SetTable.below a (a[i]+1):=by
  rcases zcA i (SetTable.below a (a[i]+1)) with z|z
  ·exact z
  ·have:=j i hi z;lia
 rcases zcA (i+1) (SetTable.below a (a[i]+1)) with z|z
 ·have h:i+1<a.size:=by lia
  have:=h2 (i+1) h z;have:=e i (i+1) (by lia) h hi;lia
 ·lia
theorem yF{a:Array Nat}(e:nc a):SetTable.below a 0=0:=by
 obtain⟨h1,h2,h⟩:=iK e 0;rcases Nat.eq_zero_or_pos (SetTable.below a 0) with z|z
 ·exact z
 ·have:=h2 0 (by lia) z;lia
theorem fP{m:Array Nat}:nc m↔m.toList.Pairwise (· < ·):=by
 rw[zah];constructor
 ·intro h i j l e a;have:=h i j a (by simpa using e) (by simpa using l);simpa using this
 ·intro h i j a e l;have:=h i j (by simpa using l) (by simpa using e) a;simpa using this
theorem uy{h:Array Nat}(o:nc h)(v:(h[SetTable.below h j]? ==some j)=false):nc (SetTable.insertAt h (SetTable.below h j) j):=by
 obtain⟨h1,h2,y⟩:=iK o j;rw[fP] at o⊢;have e:(SetTable.insertAt h (SetTable.below h j) j).toList=h.toList.take (SetTable.below h j)++[j]++h.toList.drop (SetTable.below h j):=by
  unfold SetTable.insertAt;simp[Array.toList_extract];exact List.take_of_length_le (by simp)
 rw[e];generalize SetTable.below h j=p at*;have u:∀x∈h.toList.take p,x<j:=λx l=>by
  obtain⟨i,s,rfl⟩:=zaG l;rw[zbr] at s;have:=h2 i (by simp at s;lia) (by lia);simpa using this
 have hd:∀x∈h.toList.drop p,j<x:=λx l=>by
  obtain⟨i,s,rfl⟩:=zaG l;rw[zbs] at s;have q:p+i<h.size:=by simp at s;lia
  have H:=y (p+i) q (by lia);have C:(h.toList.drop p)[i]=h[p+i]:=by simp
  rw[C];have m:p<h.size:=by lia
  have G:h[p]≠j:=λz=>by
   rw[zai m,z] at v;simp at v
  rcases Nat.eq_zero_or_pos i with rfl|z
  ·have:h[p+0]=h[p]:=rfl;lia
  ·have F:=y p m (zcI _);have E:=fP.mpr o p (p+i) (by lia) q m;lia
 rw[List.pairwise_append,List.pairwise_append];refine⟨⟨o.sublist (List.take_sublist ..),by simp,λa n b t=>?_⟩,o.sublist (List.drop_sublist ..),λa n b t=>?_⟩
 ·rw[zaO.mp t];exact u a n
 ·rcases zbI.mp n with n|n
  ·exact zcz (u a n) (hd b t)
  ·rw[zaO.mp n];exact hd b t
theorem nA{α:Type}(f:Nat->Option α):∀l:List Nat,(List.map (λx=>x.1) (List.filterMap (λj=>Option.map (λx=>(j,x)) (f j)) l)).Sublist l
 |[]=>.slnil
 |a::l=>by
  rw[zaD];cases f a with
  |none=>exact .cons a (nA f l)
  |some x=>exact .cons₂ a (nA f l)
def qf(t:SetTable):Prop:=t.dummies=#[]/\(t.plain=true->nc t.place)
theorem gD(t:SetTable)(n:Nat):qf (t.standIn n):=⟨rfl,λz=>by cases z⟩
theorem IJ(h:qf t):qf (t.orStandIn n):=by
 unfold SetTable.orStandIn;split
 ·exact h
 ·exact gD t n
theorem BJ{mask finger moves:Nat}{led plain:Bool}{a:Array Int}{o:Array Nat}(h:SetTable.laid mask finger moves led plain a=some (t,o)):qf t:=by
 unfold SetTable.laid at h;cases e:SetTable.layClean mask a with
 |none=>rw[e] at h;cases h
 |some ow=>
  rw[e] at h;have h:some _=some _:=h;injection h with h;injection h with h1 h2;subst h1;refine⟨rfl,λ_=>?_⟩;rw[fP];exact List.Pairwise.sublist (nA _ _) List.pairwise_lt_range
theorem xZ:qf (relayAll t es n).2.1:=by
 unfold relayAll;split
 ·rename_i h a e;dsimp only;split
  ·exact BJ e
  ·exact gD _ _
 ·exact gD _ _
theorem om{t:SetTable}(hd:t.dummies=#[]){hashAt:Nat->Int}{h:Int}:∀(f:Nat)(p:SetTable.Probe){j:Nat}{dm:Option Nat},p.dummy=none->SetTable.probe.go t hashAt h f p=some (.empty j dm)->dm=none/\(t.place[SetTable.below t.place j]? ==some j)=false
 |0,p,j,dm,_,e=>by rw[SetTable.probe.go.eq_1] at e;cases e
 |f+1,p,j,dm,hp,e=>by
  rw[SetTable.probe.go.eq_2] at e;have i:∀q,t.slot q=if(t.place[SetTable.below t.place q]? ==some q)=true then .live (SetTable.below t.place q) else .empty:=λq=>by
   unfold SetTable.slot;dsimp only;rw[hd];have:SetTable.has #[] q=false:=by unfold SetTable.has;rfl
   rw[this];rfl
  have CT:(t.advance p).dummy=none:=by
   unfold SetTable.advance;split
   ·exact hp
   ·exact hp
  rw[i] at e;by_cases a:(t.place[SetTable.below t.place p.j]? ==some p.j)=true
  ·rw[yIp a] at e;dsimp only at e;split at e
   ·cases e
   ·exact om hd f _ CT e
  ·rw[yIn a] at e;dsimp only at e;injection e with e;injection e with e1 e2;subst e1;exact⟨by rw[<-e2];exact hp,by simpa using a⟩
theorem EV{h:Int}{x:yai}(e:qf t):qf (layNew t es h x).2.1:=by
 unfold layNew;split
 ·rename_i slot wd a;dsimp only;refine IJ ?_;unfold SetTable.freeSlot at a;split at a
  ·rename_i j dm l;injection a with a;injection a with i e2;obtain⟨rfl,h2⟩:=om e.1 _ _ rfl l;have i:j=slot:=i;subst i;have m:SetTable.has t.dummies j=false:=by rw[e.1];unfold SetTable.has;rfl
   refine⟨?_,λz=>?_⟩
   ·show(if SetTable.has t.dummies j=true then _ else t.dummies)=#[];rw[yIn (by rw[m];decide)];exact e.1
   ·exact uy (e.2 z) h2
  ·cases a
 ·exact gD _ _
noncomputable def intOf:yai->Int
 |.int i _=>i
 |_=>0
def SK(prog:yaj)(w:yak)(o:Obj)(S:List Int):Prop:=
 ∃a h t,o.ExactSet/\o.data=.set a h t/\ElemsOf (PySem.intKind prog w) a.toList/\(a.toList.map λe=>intOf e.2).Perm S/\t.fits a.size=true/\t.led=(!w.params.followText "set-order")/\qf t
def gX(prog:yaj)(w:yak)(h:Heap)(a:Addr)(S:List Int):Prop:=∃o,h.get? a=some o/\SK prog w o S
noncomputable def lZ(S:List Int)(x:Int):List Int:=if x∈S then S else S++[x]
theorem Je(x:Int)(t:Tok):(PySem.intKind prog w).is x (.int x t)=true:=by
 show Value.isInt x (.int x t)=true;simp[Value.isInt]
theorem sS{x:Int}{v:yai}(h:(PySem.intKind prog w).is x v=true):intOf v=x:=by
 obtain⟨t,rfl⟩:=Value.isInt_shape h;rfl
theorem add_int{S:List Int}{x:Int}{tk:Tok}{Q:Bool->yah->Prop}(hS:gX prog w s.heap a S)(hn:S.length+1<4096)(h:∀b h',Heap.SameBut a s.heap h'->gX prog w h' a (lZ S x)->Q b {s with heap:=h'}):
  yar (model prog w) A (setAddHashed a (.int x tk) ((PySem.intKind prog w).hash x)) Q E s:=by
 obtain⟨o,ho,es,ep,t,P,hd,v,hp,hf,u,hpl⟩:=hS;have ab:es.size=S.length:=by rw[<-hp.length_eq,zbJ,zaJ]
 have hb:es.size<scanBound:=by show es.size<4096;lia
 unfold setAddHashed;unfold setAddHashedIn;refine yad (yaa (wpAny_setState_of ho hd hf ?_));dsimp only;rw[byScan_of (x:=.int x tk) rfl hb v,yIp rfl];unfold setAddByScan;refine yaa (yaa (wpAny_rule (yaa (wpAny_setScan_of (k:=x) (Je x tk) ho hd hf v ?_))));cases hr:List.findIdx? (λe=>(PySem.intKind prog w).is x e.2) es.toList with
 |some j=>
  obtain⟨hj,hpj,_⟩:=List.findIdx?_eq_some_iff_getElem.mp hr;have W:x∈S:=hp.mem_iff.mp (zcu.mpr ⟨_,zby hj,sS hpj⟩);dsimp only;refine yab (yab ?_);have q:=h false s.heap (Heap.SameBut.refl a s.heap) (by
   unfold lZ;rw[yIp W];exact⟨o,ho,es,ep,t,P,hd,v,hp,hf,u,hpl⟩)
  exact q
 |none=>
  have W:x ∉ S:=λW=>by
   obtain⟨e,he,z⟩:=zcu.mp (hp.mem_iff.mpr W);obtain⟨⟨k,hk,_⟩,_⟩:=v e he;rw[sS hk] at z;subst z;have:=List.findIdx?_eq_none_iff.mp hr e he;rw[hk] at this;cases this
  dsimp only;have n:=layNew_perm t es ((PySem.intKind prog w).hash x) (.int x tk);have F:=layNew_fits t es ((PySem.intKind prog w).hash x) (.int x tk);have y:=EV (es:=es) (h:=(PySem.intKind prog w).hash x) (x:=.int x tk) hpl;have C:=u5 t es ((PySem.intKind prog w).hash x) (.int x tk);generalize layNew t es ((PySem.intKind prog w).hash x) (.int x tk)=L at n F C y⊢;obtain⟨i,t1,wd,gv⟩:=L;dsimp only at n F C y⊢;rw[zbl] at n;have H:ElemsOf (PySem.intKind prog w) i.toList:=(v.push (Je x tk) rfl).perm n;have I:(i.toList.map λe=>intOf e.2).Perm (S++[x]):=by
   refine(n.map _).trans ?_;rw[zbS];exact hp.append_right [x]
  have G:i.size=S.length+1:=by rw[<-zaJ,<-zbJ (f:=λe:Int×yai=>intOf e.2),I.length_eq,zaM];rfl
  have gw:∀(b:Bool){m:yah}{Q':Unit->yah->Prop},Q' () m->yar (model prog w) A (match b with|true=>rule "set.scan.the-table-gave-way"|false=>pure ()) Q' E m:=by
   intro b m Q' q;cases b
   ·exact yab q
   ·exact wpAny_rule q
  refine yaa (gw _ ?_);have fin:∀(l:SetTable),l.fits i.size=true->l.led=t.led->qf l->yar (model prog w) A (do
    storeSet a i l
    if(!wd&&l.tooFull)=true then do
      (match(relayAll l i (SetTable.grown i.size)).2.2 with|true=>rule "set.scan.the-table-gave-way"|false=>pure ())
      storeSet a (relayAll l i (SetTable.grown i.size)).1 (relayAll l i (SetTable.grown i.size)).2.1
      pure (some true)
     else pure (some true)) (λr s'=>r=some true/\Q true s') E s:=by
   intro l f2 l2 p2;refine yaa (wpAny_storeSet_of ho hd ?_ (by rw[G,yaf];lia));have O:=jO i l ho hd;have X:=Heap.SameBut.update s.heap a (Obj.putSet i l);split
   ·have Y:=relayAll_perm l i (SetTable.grown i.size);have rf:=relayAll_fits l i (SetTable.grown i.size);have rk:=p5 l i (SetTable.grown i.size);have rn:qf (relayAll l i (SetTable.grown i.size)).2.1:=xZ;generalize relayAll l i (SetTable.grown i.size)=Rl at Y rf rk rn⊢;obtain⟨U,t3,g2⟩:=Rl;dsimp only at Y rf rk rn⊢;have Z:U.size=i.size:=by rw[<-zaJ,Y.length_eq,zaJ]
    refine yaa (gw _ ?_);refine yaa (wpAny_storeSet_of O rfl ?_ (by rw[Z,G,yaf];lia));refine yab ⟨rfl,h true _ (X.trans (Heap.SameBut.update _ a _)) ⟨_,jO U t3 O rfl,U,_,t3,P,rfl,H.perm Y,?_,rf,rk.1.trans (l2.trans u),rn⟩⟩
    ·unfold lZ;rw[yIn W];exact(Y.map _).trans I
   ·refine yab ⟨rfl,h true _ X ⟨_,O,i,_,l,P,rfl,H,?_,f2,l2.trans u,p2⟩⟩;unfold lZ;rw[yIn W];exact I
  cases hpt:t1.plain with
  |true=>
   rw[yIp rfl];refine yaa ?_;rw[hashByValue_scannable 8 (x:=.int x tk) rfl];refine yab ?_;refine yac (fin _ ?_ ?_ ?_) ?_ (λ_ _ z=>z)
   ·rw[yIp (by simp[plainKind])];exact F
   ·rw[yIp (by simp[plainKind])];exact C.1
   ·rw[yIp (by simp[plainKind])];exact y
   ·rintro r s' ⟨rfl,q⟩;exact yab q
  |false=>
   rw[yIn (by decide)];refine yaa (yab ?_);refine yac (fin _ ?_ ?_ ?_) ?_ (λ_ _ z=>z)
   ·rw[yIp rfl];exact F
   ·rw[yIp rfl];exact C.1
   ·rw[yIp rfl];exact y
   ·rintro r s' ⟨rfl,q⟩;exact yab q
noncomputable def allI(val:Nat->Int):Nat->List Int
 |0=>[]
 |i+1=>lZ (allI val i) (val i)
theorem vP(S:List Int)(x:Int):(lZ S x).length<=S.length+1:=by
 unfold lZ;split
 ·lia
 ·rw[zaM];exact zcI _
theorem iM(val:Nat->Int):∀i,(allI val i).length<=i
 |0=>zcI _
 |i+1=>zcw (vP ..) (Nat.succ_le_succ (iM val i))
theorem gX.keep{S:List Int}(x:gX prog w h a S)(e:∀o,h.get? a=some o->h'.get? a=some o):gX prog w h' a S:=
 by obtain⟨o,i,r⟩:=x;exact⟨o,e o i,r⟩
section
variable {R:Result->yah->Prop}{wr:List Addr}{P:Nat->yai->Prop}{St:Nat->yah->Prop}
theorem E7(W:WalksS prog w A.in1 I fp wr G n P St)(a:Addr)(U:a ∉ fp)(val:Nat->Int)(j:∀i v,P i v->∃t,v=.int (val i) t)(hn:n<4000):
  ∀(k i:Nat)(s:yah),n - i=k->i<=n->St i s->gX prog w s.heap a (allI val i)->
   (∀s',Moved (a::wr) G s s'->gX prog w s'.heap a (allI val n)->R (.ok (.ret .none)) s')->
   codeAny (model prog w) A (.builtin "set.update.loop" ⟨[.ref a,.ref I],[]⟩) R s:=by
 have y:a ∉ wr:=λz=>U (W.sub _ z);have sub:∀b∈wr,b∈a::wr:=λb z=>zay _ z;intro k
 induction k with
 |zero=>
  intro i s X Y h Q S;obtain rfl:i=n:=by lia
  refine codeAny_builtin PyProof.Rows.F.entry_set_update_loop ?_;rw[Around.under_plainId PyProof.Rows.F.plain_set_update_loop _];show yar _ A.in1 (pyNext (.ref I) >>= _) _ _ s;refine yaa (W.done s _ _ h λs' u=>?_);exact yab (S s' (u.mono sub) (Q.keep λo e=>u.heap a o y e))
 |succ k ih=>
  intro i s X Y h Q S;have x:i<n:=by lia
  refine codeAny_builtin PyProof.Rows.F.entry_set_update_loop ?_;rw[Around.under_plainId PyProof.Rows.F.plain_set_update_loop _];show yar _ A.in1 (pyNext (.ref I) >>= _) _ _ s;refine yaa (W.item i s _ _ x h λv s' Z l u=>?_);obtain⟨t,rfl⟩:=j i v Z;have O:gX prog w s'.heap a (allI val i):=Q.keep λo e=>u.heap a o y e;show yar _ A.in1 (holding [Value.int (val i) t] (setAdd a (.int (val i) t)) >>= _) _ _ s';refine yaa (yad ?_);unfold setAdd;refine yad (yaa ((PySem.intKind prog w).pyHash (k:=val i) (Je _ _) ?_));have:=iM val i;refine add_int (s:={s' with toks:=s'.toks+1}) O (by lia) λb h' m L=>?_;refine yab ⟨plainId_quiet PyProof.Rows.F.plain_set_update_loop _,ih (i+1) _ (by lia) x (W.frame _ s' _ _ l (zcK _) λb H o e=>?_) L λE q C=>?_⟩
  ·rw[m.2 b λz:b=a=>U (z▸H)];exact e
  ·refine S E (Moved.trans W.gtrans ((u.mono sub).then_heap (zcK _) λb o H e=>?_) q) C;rw[m.2 b λz:b=a=>H (z▸zaL)];exact e
end
theorem rF(e:h.get? a=some (br (!w.params.followText "set-order"))):gX prog w h a []:=
 ⟨_,e,#[],0,_,⟨rfl,rfl,rfl⟩,rfl,λe m=>by simp at m,.nil,rfl,rfl,rfl,λ_=>λi j _ l _=>absurd l (by simp[SetTable.fresh])⟩
theorem qY{T:String}{ob:Obj}{Z:Heap->Prop}(Y:s.TypeIs (.ref l) T)(h1:isSubtype (.type T) (.type "set")=pure false)(h2:isSubtype (.type T) (.type "frozenset")=pure false)(h3:(Value.type T==Value.type "dict")=false)(it:∀{A':yal}{s':yah}{Q':yai->yah->Prop}{E':yai->yah->Prop},(∀b o,s.heap.get? b=some o->s'.heap.get? b=some o)->Q' (.ref s'.heap.objs.size) {s' with heap:=s'.heap.push ob}->yar (model prog w) A' (pyIter (.ref l)) Q' E' s')(C:ob.isFreed=false)(lp:∀(I:Addr)(h0:Heap){R:Result->yah->Prop},(∀b o,s.heap.get? b=some o->h0.get? b=some o)->h0.get? s.heap.objs.size=some (br (!w.params.followText "set-order"))->h0.get? I=some ob->l≠I->s.heap.objs.size ∉ [I,l]->(∀(h':Heap)(tk:Nat),Z h'->(∀b o,b ∉ [s.heap.objs.size,I]->h0.get? b=some o->h'.get? b=some o)->R (.ok (.ret .none)) {s with heap:=h',toks:=tk})->codeAny (model prog w) A.in1.in1 (.builtin "set.update.loop" ⟨[.ref s.heap.objs.size,.ref I],[]⟩) R {s with heap:=h0})(h:∀(h':Heap)(tk:Nat),Z h'->(∀b o,b<s.heap.objs.size->s.heap.get? b=some o->h'.get? b=some o)->Q (.ref s.heap.objs.size) {s with heap:=h',toks:=tk}):
  yar (model prog w) A (call (.type "set") [.ref l]) Q E s:=by
 obtain⟨c,tl,W⟩:=PySem.F.called_set.mro;have L:=PySem.F.called_set.made;have U:=PySem.F.called_set.sub;have g1:=PySem.F.called_set.notType;have g2:=PySem.F.called_set.canCreate;have hct:=PySem.F.typeCall_set_1 (.ref l);refine yaH (codeAny_of_tree ?_);show yar _ _ (callAny (.type "set") _) _ _ _;refine yab ⟨Code.quiet_builtin _ (by decide+kernel),codeAny_builtin PySem.F.entry_type_call ?_⟩;rw[Around.under_plain (weight_type_call_type "set" [.ref l] []) rfl]
 repeat (any_goals (first|assumption|wp_step))
 generalize m:(!w.params.followText "set-order")=led;refine yax (HF (.ref l) (E:=E) (Q₁:=λu j=>u=.ref s.heap.objs.size/\j={s with heap:=s.heap.push (br led)}) ⟨rfl,by rw[m]⟩) λr j y=>?_;cases r with
 |error e=>exact y
 |ok fl=>
  cases fl with
  |ret u=>
   obtain⟨rfl,rfl⟩:=y;have gS:(s.heap.push (br led)).get? s.heap.objs.size=some (br led):=zaK _ rfl;have tS:Shared.TypeIs {s with heap:=s.heap.push (br led)} (.ref s.heap.objs.size) "set":=⟨_,gS,rfl⟩
   have hli:=PySem.F.called_set.init.lookup;have hbi:=PySem.F.called_set.init.bind (.ref s.heap.objs.size)
   repeat (any_goals (first|assumption|wp_step))
   refine yax (codeAny_call_builtin (R:=wants (λr i=>r=.none/\∃h' tk,i={s with heap:=h',toks:=tk}/\Z h'/\(∀b o,b<s.heap.objs.size->s.heap.get? b=some o->h'.get? b=some o)) E) PySem.F.called_set.init.plain PySem.F.entry_set_init (check_set_init_1 tS ?_)) λt i a=>?_
   ·have n:l<s.heap.objs.size:=by obtain⟨o,G,_⟩:=Y;exact zcF G
    have kp:∀b o,s.heap.get? b=some o->(s.heap.push (br led)).get? b=some o:=λb o e=>zaq _ e;have tl1:Shared.TypeIs {s with heap:=s.heap.push (br led)} (.ref l) T:=by obtain⟨o,G,z⟩:=Y;exact⟨o,kp _ _ G,z⟩
    unfold Builtin.«set.__init__» noKeywords Builtin.Frozenset.updateFrom;generalize S:pyIter=PI
    wp_walk
    subst S;refine it kp ?_;have sz:(s.heap.push (br led)).objs.size=s.heap.objs.size+1:=zcg ..;have v:∀b o,s.heap.get? b=some o->((s.heap.push (br led)).push ob).get? b=some o:=λb o e=>zaq _ (kp b o e);have H:l≠(s.heap.push (br led)).objs.size:=by rw[sz];exact zcv (zbh n)
    have P:s.heap.objs.size ∉ [(s.heap.push (br led)).objs.size,l]:=by
     rw[sz];simp only[zch,zbA,or_false];rintro(z|z)
     ·exact absurd z (by lia)
     ·rw[z] at n;exact zcl _ n
    refine yaa (wpAny_runValue ?_);refine lp _ _ v (by rw[m];exact zaq _ gS) (zaK _ C) H P λh' x q hm=>?_
    ·refine yab (yab ⟨rfl,h',x,rfl,q,λb o X e=>hm b o ?_ (v b o e)⟩);rw[sz];simp only[zch,zbA,or_false];rintro(z|z)
     ·exact zcv X z
     ·exact zcv (zbh X) z
   ·cases t with
    |error e=>exact a
    |ok fl₂=>
     cases fl₂ with
     |ret r=>
      obtain⟨rfl,h',tk,rfl,q,O⟩:=a
      repeat (any_goals (first|assumption|wp_step))
      exact h _ _ q O
     |_=>exact a.elim
  |_=>exact y.elim
theorem qX{T:String}{ob:Obj}{P:Nat->yai->Prop}{St:Addr->Nat->Heap->Prop}{val:Nat->Int}(H:A.handled=none)(O:s.TypeIs (.ref l) T)(h1:isSubtype (.type T) (.type "set")=pure false)(h2:isSubtype (.type T) (.type "frozenset")=pure false)(U:(Value.type T==Value.type "dict")=false)(it:∀{A':yal}{s':yah}{Q':yai->yah->Prop}{E':yai->yah->Prop},(∀b o,s.heap.get? b=some o->s'.heap.get? b=some o)->Q' (.ref s'.heap.objs.size) {s' with heap:=s'.heap.push ob}->yar (model prog w) A' (pyIter (.ref l)) Q' E' s')(x:ob.isFreed=false)(W:∀{A':yal}(I:Addr),A'.handled=none->l≠I->Walks prog w A' I [I,l] [I] n P (St I))(q:∀I h',(∀b o,s.heap.get? b=some o->h'.get? b=some o)->h'.get? I=some ob->St I 0 h')(a:∀i v,P i v->∃t,v=.int (val i) t)(G:n<4000)(h:∀(h':Heap)(tk:Nat),gX prog w h' s.heap.objs.size (allI val n)->(∀b o,b<s.heap.objs.size->s.heap.get? b=some o->h'.get? b=some o)->Q (.ref s.heap.objs.size) {s with heap:=h',toks:=tk}):
  yar (model prog w) A (call (.type "set") [.ref l]) Q E s:=by
 refine qY (Z:=λh'=>gX prog w h' s.heap.objs.size (allI val n)) O h1 h2 U it x (λI X R kp Y gI y C S=>?_) h;refine E7 (W (A':=A.in1.in1.in1) I H y).toS s.heap.objs.size C val a G (n - 0) 0 _ rfl (zcJ _) (q I X kp gI) (rF Y) λs' j F=>?_;obtain⟨h',g',d',m,u⟩:=s';obtain rfl:g'=s.gens:=j.gens;obtain rfl:d'=s.drawn:=j.drawn;obtain rfl:u=s.os:=j.os;exact S h' m F λb o L e=>j.heap b o L e
theorem nV{ss:List Int}(y:A.handled=none)(j:s.heap.IsTuple l its)(m:IntsAre its.toList ss)(u:ss.length<4000)(h:∀(h':Heap)(tk:Nat),gX prog w h' s.heap.objs.size (allI (λi=>ss.getD i 0) ss.length)->(∀b o,b<s.heap.objs.size->s.heap.get? b=some o->h'.get? b=some o)->Q (.ref s.heap.objs.size) {s with heap:=h',toks:=tk}):
  yar (model prog w) A (call (.type "set") [.ref l]) Q E s:=by
 have el:its.size=ss.length:=by rw[<-zaJ,m.length]
 rw[<-el] at h;refine qX (T:="tuple") (St:=λI i h=>h.IsTupleIter I l i/\h.IsTuple l its) (ob:={cls:=.type "tuple_iterator",data:=.fields #[.ref l,.int 0 0]}) (P:=λi v=>its[i]? =some v) y j.typeIs M5.F.sub_tuple_set M5.F.sub_tuple_frozenset (by decide) (λkp q=>wpAny_pyIter_tuple (j.at (kp l)) q) rfl (λI h1 h2=>Walks.tuple h1 I l h2 its)
  (λI h' kp e=>⟨⟨_,e,rfl,rfl⟩,j.at (kp l)⟩) ?_ (by lia) h
 intro i v a;rw[<-zaw] at a;clear h;revert i;generalize its.toList=vs at m;clear el u
 induction m with
 |nil=>intro i a;simp at a
 |cons x t r ih=>
  intro i a;cases i with
  |zero=>simp at a;exact⟨t,by rw[<-a];rfl⟩
  |succ i=>
   rw[zam] at a;obtain⟨n,e⟩:=ih i a;exact⟨n,e⟩
theorem qq{ss:List Int}(y:A.handled=none)(j:s.heap.IsList l its)(m:IntsAre its.toList ss)(u:ss.length<4000)(h:∀(h':Heap)(tk:Nat),gX prog w h' s.heap.objs.size (allI (λi=>ss.getD i 0) ss.length)->(∀b o,b<s.heap.objs.size->s.heap.get? b=some o->h'.get? b=some o)->Q (.ref s.heap.objs.size) {s with heap:=h',toks:=tk}):
  yar (model prog w) A (call (.type "set") [.ref l]) Q E s:=by
 have el:its.size=ss.length:=by rw[<-zaJ,m.length]
 rw[<-el] at h;refine qX (T:="list") (St:=λI i h=>h.IsListIter I l i/\h.IsList l its) (ob:={cls:=.type "list_iterator",data:=.fields #[.ref l,.int 0 0]}) (P:=λi v=>its[i]? =some v) y j.typeIs PySem.F.sub_list_set PySem.F.sub_list_frozenset (by decide) (λkp q=>wpAny_pyIter_list (j.at (kp l)) q) rfl (λI h1 h2=>Walks.list h1 I l h2 its)
  (λI h' kp e=>⟨⟨_,e,rfl,rfl⟩,j.at (kp l)⟩) ?_ (by lia) h
 intro i v a;rw[<-zaw] at a;clear h;revert i;generalize its.toList=vs at m;clear el u
 induction m with
 |nil=>intro i a;simp at a
 |cons x t r ih=>
  intro i a;cases i with
  |zero=>simp at a;exact⟨t,by rw[<-a];rfl⟩
  |succ i=>
   rw[zam] at a;obtain⟨n,e⟩:=ih i a;exact⟨n,e⟩
theorem EZ{S:List Int}{x y:Int}:y∈lZ S x↔y∈S∨y=x:=by
 unfold lZ;split
 ·exact⟨.inl,λz=>z.elim id λe=>e▸‹_›⟩
 ·simp
theorem xW{S:List Int}{x:Int}(h:S.Nodup):(lZ S x).Nodup:=by
 unfold lZ;split
 ·exact h
 ·rw[zbf];refine⟨h,by simp,λa j b i=>?_⟩;simp only[zaO] at i;subst i;intro e;subst e;exact absurd j ‹_›
theorem oN(val:Nat->Int):∀n,(allI val n).Nodup
 |0=>List.nodup_nil
 |n+1=>xW (oN val n)
theorem uT(val:Nat->Int)(y:Int):∀n,y∈allI val n↔∃i,i<n/\val i=y
 |0=>by simp[allI]
 |n+1=>by
  show y∈lZ _ _↔_;rw[EZ,uT val y n];constructor
  ·rintro(⟨i,h,e⟩|e)
   ·exact⟨i,by lia,e⟩
   ·exact⟨n,by lia,e.symm⟩
  ·rintro⟨i,h,e⟩;rcases zcA i n with z|z
   ·exact .inl ⟨i,z,e⟩
   ·obtain rfl:i=n:=by lia
    exact .inr e.symm
theorem lO(ss:List Int)(y:Int):y∈allI (λi=>ss.getD i 0) ss.length↔y∈ss:=by
 rw[uT];constructor
 ·rintro⟨i,h,e⟩;have:ss.getD i 0=ss[i]:=by simp[h]
  rw[this] at e;exact e▸zby h
 ·intro h;obtain⟨i,h1,e⟩:=zaG h;exact⟨i,h1,by simp[h1,e]⟩
theorem KS{sl:Nat}{Q:Option (yai×Nat)->yah->Prop}(n:w.params.followText "set-order"=false)(q:wK s.heap a es ep t)(m:t.fits es.size=true)(h1:(!t.plain&&decide (es.size> 1))=false)(l:t.led=true)(h:Q (match es[SetTable.below t.place sl]?,t.place[SetTable.below t.place sl]? with|some (_,x),some j=>some (x,j+1)|_,_=>none) s):yar (model prog w) A (setNext a sl i ep) Q E s:=by
 obtain⟨o,e,u,hd⟩:=q;unfold setNext;refine yaa (wpAny_setState_of e hd m ?_);dsimp only;refine yaa (gM ?_);rw[yIn (by rw[n];decide)];rw[yIn (by
  show¬((!t.plain&&decide (es.size> 1))=true);rw[h1];decide)]
 refine yaa ?_;show yar _ _ (if(!t.led&& !es.isEmpty)=true then unsupported "set:maker-not-led" else pure ()) _ _ _;rw[yIn (by rw[l];simp)];refine yab (yab ?_);exact h
def SJ(vs:List yai)(S:List Int):Prop:=(∀v∈vs,∃x t,v=.int x t)/\(vs.map intOf).Perm S
theorem Jf{l:List (Int×yai)}{S:List Int}(a:ElemsOf (PySem.intKind prog w) es.toList)(j:(es.toList.map λe=>intOf e.2).Perm S)(h:l.Perm es.toList):SJ (l.map (·.2)) S:=by
 refine⟨λv i=>?_,?_⟩
 ·obtain⟨e,n,rfl⟩:=zcu.mp i;obtain⟨⟨k,m,_⟩,_⟩:=a e (h.mem_iff.mp n);obtain⟨t,z⟩:=Value.isInt_shape m;exact⟨k,t,z⟩
 ·rw[zct];exact(h.map _).trans j
def yR(w:yak)(h:Heap)(a:Addr)(es:Array (Int×yai))(ep:Nat)(t:SetTable):Prop:=
 ∃o,h.get? a=some o/\o.ExactSet/\o.data=.set es ep t/\t.fits es.size=true/\t.led=(!w.params.followText "set-order")/\(t.plain=true->nc t.place)
theorem yR.keep{w:yak}(x:yR w h a es ep t)(e:∀o,h.get? a=some o->h'.get? a=some o):yR w h' a es ep t:=
 by obtain⟨o,i,r⟩:=x;exact⟨o,e o i,r⟩
theorem Fg(hS:yR w s.heap a es ep t)(hn:es.size<4000)(h:∀(I:Addr)(H:List yai)(fp:List Addr)(St:Nat->Heap->Prop)(h':Heap) d,(∀b o,s.heap.get? b=some o->h'.get? b=some o)->s.heap.objs.size<=I->(∀b∈fp,b=a∨s.heap.objs.size<=b)->(∀{A':yal},A'.handled=none->Walks prog w A' I fp [I] H.length (λi v=>H[i]? =some v) St)->St 0 h'->H.Perm (es.toList.map (·.2))->Q (.ref I) {s with heap:=h',drawn:=d}):
  yar (model prog w) A (pyIter (.ref a)) Q E s:=by
 obtain⟨o,C,G,hd,n,y,hpl⟩:=hS;have sa:wK s.heap a es ep t:=⟨o,C,G.1,hd⟩
 have la:a<s.heap.objs.size:=zcF C;refine wpAny_pyIter_slot sa.typeIs M5.F.nU (wpAny_call_entry M5.F.nU sa.typeIs M5.F.vj ?_ (M5.F.yK _));unfold Builtin.«frozenset.__iter__»;refine yaa (wpAny_of_eq (a:=a) rfl ?_);refine yaa (yaa (wpAny_setEntries_of C hd n (yab ?_)));refine yaa ?_;unfold setDrawn;refine yaa (wpAny_setState_of C hd n ?_);dsimp only;refine yaa (gM ?_);refine yab ?_;cases Y:w.params.followText "set-order" with
 |true=>
  rw[yIn (by simp)];refine yaa (yab ?_);refine yaa (wpAny_setEpoch_of C hd n ?_);refine yaa (yae ?_);have P:=zaq (OH (rawInt 0) 0 a es.size ep) C;have S:jr (s.heap.push (OH (rawInt 0) 0 a es.size ep)) s.heap.objs.size (rawInt 0) 0 a es.size ep:=⟨_,zaK _ rfl,rfl,rfl⟩
  refine yab ⟨_,rfl,"set_iterator",_,⟨_,zaK _ rfl,rfl⟩,M5.F.slot_next.lookup,?_⟩;have U:=qB (w.params.setOrder a ep) es;refine h s.heap.objs.size ((pickOrder (w.params.setOrder a ep) es).toList.map (·.2)) [s.heap.objs.size,a] _ _ s.drawn (λb o e=>zaq _ e) (zcI _) (λb z=>?_)
   (λ{A'} X=>CW (sl:=λ_=>0) (ep:=ep) (es:=es) (t:=t) X (zcv la) n (by rw[zbJ,U.length_eq,zaJ]) ?_ ?_) ⟨S,_,P,G.1,hd⟩ (U.map _)
  ·simp only[zch,zbA,or_false] at z;rcases z with rfl|rfl
   ·exact .inr (zcI _)
   ·exact .inl rfl
  ·intro i x u A' s' Q' E' m q;refine KU Y m n ?_;rw[zba,zaw] at u;cases hy:(pickOrder (w.params.setOrder a ep) es)[i]? with
   |none=>rw[hy] at u;cases u
   |some e=>rw[hy] at u;injection u with u;subst u;exact q
  ·intro A' s' Q' E' m q;refine KU Y m n ?_;rw[zap (by rw[zbJ,zaJ];exact zcI _)];exact q
 |false=>
  rw[Y] at y;have O:t.place.size=es.size:=by
   simp only[SetTable.fits,zbF,beq_iff_eq] at n;exact n.1
  by_cases hz:(!t.plain&&decide (es.size> 1))=false
  ·have hR:nc t.place:=by
    cases W:t.plain with
    |true=>exact hpl W
    |false=>
     rw[W] at hz;have hz:decide (es.size> 1)=false:=hz;have hz:=of_decide_eq_false hz;intro i j hij hj _;lia
   rw[yIn (by
    show¬((!false&&(!t.plain&&decide (es.size> 1)))=true);rw[hz];decide)]
   refine yaa (yab ?_);refine yaa (wpAny_setEpoch_of C hd n ?_);refine yaa (yae ?_);have P:=zaq (OH (rawInt 0) 0 a es.size ep) C;have S:jr (s.heap.push (OH (rawInt 0) 0 a es.size ep)) s.heap.objs.size (rawInt 0) 0 a es.size ep:=⟨_,zaK _ rfl,rfl,rfl⟩
   refine yab ⟨_,rfl,"set_iterator",_,⟨_,zaK _ rfl,rfl⟩,M5.F.slot_next.lookup,?_⟩;have K6:∀i,i<=es.size->SetTable.below t.place (if i=0 then 0 else t.place.getD (i - 1) 0+1)=i:=λi hi=>by
    by_cases h0:i=0
    ·subst h0;rw[yIp rfl];exact yF hR
    ·rw[yIn h0];have h1:i - 1<t.place.size:=by lia
     have Z:t.place.getD (i - 1) 0=t.place[i - 1]:=by simp[zcO,h1]
     rw[Z,yG hR h1];lia
   refine h s.heap.objs.size (es.toList.map (·.2)) [s.heap.objs.size,a] _ _ s.drawn (λb o e=>zaq _ e) (zcI _) (λb z=>?_)
    (λ{A'} X=>CW (sl:=λi=>if i=0 then 0 else t.place.getD (i - 1) 0+1) (ep:=ep) (es:=es) (t:=t) X (zcv la) n (by rw[zbJ,zaJ]) ?_ ?_) ⟨S,_,P,G.1,hd⟩ (.refl _)
   ·simp only[zch,zbA,or_false] at z;rcases z with rfl|rfl
    ·exact .inr (zcI _)
    ·exact .inl rfl
   ·intro i x u A' s' Q' E' m q;have hi:i<es.size:=by
     have:=(zad.mp u).1;simpa using this
    refine KS Y m n hz y ?_;rw[zba,zaw,zai hi] at u;injection u with u;subst u;rw[K6 i (by lia),zai hi,zai (by lia:i<t.place.size)];have Z:(if i+1=0 then 0 else t.place.getD (i+1 - 1) 0+1)=t.place[i]'(by lia)+1:=by
     rw[yIn (by lia),Nat.add_sub_cancel];simp[zcO,(by lia:i<t.place.size)]
    rw[Z] at q;exact q
   ·intro A' s' Q' E' m q;refine KS Y m n hz y ?_;rw[zbJ,zaJ];have en:es[SetTable.below t.place (if es.size=0 then 0 else t.place.getD (es.size - 1) 0+1)]? =none:=by
     rw[K6 es.size (zcI _)];exact zap (zcI _)
    rw[en];exact q
  ·have hz:(!t.plain&&decide (es.size> 1))=true:=by simpa using hz
   rw[yIp (by
    show(!false&&(!t.plain&&decide (es.size> 1)))=true;rw[hz];rfl)]
   refine yaa (vN _ _ (by simp) λps d O=>?_);obtain⟨l,Z,e2,e3⟩:=pull es ps O;refine yaa ?_;unfold newTuple;refine yae (s:={s with drawn:=d}) ?_ (by
    have:ps.length=es.size:=by rw[O.length_eq,zbe]
    show(ps.map λ(i:Nat)=>rawInt i).toArray.size<=yag;rw[zaY,zbJ,yaf];lia)
   refine yaa (wpAny_setEpoch_of (s:={s with heap:=s.heap.push _,drawn:=d}) (zaq _ C) hd n ?_);refine yaa (yae ?_);generalize L:({cls:=.type "tuple",data:=.seq (ps.map λ(i:Nat)=>rawInt i).toArray}:Obj)=to;have hT1:(s.heap.push to).get? s.heap.objs.size=some to:=zaK _ (by rw[<-L];rfl);have z1:(s.heap.push to).objs.size=s.heap.objs.size+1:=zcg ..;have gI:((s.heap.push to).push (OH (.ref s.heap.objs.size) 0 a es.size ep)).get? (s.heap.push to).objs.size=some (OH (.ref s.heap.objs.size) 0 a es.size ep):=zaK _ rfl;refine yab ⟨_,rfl,"set_iterator",_,⟨_,gI,rfl⟩,M5.F.slot_next.lookup,?_⟩;refine h (s.heap.push to).objs.size (l.map (·.2)) [(s.heap.push to).objs.size,a,s.heap.objs.size] _ _ d (λb o e=>zaq _ (zaq _ e)) (by rw[z1];exact zcK _) (λb z=>?_)
    (λ{A'} X=>Lj (T:=s.heap.objs.size) (ep:=ep) (es:=es) (t:=t) (ps:=ps) X (by rw[z1];exact zcv (zbh la)) (by rw[z1];exact zcv (Nat.lt_succ_self _)) n (by rw[zbJ];exact Z) (λi h1 h2=>?_)) ⟨⟨_,gI,rfl,rfl⟩,⟨_,zaq _ (zaq _ C),G.1,hd⟩,⟨_,zaq _ hT1,by rw[<-L],0,by rw[<-L]⟩⟩ (e2.map _)
   ·rw[z1] at z;simp only[zch,zbA,or_false] at z;rcases z with rfl|rfl|rfl
    ·exact .inr (zcK _)
    ·exact .inl rfl
    ·exact .inr (zcI _)
   ·have h3:i<l.length:=by rw[zbJ] at h2;exact h2
    refine⟨l[i].1,?_⟩;rw[e3 i h1 h3,zbz]
theorem intsAre_map:∀(vs:List yai),(∀v∈vs,∃x t,v=.int x t)->IntsAre vs (vs.map intOf)
 |[],_=>.nil
 |v::vs,h=>by
  obtain⟨x,t,rfl⟩:=h v (by simp);exact .cons x t (intsAre_map vs λu a=>h u (zay _ a))
theorem B6{Q:Bool->yah->Prop}(e:s.TypeIs (.ref a) "set")(h:Q false s):yar (model prog w) A (Builtin.List.listLengthHint (.ref a)) Q E s:=by
 unfold Builtin.List.listLengthHint;refine yaa (wpAny_specialOf e PySem.F.slot_set_len.lookup ?_);dsimp only;rw[show splitId "set.__len__"=some ("set","__len__") by decide+kernel];dsimp only;refine yaa (wpAny_isInstance (b:=true) e sub_set_self ?_);rw[yIn (by decide)];rw[yIp (by decide+kernel)];refine yaa (wpAny_typeOf e ?_);exact yab h
theorem yq{L:Addr}{R:Result->yah->Prop}(hh:A.handled=none)(Y:yR w s.heap a es ep t)(hn:es.size<4000)(Q:s.heap.get? L=some {cls:=.type "list",data:=.seq #[]})(x:L≠a)(hR:∀s' (h:List yai) n,(∀b o,b≠L->s.heap.get? b=some o->s'.heap.get? b=some o)->s'.gens=s.gens->s'.os=s.os->s'.heap.get? L=some {cls:=.type "list",dict:=none,data:=.seq h.toArray n,slots:=#[]}->h.Perm (es.toList.map (·.2))->R (.ok (.ret (.ref L))) s'):
  yar (model prog w) A.in1 (Builtin.List.listExtendWith (.ref L) (.ref a) (.ref L))
   (λS s'=>match S with|.done f=>R (.ok f) s'|.again n=>n.quiet=true/\codeAny (model prog w) A n R s') (λe s'=>R (.error e) s') s:=by
 have U:s.TypeIs (.ref a) "set":=by obtain⟨o,G,P,_⟩:=Y;exact⟨o,G,P.1⟩
 unfold Builtin.List.listExtendWith;refine yaa (wpAny_typeOf U ?_);have h1:Builtin.List.listSameRef (.ref L) (.ref a)=false:=by simp[Builtin.List.listSameRef,x]
 have h2:(Value.type "set"==Value.type "list")=false:=by decide
 have h3:(Value.type "set"==Value.type "tuple")=false:=by decide
 simp only[h1,h2,h3,zcm,zaU,if_false];refine yaa (Fg Y hn λI h fp St y d kp hI O W E tx=>?_);have ll:L<s.heap.objs.size:=zcF Q;have v:L ∉ fp:=λz=>(O L z).elim x λz=>absurd ll (Nat.not_lt.mpr z);have C:Shared.TypeIs {s with heap:=y,drawn:=d} (.ref a) "set":=by obtain⟨o,G,hc⟩:=U;exact⟨o,kp _ _ G,hc⟩
 refine yaa (yad (B6 C ?_));rw[yIp (by rfl)];refine yaa (wpAny_rule ?_);refine yaa ?_;show yar _ A.in1 (updateSeq L (·.push .none) >>= λ_=>updateSeq L (·.pop)) _ _ _;refine yaa (wpAny_updateSeq (s:={s with heap:=y,drawn:=d}) (kp _ _ Q) rfl ?_);have Z:=zax (Obj.mapSeq (·.push Value.none)) (kp _ _ Q) rfl;refine wpAny_updateSeq (hz:=by seq_fits) Z rfl ?_;have g3:=zax (Obj.mapSeq (·.pop)) Z rfl;have q:∀b o,b≠L->y.get? b=some o->((y.update L (Obj.mapSeq (·.push Value.none))).update L (Obj.mapSeq (·.pop))).get? b=some o:=
  λb o m e=>(zar _ _ (Ne.symm m)).trans ((zar _ _ (Ne.symm m)).trans e)
 have X:h.length=es.size:=by rw[tx.length_eq,zbJ,zaJ]
 have WS:=(W (A':=A.in1) hh).toS;refine yab ⟨plainId_quiet PySem.F.plain_extend_loop _,codeAny_extend_loopS WS (by rw[yaf];lia) _ v _ h.length 0 _ _ _ rfl (zcJ _) (WS.frame 0 {s with heap:=y,drawn:=d} _ s.toks E (zcI _) λb m o e=>q b o (λz=>v (z▸m)) e) g3 (ItemsOf.nil _) λs' j n H u l=>?_⟩;have ea:j=h.toArray:=by
  refine Array.ext (by rw[l.1,zaY]) λi h1 h2=>?_;have z:h[i]? =some j[i]:=l.2 i j[i] (zai h1);have h2:i<h.length:=by simpa using h2
  rw[zak h2] at z;simpa using(zcL.inj z).symm
 rw[ea] at u;refine hR s' h n (λb o m e=>?_) H.gens H.os u tx;refine H.heap b o ?_ (q b o m (kp b o e));simp only[zch,zbA,or_false];rintro(z|z)
 ·exact m z
 ·have:=zcF e;rw[z] at this;exact absurd this (Nat.not_lt.mpr hI)
theorem qa{R:Result->yah->Prop}(q:A.handled=none)(j:yR w s.heap a es ep t)(n:es.size<4000)(u:∀s' (h:List yai) i,(∀b o,s.heap.get? b=some o->s'.heap.get? b=some o)->s'.gens=s.gens->s'.os=s.os->s'.heap.get? s.heap.objs.size=some {cls:=.type "list",dict:=none,data:=.seq h.toArray i,slots:=#[]}->h.Perm (es.toList.map (·.2))->R (.ok (.ret (.ref s.heap.objs.size))) s'):
  codeAny (model prog w) A (.builtin "proto.collect" ⟨[.ref a],[]⟩) R s:=by
 have l:a<s.heap.objs.size:=by obtain⟨o,m,_⟩:=j;exact zcF m
 refine codeAny_builtin entry_proto_collect' ?_;show yar _ _ (do again (.builtin "list.__iadd__" ⟨[<-newList [],.ref a],[]⟩)) _ _ s;refine yaa (wpAny_newList (yab ⟨Code.quiet_builtin _ (by decide+kernel),codeAny_builtin entry_list_iadd' ?_⟩));rw[Around.under_plainId (show plainId "list.__iadd__"=true by decide+kernel) _];show yar _ _ (Builtin.List.listExtendWith (.ref s.heap.objs.size) (.ref a) (.ref s.heap.objs.size)) _ _ {s with heap:=s.heap.push (seqObj "list" #[] 0)};refine yq (s:={s with heap:=s.heap.push (seqObj "list" #[] 0)}) ?_ (j.keep λo e=>zaq _ e) n (zaK _ rfl) (zcy l) λs' h i kp x v g tx=>?_
 ·exact q
 ·exact u s' h i (λb o e=>kp b o (zcv (zcF e)) (zaq _ e)) x v g tx
theorem mL{Q:List yai->yah->Prop}(j:A.handled=none)(l:yR w s.heap a es ep t)(i:es.size<4000)(h:∀s' (e:List yai),(∀b o,s.heap.get? b=some o->s'.heap.get? b=some o)->s'.gens=s.gens->s'.os=s.os->s.heap.objs.size<=s'.heap.objs.size->e.Perm (es.toList.map (·.2))->Q e s'):yar (model prog w) A (collect (.ref a)) Q E s:=by
 unfold collect;refine yaa (wpAny_runValue (qa j l i λs' e q kp n m g tx=>?_));dsimp only;refine yaa (wpAny_load g ?_);exact yab (h s' e kp n m (zcx (zcF g)) tx)
theorem uf{S:List Int}(O:A.handled=none)(W:gX prog w s.heap a S)(hn:S.length<64)(h:∀(p:Addr) s' (out:List yai)(ss:List Int) c,(∀b o,s.heap.get? b=some o->s'.heap.get? b=some o)->s'.gens=s.gens->s'.os=s.os->s.heap.objs.size<=p->s'.heap.get? p=some (seqObj "list" out.toArray c)->IntsAre out ss->ss.Perm S->ss.Pairwise (· <=·)->Q (.ref p) s'):
  yar (model prog w) A (call (.builtin "sorted") [.ref a]) Q E s:=by
 refine zaj kind_sorted plain_sorted entry_sorted (args_sorted1 _) ?_;unfold Builtin.«sorted»;refine yaa (m:=checkCount "sorted" 1 1 _) (yab ?_);obtain⟨o,L,es,ep,t,v,hd,x,G,P,l,u⟩:=W;have I:es.size=S.length:=by rw[<-G.length_eq,zbJ,zaJ]
 refine yaa (mL (es:=es) (ep:=ep) (t:=t) ?_ ⟨o,L,v,hd,P,l,u.2⟩ (by lia) λn i kp Y X le tx=>?_)
 ·exact O
 obtain⟨H,j,rfl⟩:=M6.eU tx;have tx:=Jf x G j;clear j;generalize H.map (·.2)=i at*;have hl:i.length=S.length:=by rw[<-tx.2.length_eq,zbJ]
 refine yaa (wpAny_newList ?_ (by first|(rw[yaf];lia)|(rw[zaY,yaf];lia)));have y:IntsAre i (i.map intOf):=intsAre_map i tx.1;have C:(n.heap.push (seqObj "list" i.toArray 0)).get? n.heap.objs.size=some (seqObj "list" i.toArray 0):=zaK _ rfl;refine yaa (yad (wpAny_call_entry slot_list_sort ⟨_,C,rfl⟩ entry_list_sort (list_sort_tree C y (by lia) λout q a1 a2 Z=>⟨_,rfl,?_⟩) (args_list_sort _)));obtain⟨c,U⟩:=sortedHeap_at (out:=out) C;refine yab ⟨_,rfl,h n.heap.objs.size _ out.toList q c (λb o e=>?_) Y X le ?_ a1 (a2.trans tx.2) Z⟩
 ·have F:=zcF (kp b o e);show(sortedHeap _ _ _ _).get? b=some o;rw[sortedHeap_old (zcv F) (by rw[size_push'];exact zbh F)];exact zaq _ (kp b o e)
 ·rw[zaC];exact U
end M7
namespace L2
open PySem PySem.Spec PyProof.Rows
def ql(K:yaI)(j:TE):TE:=λi H Q=>j i H λx h=>∃(p:Addr)(e:List Int),x=.ref p/\(dJ K h p (e.map V.int)∨cN K h p (e.map V.int))/\e.length<64/\
 ∀(l:Addr)(a:List Int),h l=none->a.Nodup->(∀y,y∈a↔y∈e)->a.Pairwise (· <=·)->Q (.ref l) (upd h l (.lst (a.map V.int)))
section
variable {ta:TE}
theorem iA(hc:X.calm=true)(hg:Gl X "sorted")(hm:X.mg "sorted"=none)(hg2:Gl X "set")(Z:X.mg "set"=none)(he:PE X e ta)(L:notStar e=true:=by rfl):
  PE X (.Call (.Name "sorted" p) [.Call (.Name "set" p2) [e] [] pos2] [] pos) (ql X.K ta):=by
 intro n s σ H Q I h;have hk:=I.ok.hd hc;refine wpAny_Call_Name_kw (cH I hg hm (u:=.builtin "sorted") (by decide+kernel) ?_ (by decide+kernel) (by decide+kernel));refine PyProof.Rows.callWith_builtin1 (E:=X.xe) ?_ (aM [] X.env rfl) rfl;rw[aM [] X.env rfl];refine zaX ?_;refine wpAny_Call_Name_kw (cH I hg2 Z (u:=.type "set") (by decide+kernel) ?_ (by decide+kernel) (by decide+kernel));refine PyProof.Rows.callWith_type1 (E:=X.xe) ?_ (aM [] X.env L) rfl;rw[aM [] X.env L];refine zaX (bQ (he n s σ H _ I h) λu j P=>?_);obtain⟨x,H1,O,rx,a,ss,ex,F,hl,q⟩:=P;subst ex;obtain rfl:u=Value.ref a:=rx;refine zbp ?_;have G:∀(m:Heap)(tk:Nat),M7.gX X.prog X.w m j.heap.objs.size (M7.allI (λi=>ss.getD i 0) ss.length)->(∀b o,b<j.heap.objs.size->j.heap.get? b=some o->m.get? b=some o)->
   yar (model X.prog X.w) X.A (call (.builtin "sorted") [.ref j.heap.objs.size]) (EP X n σ Q) X.xe {j with heap:=m,toks:=tk}:=by
  intro m tk v kp;have ac:=M7.iM (λi=>ss.getD i 0) ss.length;refine M7.uf (s:={j with heap:=m,toks:=tk}) hk v (by lia) λl s2 out t c W e1 e2 le g hS Y L=>?_;obtain⟨h2,g2,d2,t2,o2⟩:=s2;obtain rfl:g2=j.gens:=e1;obtain rfl:o2=j.os:=e2;have U:∀b o,j.heap.get? b=some o->h2.get? b=some o:=λb o z=>W b o (kp b o (zcF z) z);have C:j.heap.objs.size<=l:=by
   obtain⟨o,ho,_⟩:=v;exact zcw (zcx (zcF ho)) le
  have ab:t.length<64:=by rw[Y.length_eq];lia
  refine⟨.ref l,_,(O.laid (a:=l) (t':=t2) (o:=.lst (t.map V.int)) U C ⟨by rw[zbJ,yaf];lia,out,c,lA hS,g⟩).S6 d2,rfl,q l t (O.hok.fresh C) (Y.nodup_iff.mpr (M7.oN _ _)) (λy=>(Y.mem_iff).trans (M7.lO ss y)) L⟩
 rcases F with F|F
 ·obtain⟨its,S,pl,hz⟩:=O.tuple F;refine M7.nV (its:=its.toArray) (ss:=ss) hk pl (by simpa using intsAre_of S) (by lia) λm tk v kp=>?_;exact zbp (G m tk v kp)
 ·obtain⟨its,S,pl,hz⟩:=O.list F;refine M7.qq (its:=its.toArray) (ss:=ss) hk pl.isList (by simpa using intsAre_of S) (by lia) λm tk v kp=>?_;exact zbp (G m tk v kp)
end
end L2
namespace M
open PySem PySem.Spec PyProof.Rows L2
def l5(a:AE):AE:=λj S Q=>a j S λr i=>∃h:List Int,(aS i r.d=.tup (h.map D.int)∨aS i r.d=.lst (h.map D.int))/\h.length<64/\
 ∀e:List Int,e.Nodup->(∀y,y∈e↔y∈h)->e.Pairwise (· <=·)->Q (.new (.lst (e.map D.int))) i
theorem xm{a:AE}:∀n H Q,aR K (l5 a) n H Q->ql K (aR K a) n H Q:=by
 rintro n H Q ⟨w,F,S,O,ok,env,q,bk⟩;refine⟨w,F,S,_,ok,env,q,.go λL E I v P j e i o=>?_⟩;obtain⟨x,z,C,y⟩:=o;rcases z with z|z
 ·obtain⟨a,G,rfl,h1,h2⟩:=bX e i z;rw[eS h2] at h1;exact⟨a,x,rfl,.inl h1,C,λl h m u t s=>bk (.new (.lst _)) E _ v _ j (e.alloc m) (e.fresh m ⟨_,rfl,eF h⟩) (y h u t s)⟩
 ·obtain⟨a,G,rfl,h1,h2⟩:=bz e i z;rw[eS h2] at h1;exact⟨a,x,rfl,.inr (cN.of h1),C,λl h m u t s=>bk (.new (.lst _)) E _ v _ j (e.alloc m) (e.fresh m ⟨_,rfl,eF h⟩) (y h u t s)⟩
theorem iA(n:X.calm=true)(l:Gl X "sorted")(j:X.mg "sorted"=none)(h:Gl X "set")(a:X.mg "set"=none)(m:GE X e ta)(i:notStar e=true:=by rfl):
  GE X (.Call (.Name "sorted" p) [.Call (.Name "set" p2) [e] [] pos2] [] pos) (l5 ta):=⟨mE (L2.iA n l j h a m.p i) xm⟩
theorem j6{k:Nat}(D:Def X.prog X.w X.K X.mg X.base k x ps (av X.K sp))(e:aX k X.A)(l:Gl X x)(a:(x==("__debug__":Str))=false:=by decide+kernel):
  GE X (.Call (.Name x p) [] [] pos) (aCall sp kH):=⟨by
 obtain⟨f,fd,F,i,j,m⟩:=D.ex;refine mE (L2.EJ F e l i j m .nil zR a) λo H Q h=>?_;obtain⟨w,s,S,n,ok,env,q,bk⟩:=h;exact⟨w,[],S,n,ok,.nil,q,bk⟩⟩
end M
namespace M
open PySem L2
noncomputable def c9(s sub:Str)(hi:Nat)(p:Array Nat×Nat)(i:Nat):Array Nat×Nat:=
 if(decide (p.1.size<1)&&decide (p.2<=i)&&decide (i+sub.length<=hi)&&Builtin.Str.subAt s sub i)=true then(p.1.push i,i+sub.length) else p
theorem EM(s sub:Str)(hi:Nat):Builtin.Str.occurrences s sub 0 hi 1=((zcM (hi+1)).foldl (c9 s sub hi) (#[],0)).1.toList:=by
 unfold Builtin.Str.occurrences;simp only[Std.Legacy.Range.forIn_eq_forIn_range',Std.Legacy.Range.size,Nat.sub_zero,Nat.add_sub_cancel,Nat.div_one,List.range_eq_range'];have e:∀(l:List Nat)(p:Array Nat×Nat),(forIn (m:=Id) l p λi __s=>if(decide (__s.fst.size<1)&&decide (__s.snd<=i)&&decide (i+sub.length<=hi)&&Builtin.Str.subAt s sub i)=true then pure (ForInStep.yield (__s.fst.push i,i+sub.length)) else pure (ForInStep.yield (__s.fst,__s.snd)))=pure (l.foldl (c9 s sub hi) p):=by
  intro l
  induction l with
  |nil=>intro p;rfl
  |cons i l ih=>
   intro p;rw[List.forIn_cons,zbQ];unfold c9;split
   ·exact ih _
   ·exact ih _
 rw[e];rfl
theorem uK{s sub:Str}{hi:Nat}:∀(l:List Nat)(p:Array Nat×Nat),1<=p.1.size->l.foldl (c9 s sub hi) p=p
 |[],_,_=>rfl
 |i::l,p,h=>by
  rw[zbQ];have e:c9 s sub hi p i=p:=by
   unfold c9;rw[yIn];rw[yDf (by lia)];simp
  rw[e];exact uK l p h
theorem zU{s sub:Str}{hi:Nat}:∀l:List Nat,(l.foldl (c9 s sub hi) (#[],0)).1.isEmpty= !(l.any λi=>decide (i+sub.length<=hi)&&Builtin.Str.subAt s sub i)
 |[]=>rfl
 |i::l=>by
  rw[zbQ,zcj];by_cases h:(decide (i+sub.length<=hi)&&Builtin.Str.subAt s sub i)=true
  ·have e:c9 s sub hi (#[],0) i=(#[i],i+sub.length):=by
    unfold c9;rw[yIp]
    ·rfl
    ·rw[Bool.and_assoc,h];simp
   rw[e,uK l _ (by simp),h];rfl
  ·have e:c9 s sub hi (#[],0) i=(#[],0):=by
    unfold c9;rw[yIn];rw[Bool.and_assoc];intro a;simp only[zbF] at a;exact h (by simp only[zbF];exact a.2)
   rw[e,zU l,Bool.eq_false_iff.mpr h,Bool.false_or]
theorem HE(s:Str)(c:Nat):(!(Builtin.Str.occurrences s ⟨#[c]⟩ 0 s.length 1).isEmpty)=decide (c∈s.cps.toList):=by
 rw[EM];have:=zU (s:=s) (sub:=⟨#[c]⟩) (hi:=s.length) (zcM (s.length+1));rw[show∀a:Array Nat,a.toList.isEmpty=a.isEmpty from λa=>by simp,this,Bool.not_not];rw[zbX,decide_eq_true_iff,zbC];constructor
 ·rintro⟨i,_,h⟩;simp only[zbF,decide_eq_true_eq] at h;obtain⟨h1,h2⟩:=h;have h1:i+1<=s.cps.size:=h1;have h2:s.cps.extract i (i+1)=#[c]:=eq_of_beq h2;have l:=congrArg (λa:Array Nat=>a[0]?) h2;simp[Array.getElem?_extract] at l;exact Array.mem_toList_iff.mpr (Array.mem_of_getElem? l.2)
 ·intro h;obtain⟨i,hi,e⟩:=zaG h;have m:i<s.cps.size:=by simpa using hi
  refine⟨i,by rw[zca];show i<s.cps.size+1;lia,?_⟩;simp only[zbF,decide_eq_true_eq];refine⟨by show i+1<=s.cps.size;lia,?_⟩;show(s.cps.extract i (i+1)==#[c])=true;rw[beq_iff_eq];refine Array.ext (by simp;lia) λj h1 h2=>?_;have:j=0:=by simp at h2;lia
  subst this;simpa using e
def Sy(a:Bool):A2:=λx y S Q=>∃i j,aS S x=.str i/\aS S y=.str j/\Q (.dat (.bl (a != !(Builtin.Str.occurrences j i 0 j.length 1).isEmpty))) S
theorem EO:mQ X (yan .NotIn) (Sy true):=⟨m2 sr λx y H Q h=>by
 obtain⟨w,d,e,S,o,ok,n,m,⟨i,j,l,a,q⟩,bk⟩:=h;exact⟨i,j,bM n l,bM m a,bk.dat .refl ok .bl (by simpa using q)⟩⟩
end M
namespace M8
open PySem PySem.Spec PyProof.Rows
open PySem.SetTable (Probe bits runEnd leap turns)
theorem R4{α:Type}[DecidableEq α]:∀{l m:List α},l.Nodup->(∀x∈l,x∈m)->l.length<=m.length
 |[],m,_,_=>zcJ _
 |a::l,m,hn,hs=>by
  rw[zbL] at hn;have h1:l.length<=(m.erase a).length:=R4 hn.2 λx h=>by
   have:x≠a:=λe=>hn.1 (e▸h);exact(List.mem_erase_of_ne this).mpr (hs x (zay _ h))
  have h2:a∈m:=hs a (by simp);have j:=zal h2;have i:0<m.length:=zao h2;rw[zbq];lia
noncomputable def CT(m:Nat)(p:Probe):Probe:=
 if p.more> 0 then{p with j:=p.j+1,more:=p.more - 1} else
 {p with j:=(leap m p.i p.perturb).1,more:=runEnd m (leap m p.i p.perturb).1 - (leap m p.i p.perturb).1,i:=(leap m p.i p.perturb).1,perturb:=(leap m p.i p.perturb).2}
theorem F6(t:SetTable)(p:Probe):t.advance p=CT t.mask p:=rfl
noncomputable def bP(m:Nat)(q:Nat×Nat):Probe:={j:=q.1,more:=runEnd m q.1 - q.1,i:=q.1,perturb:=q.2,dummy:=none}
noncomputable def ru(m:Nat)(h:Int):Nat->Nat×Nat
 |0=>(bits h % (m+1),bits h)
 |k+1=>leap m (ru m h k).1 (ru m h k).2
noncomputable def road(m:Nat)(h:Int):Nat->Probe
 |0=>bP m (ru m h 0)
 |n+1=>CT m (road m h n)
noncomputable def nk(m:Nat)(h:Int):Nat->Nat
 |0=>0
 |k+1=>nk m h k+(runEnd m (ru m h k).1 - (ru m h k).1)+1
theorem Mi:runEnd m i - i<=9:=by unfold runEnd;split<;>lia
theorem xJ:i<=runEnd m i:=by unfold runEnd;split<;>lia
theorem Ef(h:i<=m):runEnd m i<=m:=by unfold runEnd;split<;>lia
theorem Eh(m:Nat)(h:Int):∀k,(ru m h k).1<=m
 |0=>zbi (zcN _ (Nat.succ_pos m))
 |k+1=>zbi (zcN _ (Nat.succ_pos m))
theorem KQ(m:Nat)(h:Int):∀k,nk m h k<=10*k
 |0=>zcI _
 |k+1=>by have:=KQ m h k;have:=Mi (m:=m) (i:=(ru m h k).1);show nk m h k+_+1<=_;lia
theorem zF(m:Nat)(h:Int):∀k,road m h (nk m h k)=bP m (ru m h k)/\∀c,c<=runEnd m (ru m h k).1 - (ru m h k).1->road m h (nk m h k+c)={bP m (ru m h k) with j:=(ru m h k).1+c,more:=runEnd m (ru m h k).1 - (ru m h k).1 - c}:=by
 have step:∀k,road m h (nk m h k)=bP m (ru m h k)->∀c,c<=runEnd m (ru m h k).1 - (ru m h k).1->road m h (nk m h k+c)={bP m (ru m h k) with j:=(ru m h k).1+c,more:=runEnd m (ru m h k).1 - (ru m h k).1 - c}:=by
  intro k a c
  induction c with
  |zero=>intro _;rw[Nat.add_zero,a];rfl
  |succ c ih=>
   intro e;show CT m (road m h (nk m h k+c))=_;rw[ih (by lia)];unfold CT;rw[yIp (by show runEnd m (ru m h k).1 - (ru m h k).1 - c> 0;lia)];dsimp only;rw[Nat.add_assoc,Nat.sub_sub]
 intro k
 induction k with
 |zero=>exact⟨rfl,step 0 rfl⟩
 |succ k ih=>
  have:road m h (nk m h (k+1))=bP m (ru m h (k+1)):=by
   show CT m (road m h (nk m h k+(runEnd m (ru m h k).1 - (ru m h k).1)))=_;rw[ih.2 _ (zcI _)];unfold CT;rw[yIn (by show¬runEnd m (ru m h k).1 - (ru m h k).1 - (runEnd m (ru m h k).1 - (ru m h k).1)> 0;lia)];rfl
  exact⟨this,step _ this⟩
theorem nY(m:Nat)(h:Int):∀n,(road m h n).j+(road m h n).more<=m/\(road m h n).dummy=none
 |0=>by
  have h1:=Eh m h 0;have h2:=Ef h1;have e:=xJ (m:=m) (i:=(ru m h 0).1);refine⟨?_,rfl⟩;show(ru m h 0).1+(runEnd m (ru m h 0).1 - (ru m h 0).1)<=m;lia
 |n+1=>by
  have a:=nY m h n;show(CT m (road m h n)).j+(CT m (road m h n)).more<=m/\(CT m (road m h n)).dummy=none;unfold CT;split
  ·refine⟨?_,a.2⟩;show(road m h n).j+1+((road m h n).more - 1)<=m;lia
  ·refine⟨?_,a.2⟩;dsimp only;have h1:(leap m (road m h n).i (road m h n).perturb).1<=m:=zbi (zcN _ (Nat.succ_pos m));have h2:=Ef h1;have e:=xJ (m:=m) (i:=(leap m (road m h n).i (road m h n).perturb).1);lia
noncomputable def Rn(m i:Nat):Nat:=(i*5+1) % (m+1)
noncomputable def it(m:Nat):Nat->Nat->Nat
 |0,i=>i
 |k+1,i=>it m k (Rn m i)
theorem oX(m:Nat):∀a b i,it m (a+b) i=it m b (it m a i)
 |0,b,i=>by rw[Nat.zero_add];rfl
 |a+1,b,i=>by rw[Nat.add_right_comm];exact oX m a b (Rn m i)
noncomputable def PR(m:Nat):Nat->Nat->List Nat
 |0,_=>[]
 |k+1,i=>i::PR m k (Rn m i)
theorem zT(m:Nat):∀k i j,j∈PR m k i->∃a,a<k/\it m a i=j
 |0,i,j,h=>by simp[PR] at h
 |k+1,i,j,h=>by
  simp only[PR,zch] at h;rcases h with rfl|h
  ·exact⟨0,by lia,rfl⟩
  ·obtain⟨a,h1,h2⟩:=zT m k _ j h;exact⟨a+1,by lia,h2⟩
noncomputable def full(m:Nat):Bool:=(zcM (m+1)).all (λj=>(PR m (m+1) 0).contains j)&&it m (m+1) 0==0
theorem Qt:full 7=true:=by decide+kernel
theorem Nv:full 31=true:=by decide+kernel
theorem Ji:full 127=true:=by decide+kernel
theorem Np(e:full m=true)(hi:i<=m)(o:j<=m):∃k,k<=m/\it m k i=j:=by
 unfold full at e;rw[zbF,zbu] at e;have g:∀x,x<=m->∃a,a<m+1/\it m a 0=x:=λx s=>zT m _ _ _ (by
  have:=e.1 x (zca.mpr (by lia));simpa using this)
 have h:it m (m+1) 0=0:=by simpa using e.2
 obtain⟨a,u,n⟩:=g i hi;obtain⟨b,t,l⟩:=g j o;by_cases q:a<=b
 ·refine⟨b - a,by lia,?_⟩;rw[<-n,<-oX,<-l];congr 1;lia
 ·refine⟨m+1 - a+b,by lia,?_⟩;rw[<-n,<-oX,<-l];have:a+(m+1 - a+b)=m+1+b:=by lia
  rw[this,oX,h]
theorem JQ(h:Int):bits h<2 ^ 64:=by
 unfold bits;have h1:=zaS h (show(0:Int)<2 ^ 64 by decide);have h2:=zbW h (show(2 ^ 64:Int)≠0 by decide);have a:(2 ^ 64:Int)=((2 ^ 64:Nat):Int):=by decide
 lia
theorem Eg(m:Nat)(h:Int):∀k,(ru m h k).2=bits h / 32 ^ k
 |0=>by simp[ru]
 |k+1=>by
  show(ru m h k).2 / 32=_;rw[Eg m h k,Nat.div_div_eq_div_mul,Nat.pow_succ]
theorem Ib(m:Nat)(h:Int){k:Nat}(a:13<=k):(ru m h k).2=0:=by
 rw[Eg];refine Nat.div_eq_of_lt (zaR (JQ h) ?_);exact zcw (show 2 ^ 64<=32 ^ 13 by decide) (Nat.pow_le_pow_right (by decide) a)
theorem KG(m:Nat)(h:Int):∀k,(ru m h (13+k)).1=it m k (ru m h 13).1
 |0=>rfl
 |k+1=>by
  have e:(ru m h (13+(k+1))).1=Rn m (ru m h (13+k)).1:=by
   show((ru m h (13+k)).1*5+1+(ru m h (13+k)).2 / 32) % (m+1)=_;rw[Ib m h (by lia)];rfl
  rw[e,KG m h k,oX m k 1];rfl
theorem Ei(e:full m=true)(h:Int)(a:j<=m):∃k,k<=m+13/\(ru m h k).1=j:=by
 obtain⟨k,h1,h2⟩:=Np e (Eh m h 13) a;exact⟨13+k,by lia,by rw[KG,h2]⟩
theorem Ej(e:full m=true)(h:Int)(a:j<=m):∃n,n<10*turns m/\(road m h n).j=j:=by
 obtain⟨k,h1,h2⟩:=Ei e h a;refine⟨nk m h k,?_,?_⟩
 ·have:=KQ m h k;unfold turns;lia
 ·rw[(zF m h k).1];exact h2
def Way(m:Nat)(occ:Nat->Prop)(h:Int)(j:Nat):Prop:=∃n,(road m h n).j=j/\∀a<n,occ (road m h a).j
theorem Way.mono{occ a:Nat->Prop}{h:Int}(w:Way m occ h j)(g:∀x,occ x->a x):Way m a h j:=by
 obtain⟨n,h1,h2⟩:=w;exact⟨n,h1,λe i=>g _ (h2 e i)⟩
theorem least{P:Nat->Prop}:∀(n:Nat),P n->∃k,k<=n/\P k/\∀i<k,¬P i
 |0,h=>⟨0,zcI _,h,λi e=>absurd e (zbV _)⟩
 |n+1,h=>by
  by_cases g:∃i,i<=n/\P i
  ·obtain⟨i,h1,h2⟩:=g;obtain⟨k,a,b,c⟩:=least i h2;exact⟨k,by lia,b,c⟩
  ·exact⟨n+1,zcI _,h,λi e j=>g ⟨i,by lia,j⟩⟩
theorem yp(t:full m=true)(h:Int){occ:List Nat}(v:occ.length<=m):∃N,N<10*turns m/\(road m h N).j ∉ occ/\∀n<N,(road m h n).j∈occ:=by
 have:∃j,j<=m/\j ∉ occ:=by
  apply Classical.byContradiction;intro i;have h1:=R4 (l:=zcM (m+1)) (m:=occ) List.nodup_range λx o=>by
   have o:=zca.mp o;apply Classical.byContradiction;intro e;exact i ⟨x,by lia,e⟩
  rw[zbe] at h1;lia
 obtain⟨j,h1,h2⟩:=this;obtain⟨n,y,u⟩:=Ej t h h1;obtain⟨N,a,b,c⟩:=least (P:=λn=>(road m h n).j ∉ occ) n (by rw[u];exact h2);exact⟨N,by lia,b,λq s=>Classical.byContradiction λe=>c q s e⟩
end M8
namespace M8
open PySem PySem.Spec PyProof.Rows M7
open PySem.SetTable (Probe bits runEnd leap turns)
abbrev Ent:=Nat×(Int×yai)
noncomputable def fs(l:List Ent):List Nat:=l.map (·.1)
structure Tab(t:SetTable)(es:Array (Int×yai))(l:List Ent):Prop where
 dm:t.dummies=#[]
 pl:t.place.toList=fs l
 el:es.toList=l.map (·.2)
 up:(fs l).Pairwise (· < ·)
 mm:t.mask=7∨t.mask=31∨t.mask=127
 nf:l.length*5<t.mask*3
 le:∀e∈l,e.1<=t.mask
 way:∀e∈l,Way t.mask (· ∈fs l) e.2.1 e.1
theorem Af(h:m=7∨m=31∨m=127):full m=true:=by
 rcases h with rfl|rfl|rfl
 ·exact Qt
 ·exact Nv
 ·exact Ji
section
variable {l:List Ent}
theorem Tab.rise(T:Tab t es l):nc t.place:=fP.mpr (by rw[T.pl];exact T.up)
theorem Tab.sz(T:Tab t es l):t.place.size=l.length:=by rw[<-zaJ,T.pl];exact zbJ ..
theorem Tab.Rp(T:Tab t es l):es.size=l.length:=by rw[<-zaJ,T.el,zbJ]
theorem Tab.fits(T:Tab t es l):t.fits es.size=true:=by
 have h1:=T.sz;have h2:=T.Rp;have a:=T.nf;unfold SetTable.fits SetTable.fill;rw[T.dm,h1,h2];simp;lia
theorem below_at{a:Array Nat}(e:nc a)(hi:i<a.size):SetTable.below a a[i]=i:=by
 obtain⟨h1,h2,h⟩:=iK e a[i];rcases zbj i (SetTable.below a a[i]) with z|z|z
 ·have:=h2 i hi z;lia
 ·exact z.symm
 ·have:=h _ (by lia:SetTable.below a a[i]<a.size) (zcI _);have:=e _ _ z hi (by lia);lia
theorem Tab.live(T:Tab t es l){e:Int×yai}(h:(j,e)∈l):∃i,t.slot j=.live i/\es[i]? =some e/\i<es.size:=by
 obtain⟨i,a,n⟩:=zaG h;have m:i<t.place.size:=by rw[T.sz];exact a
 have q:t.place[i]=j:=by
  have:t.place.toList[i]'(by simpa using m)=(fs l)[i]'(by unfold fs;simpa using a):=by simp only[T.pl]
  rw[Array.getElem_toList] at this;rw[this];unfold fs;rw[zbz,n]
 have s:es[i]? =some e:=by
  rw[<-zaw,T.el,zba,zak a,n];rfl
 have o:=below_at T.rise m;rw[q] at o;refine⟨i,?_,s,by rw[T.Rp];exact a⟩;unfold SetTable.slot;dsimp only;rw[o,zai m,q,yIp (by simp)]
theorem Tab.empty(T:Tab t es l)(h:j ∉ fs l):t.slot j=.empty:=by
 unfold SetTable.slot;dsimp only;rw[yIn (λz=>h (by
  have z:t.place[SetTable.below t.place j]? =some j:=by simpa using z
  rw[<-zaw,T.pl] at z;exact zaB z)),T.dm]
 have:SetTable.has #[] j=false:=by unfold SetTable.has;rfl
 rw[this];rfl
theorem M0(h:j∈fs l):∃e,(j,e)∈l:=by
 obtain⟨⟨a,b⟩,h1,h2⟩:=zcu.mp h;have h2:a=j:=h2;subst h2;exact⟨b,h1⟩
theorem Tab.probe(T:Tab t es l){hashAt:Nat->Int}{h:Int}(v:∀i e,es[i]? =some e->hashAt i=e.1){N:Nat}(I:(road t.mask h N).j ∉ fs l)(H:∀n<N,(road t.mask h n).j∈fs l):∀(f n:Nat),n<=N->N - n<f->
  (SetTable.probe.go t hashAt h f (road t.mask h n)=some (.empty (road t.mask h N).j none)/\∀o,n<=o->o<N->∀e,((road t.mask h o).j,e)∈l->e.1≠h)∨
  ∃q e i,n<=q/\q<N/\((road t.mask h q).j,e)∈l/\e.1=h/\t.slot (road t.mask h q).j=.live i/\es[i]? =some e/\SetTable.probe.go t hashAt h f (road t.mask h n)=some (.candidate (road t.mask h q).j i (road t.mask h (q+1)))/\∀o,n<=o->o<q->∀e,((road t.mask h o).j,e)∈l->e.1≠h
 |0,n,h1,h2=>by lia
 |f+1,n,h1,h2=>by
  rw[SetTable.probe.go.eq_2];rcases zcA n N with z|z
  ·obtain⟨e,G⟩:=M0 (H n z);obtain⟨i,E,y,Y⟩:=T.live G;rw[E];dsimp only;rw[v i e y];have uniq:∀s,((road t.mask h n).j,s)∈l->s=e:=λs m=>by
    obtain⟨Z,x,F,_⟩:=T.live m;rw[E] at x;injection x with x;subst x;rw[y] at F;exact(zcL.inj F).symm
   by_cases u:e.1=h
   ·refine .inr ⟨n,e,i,zcI _,z,G,u,E,y,?_,λo a b=>by lia⟩;rw[yIp (by simp[u]),F6];rfl
   ·rw[yIn (by simp[u]),F6];rcases T.probe v I H f (n+1) (by lia) (by lia) with⟨a,b⟩|⟨q,L,C,a1,X,W,U,S,Q,P,O⟩
    ·refine .inl ⟨a,λo c d s m=>?_⟩;rcases Nat.eq_or_lt_of_le c with rfl|c
     ·rw[uniq s m];exact u
     ·exact b o c d s m
    ·refine .inr ⟨q,L,C,by lia,X,W,U,S,Q,P,λo c d s m=>?_⟩;rcases Nat.eq_or_lt_of_le c with rfl|c
     ·rw[uniq s m];exact u
     ·exact O o c d s m
  ·obtain rfl:n=N:=by lia
   rw[T.empty I];dsimp only;rw[(nY t.mask h n).2];exact .inl ⟨rfl,λo a b=>by lia⟩
noncomputable def more(l:List Ent)(p:Nat)(e:Ent):List Ent:=l.take p++e::l.drop p
theorem eG(l:List Ent)(p:Nat)(e:Ent):(more l p e).Perm (e::l):=by
 unfold more;refine List.perm_middle.trans ?_;rw[List.take_append_drop]
theorem oZ{α:Type}(a:Array α)(p:Nat)(x:α):(SetTable.insertAt a p x).toList=a.toList.take p++x::a.toList.drop p:=by
 unfold SetTable.insertAt;simp[Array.toList_extract];exact List.take_of_length_le (by simp)
theorem EB(T:Tab t es l){h:Int}{x:yai}:(SetTable.insertAt es (t.put j).2 (h,x)).toList=(more l (t.put j).2 (j,(h,x))).map (·.2):=by
 rw[oZ,T.el];unfold more;rw[zbS,zci,List.map_take,List.map_drop]
theorem Tab.put(T:Tab t es l){h:Int}{x:yai}{N:Nat}(v:(road t.mask h N).j ∉ fs l)(u:∀n<N,(road t.mask h n).j∈fs l)(o:(l.length+1)*5<t.mask*3):
  Tab (t.put (road t.mask h N).j).1 (SetTable.insertAt es (t.put (road t.mask h N).j).2 (h,x)) (more l (t.put (road t.mask h N).j).2 ((road t.mask h N).j,(h,x))):=by
 have E:=nY t.mask h N;generalize C:(road t.mask h N).j=j at*;have s:SetTable.has t.dummies j=false:=by rw[T.dm];unfold SetTable.has;rfl
 have m:(SetTable.insertAt t.place (SetTable.below t.place j) j).toList=fs (more l (SetTable.below t.place j) (j,(h,x))):=by
  rw[oZ,T.pl];unfold more fs;rw[zbS,zci,List.map_take,List.map_drop]
 have sub:∀y,y∈fs l->y∈fs (more l (SetTable.below t.place j) (j,(h,x))):=λy q=>by
  have:=((eG l (SetTable.below t.place j) (j,(h,x))).map (·.1)).mem_iff (a:=y);exact this.mpr (zay _ q)
 refine⟨?_,m,EB T,?_,T.mm,?_,?_,?_⟩
 ·show(if SetTable.has t.dummies j=true then _ else t.dummies)=#[];rw[yIn (by rw[s];decide)];exact T.dm
 ·have:=fP.mp (uy (j:=j) T.rise (by
   cases z:t.place[SetTable.below t.place j]? ==some j with
   |false=>rfl
   |true=>
    have z:t.place[SetTable.below t.place j]? =some j:=by simpa using z
    rw[<-zaw,T.pl] at z;exact absurd (zaB z) v))
  rw[m] at this;exact this
 ·rw[(eG ..).length_eq];exact o
 ·intro e i;rcases zch.mp ((eG ..).mem_iff.mp i) with rfl|i
  ·show j<=t.mask;lia
  ·exact T.le e i
 ·intro e i;rcases zch.mp ((eG ..).mem_iff.mp i) with rfl|i
  ·exact⟨N,C,λn o=>sub _ (u n o)⟩
  ·exact(T.way e i).mono sub
end
def oG(ow:Array (Option Nat))(j:Nat):Prop:=∃i,ow[j]? =some (some i)
structure Own(m:Nat)(hs:List Int)(ow:Array (Option Nat)):Prop where
 sz:ow.size=m+1
 wy:∀(j i:Nat),ow[j]? =some (some i)->i<hs.length/\Way m (oG ow) (hs.getD i 0) j
 al:∀(i:Nat),i<hs.length->∃j:Nat,ow[j]? =some (some i)
 un:∀(j j' i:Nat),ow[j]? =some (some i)->ow[j']? =some (some i)->j=j'
theorem Jd{ow:Array (Option Nat)}(sz:ow.size=m+1)(h:j<=m):((ow.getD j (some 0)).isNone=true->ow[j]? =some none)/\((ow.getD j (some 0)).isNone=false->oG ow j):=by
 have a:j<ow.size:=by lia
 have e:ow.getD j (some 0)=ow[j]:=by simp[zcO,a]
 unfold oG;rw[e,zai a];cases ow[j] with
 |none=>exact⟨λ_=>rfl,(λz=>by cases z)⟩
 |some i=>exact⟨(λz=>by cases z),λ_=>⟨i,rfl⟩⟩
theorem Ai{m:Nat}{ow:Array (Option Nat)}{h:Int}(sz:ow.size=m+1):∀(f k:Nat),(∃a,k<=a/\a<k+f/\ow[(ru m h a).1]? =some none)->(∀n<nk m h k,oG ow (road m h n).j)->∃j,SetTable.layClean.free m ow f (ru m h k).1 (ru m h k).2=some j/\j<=m/\ow[j]? =some none/\Way m (oG ow) h j
 |0,k,hx,_=>by obtain⟨a,h1,h2,_⟩:=hx;lia
 |f+1,k,hx,hb=>by
  obtain⟨a,h1,h2,v⟩:=hx;rw[SetTable.layClean.free.eq_2];have s:=Eh m h k;have y:=Ef s;have E:=xJ (m:=m) (i:=(ru m h k).1);have l:=zF m h k;cases o:(zcM (runEnd m (ru m h k).1+1 - (ru m h k).1)).find? (λc=>(ow.getD ((ru m h k).1+c) (some 0)).isNone) with
  |some c=>
   rw[List.find?_range_eq_some] at o;obtain⟨G,x,F⟩:=o;have x:=zca.mp x;have u:(ru m h k).1+c<=m:=by lia
   refine⟨_,rfl,u,(Jd sz u).1 G,nk m h k+c,?_,λn q=>?_⟩
   ·rw[l.2 c (by lia)]
   ·rcases zcA n (nk m h k) with z|z
    ·exact hb n z
    ·obtain⟨d,rfl⟩:∃d,n=nk m h k+d:=⟨n - nk m h k,by lia⟩
     rw[l.2 d (by lia)];exact(Jd sz (j:=(ru m h k).1+d) (by lia)).2 (by have:=F d (by lia);simpa using this)
  |none=>
   rw[List.find?_range_eq_none] at o;have all:∀d,d<=runEnd m (ru m h k).1 - (ru m h k).1->oG ow ((ru m h k).1+d):=λd hd=>(Jd sz (by lia)).2 (by have:=o d (by lia);simpa using this);have C:k≠a:=λe=>by
    subst e;obtain⟨i,t⟩:=all 0 (by lia);rw[Nat.add_zero,v] at t;cases t
   exact Ai sz f (k+1) ⟨a,by lia,by lia,v⟩ λn q=>by
    have q:n<nk m h k+(runEnd m (ru m h k).1 - (ru m h k).1)+1:=q;rcases zcA n (nk m h k) with z|z
    ·exact hb n z
    ·obtain⟨d,rfl⟩:∃d,n=nk m h k+d:=⟨n - nk m h k,by lia⟩
     rw[l.2 d (by lia)];exact all d (by lia)
theorem Own.step{o:List Int}{ow:Array (Option Nat)}(O:Own m o ow)(S:full m=true)(Y:o.length<=m)(h:Int):
  ∃j,SetTable.layClean.free m ow (turns m) (bits h % (m+1)) (bits h)=some j/\Own m (o++[h]) (ow.setIfInBounds j (some o.length)):=by
 have⟨j0,z1,z2⟩:∃j,j<=m/\ow[j]? =some none:=by
  apply Classical.byContradiction;intro G;have C:∀j,j<=m->oG ow j:=λj P=>by
   cases e:ow[j]? with
   |none=>rw[zac] at e;have:=O.sz;lia
   |some x=>
    cases x with
    |none=>exact absurd ⟨j,P,e⟩ G
    |some i=>exact⟨i,e⟩
  let g:Nat->Nat:=λi=>if h:i<o.length then Classical.choose (O.al i h) else 0;have Q:∀i (h:i<o.length),ow[g i]? =some (some i):=λi h=>by
   show ow[if h:i<o.length then Classical.choose (O.al i h) else 0]? =_;rw[dif_pos h];exact Classical.choose_spec (O.al i h)
  have:=R4 (l:=zcM (m+1)) (m:=(zcM o.length).map g) List.nodup_range λx q=>by
   have q:=zca.mp q;obtain⟨i,s⟩:=C x (by lia);have v:=(O.wy x i s).1;rw[O.un x (g i) i s (Q i v)];exact zcu.mpr ⟨i,zca.mpr v,rfl⟩
  rw[zbe,zbJ,zbe] at this;lia
 obtain⟨k,k1,H⟩:=Ei S h z1;obtain⟨j,X,Z,W,U⟩:=Ai (h:=h) O.sz (turns m) 0 ⟨k,zcJ _,by unfold turns;lia,by rw[H];exact z2⟩ (λn I=>absurd I (zbV _));refine⟨j,X,?_⟩;have L:j<ow.size:=by rw[O.sz];lia
 have cX:∀x,(ow.setIfInBounds j (some o.length))[x]? =if j=x then some (some o.length) else ow[x]?:=λx=>by
  rw[Array.getElem?_setIfInBounds];by_cases e:j=x
  ·rw[yIp e,yIp e,yIp (by lia)]
  ·rw[yIn e,yIn e]
 have u:∀x,oG ow x->oG (ow.setIfInBounds j (some o.length)) x:=λx ⟨i,s⟩=>by
  unfold oG;rw[cX];by_cases e:j=x
  ·exact⟨_,yIp e⟩
  ·exact⟨i,by rw[yIn e];exact s⟩
 refine⟨by simp[O.sz],λx i s=>?_,λi s=>?_,λx y i q t=>?_⟩
 ·rw[cX] at s;by_cases e:j=x
  ·rw[yIp e] at s;have s:o.length=i:=by injection s with s;injection s
   subst s;subst e;refine⟨by simp,?_⟩;have:(o++[h]).getD o.length 0=h:=by simp
   rw[this];exact U.mono u
  ·rw[yIn e] at s;obtain⟨a,b⟩:=O.wy x i s;refine⟨by rw[zaM];lia,?_⟩;have:(o++[h]).getD i 0=o.getD i 0:=by simp[zae a]
   rw[this];exact b.mono u
 ·rw[zaM] at s;by_cases e:i=o.length
  ·exact⟨j,by rw[cX,yIp rfl,e]⟩
  ·obtain⟨x,q⟩:=O.al i (by have:[h].length=1:=rfl;lia);refine⟨x,?_⟩;rw[cX,yIn (λe=>by rw[<-e,W] at q;cases q)];exact q
 ·rw[cX] at q t;by_cases F:j=x<;>by_cases E:j=y
  ·rw[<-F,E]
  ·rw[yIp F] at q;rw[yIn E] at t;have q:o.length=i:=by injection q with q;injection q
   have:=(O.wy y i t).1;lia
  ·rw[yIn F] at q;rw[yIp E] at t;have t:o.length=i:=by injection t with t;injection t
   have:=(O.wy x i q).1;lia
  ·rw[yIn F] at q;rw[yIn E] at t;exact O.un x y i q t
theorem Fd{m:Nat}(l:full m=true){F:Option (Array (Option Nat)×Nat)->Int->Option (Array (Option Nat)×Nat)}(n:∀ow k h j,SetTable.layClean.free m ow (turns m) (bits h % (m+1)) (bits h)=some j->F (some (ow,k)) h=some (ow.setIfInBounds j (some k),k+1)):
  ∀(rest done:List Int)(ow:Array (Option Nat)),Own m done ow->done.length+rest.length<=m->∃e,rest.foldl F (some (ow,done.length))=some (e,done.length+rest.length)/\Own m (done++rest) e
 |[],done,ow,O,_=>⟨ow,rfl,by rw[zbK];exact O⟩
 |h::rest,done,ow,O,hl=>by
  rw[zbq] at hl;obtain⟨j,q,o⟩:=O.step l (by lia) h;have i:(done++[h]).length=done.length+1:=by simp
  obtain⟨e,a,b⟩:=Fd l n rest (done++[h]) _ o (by lia);refine⟨e,?_,?_⟩
  ·rw[zbQ,n _ _ _ _ q];rw[i] at a;rw[a,zbq];congr 2;lia
  ·rw[zbc] at b;exact b
theorem eY(v:full m=true)(l:Array Int)(u:l.size<=m):∃ow,SetTable.layClean m l=some ow/\Own m l.toList ow:=by
 have x:Own m [] (Array.replicate (m+1) none):=by
  have t:∀j i,¬(Array.replicate (m+1) (none:Option Nat))[j]? =some (some i):=λj i z=>by
   rw[Array.getElem?_replicate] at z;split at z<;>simp at z
  exact⟨by simp,λj i e=>absurd e (t j i),λi e=>by simp at e,λj y i e=>absurd e (t j i)⟩
 unfold SetTable.layClean;rw[<-Array.foldl_toList];generalize o:(λ(s:Option (Array (Option Nat)×Nat))(h:Int)=>(do
  let(owner,k) <-s;let j <-SetTable.layClean.free m owner (turns m) (bits h % (m+1)) (bits h)
  pure (owner.setIfInBounds j (some k),k+1)))=F
 have q:∀ow k h j,SetTable.layClean.free m ow (turns m) (bits h % (m+1)) (bits h)=some j->F (some (ow,k)) h=some (ow.setIfInBounds j (some k),k+1):=λow k h j n=>by
  rw[<-o];show(SetTable.layClean.free m ow (turns m) (bits h % (m+1)) (bits h)).bind _=_;rw[n];rfl
 obtain⟨ow,a,b⟩:=Fd v (λow k h j n=>by
  exact q ow k h j n) l.toList [] _ x (by simpa using u)
 refine⟨ow,?_,b⟩;have a:=congrArg (Option.map (·.1)) a;exact a
theorem Et(Z:SetTable.sizeAbove n - 1=m)(W:m=7∨m=31∨m=127)(hl:es.size*5<m*3):
  ∃t' o u,t.relaid (es.map (·.1)) n=some (t',o)/\Tab t' (o.filterMap (es[·]?)) u/\(u.map (·.2)).Perm es.toList/\t'.led=t.led/\t'.plain=t.plain:=by
 obtain⟨ow,a,O⟩:=eY (Af W) (es.map (·.1)) (by rw[Array.size_map];lia);have C:(es.map (·.1)).toList.length=es.size:=by simp
 generalize E:((zcM (m+1)).filterMap λj=>(ow.getD j none).map (j,·))=live;have mem:∀j i,(j,i)∈live↔ow[j]? =some (some i):=λj i=>by
  rw[<-E,List.mem_filterMap];constructor
  ·rintro⟨x,h1,h2⟩;have h1:=zca.mp h1;have l:x<ow.size:=by rw[O.sz];exact h1
   have Q:ow.getD x none=ow[x]:=by simp[zcO,l]
   rw[Q] at h2;cases P:ow[x] with
   |none=>rw[P] at h2;cases h2
   |some y=>
    rw[P] at h2;have h2:some (x,y)=some (j,i):=h2;injection h2 with h2;injection h2 with I h4;subst I;subst h4;rw[zai l,P]
  ·intro h;obtain⟨l,e⟩:=Array.getElem?_eq_some_iff.mp h;refine⟨j,zca.mpr (by rw[<-O.sz];exact l),?_⟩;have Q:ow.getD j none=ow[j]:=by simp[zcO,l]
   rw[Q,e];rfl
 have F:∀e∈live,e.2<es.size/\Way m (oG ow) ((es.getD e.2 (0,.none)).1) e.1:=λe s=>by
  obtain⟨h1,h2⟩:=O.wy e.1 e.2 ((mem e.1 e.2).mp s);rw[C] at h1;refine⟨h1,?_⟩;have:(es.map (·.1)).toList.getD e.2 0=(es.getD e.2 (0,.none)).1:=by simp[zcO,h1]
  rw[this] at h2;exact h2
 have up:(live.map (·.1)).Pairwise (· < ·):=by
  rw[<-E];exact List.Pairwise.sublist (nA _ _) List.pairwise_lt_range
 have nd:(live.map (·.2)).Nodup:=by
  rw[zbg] at up;show(live.map (·.2)).Pairwise (· ≠·);rw[zbg];refine up.imp_of_mem λ{x y} l G hlt e=>?_;have h1:=(mem x.1 x.2).mp l;have h2:=(mem y.1 y.2).mp G;rw[<-e] at h2;have:=O.un _ _ _ h1 h2;lia
 have Y:(live.map (·.2)).Perm (zcM es.size):=by
  rw[List.perm_ext_iff_of_nodup nd List.nodup_range];intro i;rw[zca,zcu];constructor
  ·rintro⟨e,s,rfl⟩;exact(F e s).1
  ·intro H;obtain⟨j,hj⟩:=O.al i (by rw[C];exact H);exact⟨(j,i),(mem j i).mpr hj,rfl⟩
 generalize v:(live.map λe=>((e.1,es.getD e.2 (0,.none)):Ent))=u;have L:fs u=live.map (·.1):=by rw[<-v];unfold fs;rw[zct];rfl
 have X:u.map (·.2)=(live.map (·.2)).map λi=>es.getD i (0,.none):=by rw[<-v,zct,zct];rfl
 have S:(u.map (·.2)).Perm es.toList:=by
  rw[X];refine(Y.map _).trans ?_;have:(zcM es.size).map (λi=>es.getD i (0,.none))=es.toList:=by
   refine zbx (by simp) λi h1 h2=>?_;have I:i<es.size:=by simpa using h2
   simp[zcO,I]
  rw[this]
 have fm:∀q:List (Nat×Nat),(∀e∈q,e.2<es.size)->(q.map (·.2)).filterMap (es[·]?)=(q.map (·.2)).map λi=>es.getD i (0,.none):=by
  intro q
  induction q with
  |nil=>intro _;rfl
  |cons e q ih=>
   intro U;have h1:=U e (by simp);simp only[zci];rw[zaD,zai h1];dsimp only;rw[ih λx l=>U x (zay _ l)];simp[zcO,h1]
 refine⟨{mask:=m,place:=(live.map (·.1)).toArray,dummies:=#[],finger:=t.finger,led:=t.led,moves:=t.movedTo m,plain:=t.plain},(live.map (·.2)).toArray,u,?_,⟨rfl,?_,?_,?_,W,?_,?_,?_⟩,S,rfl,rfl⟩
 ·unfold SetTable.relaid SetTable.laid;rw[Z,a];show some _=some _;rw[E]
 ·exact L.symm
 ·rw[Array.toList_filterMap,X];exact fm live λe s=>(F e s).1
 ·rw[L];exact up
 ·have:=S.length_eq;rw[zbJ] at this;show u.length*5<m*3;have e:u.length=es.size:=this;rw[e];exact hl
 ·intro e s;rw[<-v] at s;obtain⟨x,l,rfl⟩:=zcu.mp s;obtain⟨h1,_⟩:=Array.getElem?_eq_some_iff.mp ((mem x.1 x.2).mp l);have:=O.sz;show x.1<=m;lia
 ·intro e s;rw[<-v] at s;obtain⟨x,l,rfl⟩:=zcu.mp s;refine(F x l).2.mono λy G=>?_;rw[L];obtain⟨i,H⟩:=G;exact zcu.mpr ⟨(y,i),(mem y i).mpr H,rfl⟩
end M8
namespace M8
open PySem PySem.Spec PyProof.Rows M5 M6 M7
open PySem.SetTable (Probe bits runEnd leap turns)
theorem pH:∀(n:Nat)(d:yam){v:yai}{as:List Addr}{A:yal}{E:yai->yah->Prop}{s:yah}{Q:Bool->yah->Prop},d.depth<=n->bG d=true->Reads s.heap v d as->Q false s->yar (model prog w) A (ofAClassStatement n v) Q E s:=by
 intro n
 induction n with
 |zero=>
  intro d v as A E s Q hd e l h;cases l with
  |int i t=>rw[ofAClassStatement.eq_def];exact yab h
  |str x t=>rw[ofAClassStatement.eq_def];exact yab h
  |tuple ho hc hd' hall=>rw[bw] at hd;lia
  |none=>simp[bG] at e
  |bool b=>simp[bG] at e
  |list _ _ _ _=>simp[bG] at e
  |dict _ _ _ _ _=>simp[bG] at e
 |succ n ih=>
  intro d v as A E s Q hd e l h;cases l with
  |int i t=>rw[ofAClassStatement.eq_def];exact yab h
  |str x t=>rw[ofAClassStatement.eq_def];exact yab h
  |none=>simp[bG] at e
  |bool b=>simp[bG] at e
  |list _ _ _ _=>simp[bG] at e
  |dict _ _ _ _ _=>simp[bG] at e
  |@tuple a o vs m xs as ho hc hdat hall=>
   have L:=eB ho hc;have e:cj xs=true:=e;rw[bw] at hd;rw[ofAClassStatement.eq_def];dsimp only;refine yaa (wpAny_typeOf L ?_);dsimp only;refine yaa (yab ?_);rw[yIn (by decide)];refine yaa (wpAny_seqItems ho hdat (yaa ?_));show yar (model prog w) A (forIn vs _ _) _ E s;rw[<-zaV];refine wpAny_forIn_list _ (λrest r C=>r.1=none/\C=s/\∃left u,ReadsAll s.heap rest left u/\∀x∈left,x∈xs) _ ?_ ?_ vs.toList (none,()) ⟨rfl,rfl,xs,_,hall,λ_ q=>q⟩
   ·rintro y rest ⟨F,H⟩ C ⟨l,rfl,left,u,I,j⟩;cases I with
    |@cons _ _ d' ds as1 bs q hrest=>
     have G:d'∈xs:=j d' (by simp);refine yaa (ih d' (as:=as1) (by have:=cC G;lia) (eV e d' G) q ?_);exact yab ⟨rfl,rfl,ds,bs,hrest,λx q=>j x (zay _ q)⟩
   ·rintro⟨F,H⟩ C ⟨l,rfl,_⟩;have l:F=none:=l;subst l;exact yab h
theorem wN:∀(n:Nat)(d:yam){v:yai}{as:List Addr}{A:yal}{E:yai->yah->Prop}{s:yah}{Q:Bool->yah->Prop},d.depth<=n->bG d=true->Reads s.heap v d as->(∀b,Q b s)->yar (model prog w) A (hashByValue n v) Q E s:=by
 intro n
 induction n with
 |zero=>
  intro d v as A E s Q hd e C h;cases C with
  |int i t=>rw[hashByValue.eq_def];exact yab (h _)
  |str x t=>rw[hashByValue.eq_def];exact yab (h _)
  |tuple ho hc hd' hall=>rw[bw] at hd;lia
  |none=>simp[bG] at e
  |bool b=>simp[bG] at e
  |list _ _ _ _=>simp[bG] at e
  |dict _ _ _ _ _=>simp[bG] at e
 |succ n ih=>
  intro d v as A E s Q hd e C h;cases C with
  |int i t=>rw[hashByValue.eq_def];exact yab (h _)
  |str x t=>rw[hashByValue.eq_def];exact yab (h _)
  |none=>simp[bG] at e
  |bool b=>simp[bG] at e
  |list _ _ _ _=>simp[bG] at e
  |dict _ _ _ _ _=>simp[bG] at e
  |@tuple a o vs m xs as ho hc hdat hall=>
   have O:=eB ho hc;have e:cj xs=true:=e;rw[bw] at hd;rw[hashByValue.eq_def];dsimp only;refine yaa (wpAny_specialOf O F.slot_tuple_hash.lookup ?_);refine yaa (wpAny_seqItems ho hdat (yaa ?_));show yar (model prog w) A (forIn vs _ _) _ E s;rw[<-zaV];refine wpAny_forIn_list _ (λrest r u=>u=s/\∃left q,ReadsAll s.heap rest left q/\∀x∈left,x∈xs) _ ?_ ?_ vs.toList (none,()) ⟨rfl,xs,_,hall,λ_ l=>l⟩
   ·rintro y rest ⟨G,I⟩ u ⟨rfl,left,q,L,j⟩;cases L with
    |@cons _ _ d' ds as1 bs l hrest=>
     have H:d'∈xs:=j d' (by simp);refine yaa (ih d' (as:=as1) (by have:=cC H;lia) (eV e d' H) l λb=>?_);cases b
     ·refine yab ?_;exact yab (h _)
     ·exact yab ⟨rfl,ds,bs,hrest,λx l=>j x (zay _ l)⟩
   ·rintro⟨G,I⟩ u ⟨rfl,_⟩;cases G with
    |none=>exact yab (h _)
    |some b=>exact yab (h _)
theorem Ce{d:yam}{b:Addr}{e:List yai}{Q:Bool->yah->Prop}(x:isKey s.heap d b)(u:∀v∈e,∃k a,v=.ref a/\isKey s.heap k a)(h:Q false s):yar (model prog w) A (searchCouldBeSeen (.ref b) e) Q E s:=by
 unfold searchCouldBeSeen;refine yaa ?_;refine wpAny_forIn_list _ (λrest r j=>r=(none,())/\j=s/\∀v∈rest,∃k a,v=.ref a/\isKey s.heap k a) _ ?_ ?_ e (none,()) ⟨rfl,rfl,u⟩
 ·rintro y rest r j ⟨rfl,rfl,l⟩;obtain⟨k,a,rfl,C⟩:=l y (by simp);have i:=λv t=>l v (zay _ t);obtain⟨n,F,bs,m⟩:=x;obtain⟨q,H,G,o⟩:=C;dsimp only;split
  ·exact yab ⟨rfl,rfl,i⟩
  ·refine yaa (jE 8 d (by lia) n m ?_);rw[yIn (by decide)];refine yaa (jE 8 k (by lia) q o ?_);rw[yIn (by decide)];refine yaa (pH 8 d (by lia) n m ?_);rw[yIn (by decide)];refine yaa (pH 8 k (by lia) q o ?_);rw[yIn (by decide)];exact yab ⟨rfl,rfl,i⟩
 ·rintro r j ⟨rfl,rfl,_⟩;exact yab h
noncomputable def m8(w:yak)(k:yam×Addr):Int×yai:=(bu w k.1,.ref k.2)
theorem search{a b:Addr}{o:Obj}{es:Array (Int×yai)}{ep:Nat}{t:SetTable}{l:List Ent}{ks:List (yam×Addr)}{d:yam}{Q:SetFound->yah->Prop}(ho:s.heap.get? a=some o)(hd:o.data=.set es ep t)(T:Tab t es l)(C:es.toList=ks.map (m8 w))(U:∀k∈ks,isKey s.heap k.1 k.2)(hb:isKey s.heap d b)(hu:A.units+10<cLine){N:Nat}(hNf:N<10*turns t.mask)(hN:(road t.mask (bu w d) N).j ∉ fs l)(X:∀n<N,(road t.mask (bu w d) n).j∈fs l)(q1:(∃k∈ks,k.1=d)->Q (.there none) s)(q2:(∀k∈ks,k.1≠d)->Q (.free (road t.mask (bu w d) N).j false) s):
  ∀(f n:Nat)(st:Option Probe),st.getD (t.probeStart (bu w d))=road t.mask (bu w d) n->n<=N->N - n<f->(∀u<n,∀k∈ks,((road t.mask (bu w d) u).j,m8 w k)∈l->k.1≠d)->
   yar (model prog w) A (setSearchFrom a (.ref b) (bu w d) true f st) Q E s
 |0,n,st,_,_,h,_=>by lia
 |f+1,n,st,hst,hn,hf,hne=>by
  have ent:∀e,e∈l.map (·.2)->∃k∈ks,e=m8 w k:=λe m=>by
   rw[<-T.el,C] at m;obtain⟨k,h1,h2⟩:=zcu.mp m;exact⟨k,h1,h2.symm⟩
  unfold setSearchFrom;refine yaa (wpAny_setState_of ho hd T.fits ?_);dsimp only;rw[yIn (by unfold SetTable.gaveWay;rcases T.mm with e|e|e<;>rw[e]<;>decide)];rw[hst];unfold SetTable.probe;generalize hG:SetTable.probe.go t _ (bu w d) (10*turns t.mask) (road t.mask (bu w d) n)=G;rcases T.probe (hashAt:=λi=>(es[i]?.map (·.1)).getD 0) (h:=bu w d) (λi e m=>by show(es[i]?.map (·.1)).getD 0=e.1;rw[m];rfl) hN X (10*turns t.mask) n hn (by lia) with⟨p1,p2⟩|⟨n1,e,i,c1,c2,c3,c4,c5,c6,c7,c8⟩
  ·obtain rfl:some _=G:=p1.symm.trans hG;dsimp only;refine yab (q2 λk P e=>?_);have hm:m8 w k∈l.map (·.2):=by rw[<-T.el,C];exact zcu.mpr ⟨k,P,rfl⟩
   obtain⟨⟨j,e'⟩,q,e2⟩:=zcu.mp hm;have e2:e'=m8 w k:=e2;subst e2;obtain⟨y,L,I⟩:=T.way _ q;have hh:(m8 w k).1=bu w d:=by rw[<-e];rfl
   have L:(road t.mask (bu w d) y).j=j:=by have L:(road t.mask (m8 w k).1 y).j=j:=L;rw[hh] at L;exact L
   have I:∀u<y,(road t.mask (bu w d) u).j∈fs l:=λu F=>by have I:(road t.mask (m8 w k).1 u).j∈fs l:=I u F;rw[hh] at I;exact I
   rw[<-L] at q;have W:(road t.mask (bu w d) y).j∈fs l:=zcu.mpr ⟨_,q,rfl⟩;have hlt:y<N:=by
    rcases zbj y N with z|z|z
    ·exact z
    ·rw[z] at W;exact absurd W hN
    ·exact absurd (I N z) hN
   rcases zcA y n with z|z
   ·exact hne y z k P q e
   ·exact p2 y z hlt _ q hh
  ·obtain rfl:some _=G:=c7.symm.trans hG;dsimp only;obtain⟨k,k1,rfl⟩:=ent e (zcu.mpr ⟨_,c3,rfl⟩);have Nt:∀v∈List.map (λx:Int×yai=>x.2) (Array.filter (λx=>x.1==bu w d) es).toList,∃k a,v=.ref a/\isKey s.heap k a:=λv hv=>by
    obtain⟨e,m,rfl⟩:=zcu.mp hv;rw[Array.toList_filter] at m;have m:=(zbH.mp m).1;rw[C] at m;obtain⟨O,h1,rfl⟩:=zcu.mp m;exact⟨O.1,O.2,rfl,U O h1⟩
   by_cases hl:(!t.led)=true
   case' pos=>(rw[yIp hl];refine yaa (Ce hb Nt ?_);rw[yIn (by decide)])
   case' neg=>rw[yIn hl]
   all_goals
    rw[c6];show yar _ _ (holding [Value.ref k.2] (eqBool (.ref k.2) (.ref b)) >>= _) _ _ _;refine yaa (yad ((e7 prog w).eqBool hu (U k k1) hb ?_));refine yaa (wpAny_setState_of ho hd T.fits ?_);by_cases m:k.1=d
    ·rw[yDt m];exact yab (q1 ⟨k,k1,m⟩)
    ·rw[yDf m,yIn (by decide)];have hsm:t.sameMemory t.moves t.mask=some true:=by unfold SetTable.sameMemory;rw[yIp (by simp)]
     dsimp only;rw[hsm];dsimp only;rw[yIp rfl,c5];dsimp only;rw[c6];show yar _ _ (isSame (.ref k.2) (.ref k.2) >>= _) _ _ _;refine yaa (wpAny_isSame_ref_self ?_);refine yaa (yab ?_);rw[yIp rfl];dsimp only;rw[yIn (by decide)];refine search ho hd T C U hb hu hNf hN X q1 q2 f (n1+1) _ rfl (by lia) (by lia) λu F O S H=>?_;rcases zcA u n with z|z
     ·exact hne u z O S H
     ·rcases Nat.eq_or_lt_of_le (zbi F) with z2|z2
      ·subst z2;obtain⟨i',Z,Y,_⟩:=T.live H;rw[c5] at Z;injection Z with Z;subst Z;rw[c6] at Y;have Y:=zcL.inj Y;injection Y with _ j3;injection j3 with j3;have a1:=U k k1;have a2:=U O S;rw[<-j3] at a2;rw[<-(e7 prog w).inj a1 a2];exact m
      ·intro e;refine c8 u z z2 _ H ?_;rw[<-e];rfl
def dS(h h':Heap):Prop:=∀c o,o.cls=.type "tuple"->h.get? c=some o->h'.get? c=some o
theorem dS.trans{h1 h2:Heap}(x:dS h h1)(y:dS h1 h2):dS h h2:=λc o e z=>y c o e (x c o e z)
theorem dS.but{b:Addr}{ob:Obj}(i:h.get? b=some ob)(a:ob.cls≠ .type "tuple")(k:∀c o,c≠b->h.get? c=some o->h'.get? c=some o):dS h h':=λc o e z=>
 k c o (λj=>by subst j;rw[i] at z;cases z;exact a e) z
mutual
theorem zI{h h':Heap}(kp:dS h h'):∀(d:yam){v:yai}{as:List Addr},bG d=true->Reads h v d as->Reads h' v d as
 |.int i,v,as,hk,hr=>by cases hr;exact .int ..
 |.str i,v,as,hk,hr=>by cases hr;exact .str ..
 |.tuple xs,v,as,hk,hr=>by
  cases hr with
  |@tuple a o vs m _ _ ho hc hdat hall=>exact .tuple (kp a o hc ho) hc hdat (uD kp xs hk hall)
 |.none,_,_,h,_=>by simp[bG] at h
 |.bool _,_,_,h,_=>by simp[bG] at h
 |.list _,_,_,h,_=>by simp[bG] at h
 |.dict _,_,_,h,_=>by simp[bG] at h
theorem uD{h h':Heap}(kp:dS h h'):∀(ds:List yam){vs:List yai}{as:List Addr},cj ds=true->ReadsAll h vs ds as->ReadsAll h' vs ds as
 |[],vs,as,hk,hr=>by cases hr;exact .nil
 |d::ds,vs,as,hk,hr=>by
  simp only[cj,zbF] at hk;cases hr with
  |cons hx hr=>exact .cons (zI kp d hk.1 hx) (uD kp ds hk.2 hr)
end
theorem qL(kp:dS h h'){d:yam}(x:isKey h d a):isKey h' d a:=by obtain⟨k1,e,j,i⟩:=x;exact⟨k1,e,j,zI kp d k1 i⟩
def Bd(w:yak)(B:List (yam×Addr))(h:Heap)(a:Addr)(S:List yam):Prop:=
 ∃o i j t l,∃e:List (yam×Addr),h.get? a=some o/\o.ExactSet/\o.data=.set i j t/\Tab t i l/\t.led=(!w.params.followText "set-order")/\i.toList=e.map (m8 w)/\(∀k∈e,k∈B/\isKey h k.1 k.2)/\(e.map (·.1)).Perm S
theorem Bd.keep{S:List yam}(x:Bd w B h a S)(e:∀o,h.get? a=some o->h'.get? a=some o)(kp:dS h h'):Bd w B h' a S:=
 by obtain⟨o,E,F,t,l,y,C,v,u,s,q,n,i,m⟩:=x;exact⟨o,E,F,t,l,y,e o C,v,u,s,q,n,λk j=>⟨(i k j).1,qL kp (i k j).2⟩,m⟩
noncomputable def pM(S:List yam)(x:yam):List yam:=if x∈S then S else S++[x]
theorem LB(h:o.ExactSet):o.cls≠ .type "tuple":=by
 rw[h.1];intro z;injection z with z;exact absurd z (by decide)
theorem Pc(j:h.get? a=some o)(i:o.ExactSet)(sb:Heap.SameBut a h h'):dS h h':=
 dS.but j (LB i) λc o l e=>by rw[sb.2 c l];exact e
theorem qC{es:List (Int×yai)}(h:es.Perm (ks.map (m8 w))):∃a:List (yam×Addr),a.Perm ks/\es=a.map (m8 w):=eU h
theorem JV{b:Addr}{S:List yam}{d:yam}{Q:Bool->yah->Prop}(hS:Bd w B s.heap a S)(hbB:(d,b)∈B)(hb:isKey s.heap d b)(hu:A.units+10<cLine)(hn:S.length+1<64)(h:∀r h',Heap.SameBut a s.heap h'->dS s.heap h'->Bd w B h' a (pM S d)->Q r {s with heap:=h'}):
  yar (model prog w) A (setAddHashed a (.ref b) (bu w d)) Q E s:=by
 obtain⟨o,es,ep,t,l,ks,I,y,hd,T,u,G,H,Y⟩:=hS;have hk:∀k∈ks,isKey s.heap k.1 k.2:=λk i=>(H k i).2;have ae:l.length=S.length:=by
  rw[<-Y.length_eq,zbJ,<-T.Rp,<-zaJ,G,zbJ]
 have F:=T.mm;have hnf:=T.nf;obtain⟨N,n1,n2,n3⟩:=yp (Af F) (bu w d) (occ:=fs l) (by unfold fs;rw[zbJ];lia);unfold setAddHashed;unfold setAddHashedIn;refine yad (yaa (wpAny_setState_of I hd T.fits ?_));dsimp only;rw[yIn (by unfold byScan;simp[Value.scannable])];refine yaa ?_;unfold setSearch;refine search I hd T G hk hb hu n1 n2 n3 (λhx=>?_) (λhx=>?_) 100000 0 none rfl (zcJ _) (by
  have:turns t.mask<=142:=by unfold turns;rcases F with e|e|e<;>lia
  lia) (λn' hn'=>absurd hn' (zbV _))
 ·dsimp only;obtain⟨k,k1,k2⟩:=hx;have hm:d∈S:=Y.mem_iff.mp (zcu.mpr ⟨k,k1,k2⟩);refine yab ?_;have q:=h false s.heap (Heap.SameBut.refl a s.heap) (λc o _ z=>z) (by
   unfold pM;rw[yIp hm];exact⟨o,es,ep,t,l,ks,I,y,hd,T,u,G,H,Y⟩)
  exact q
 ·dsimp only;have hm:d ∉ S:=λz=>by
   obtain⟨k,k1,k2⟩:=zcu.mp (Y.mem_iff.mpr z);exact hx k k1 k2
  have ac:pM S d=S++[d]:=by unfold pM;rw[yIn hm]
  rw[ac] at h;refine yaa (wpAny_setState_of I hd T.fits ?_);dsimp only;have hes:=EB T (j:=(road t.mask (bu w d) N).j) (h:=bu w d) (x:=.ref b);have Sf:=T.put (x:=.ref b) n2 n3;have Fp:(SetTable.insertAt es (t.put (road t.mask (bu w d) N).j).2 (bu w d,Value.ref b)).size=l.length+1:=by
   rw[<-zaJ,hes,zbJ,(eG ..).length_eq];rfl
  have hpe:(SetTable.insertAt es (t.put (road t.mask (bu w d) N).j).2 (bu w d,Value.ref b)).toList.Perm (((d,b)::ks).map (m8 w)):=by
   rw[hes];refine((eG ..).map _).trans ?_;rw[zci,<-T.el,G];exact .refl _
  have Ql:(t.put (road t.mask (bu w d) N).j).1.place.size=l.length+1:=by
   show(SetTable.insertAt t.place _ _).size=_;rw[<-zaJ,oZ,zaM,zbq,zbr,zbs,zaJ,T.sz];have:=(iK T.rise (road t.mask (bu w d) N).j).1;rw[T.sz] at this;lia
  have hdm:(t.put (road t.mask (bu w d) N).j).1.dummies=#[]:=by
   have hh:SetTable.has t.dummies (road t.mask (bu w d) N).j=false:=by rw[T.dm];unfold SetTable.has;rfl
   show(if SetTable.has t.dummies _=true then _ else t.dummies)=#[];rw[yIn (by rw[hh];decide)];exact T.dm
  have Aa:(t.put (road t.mask (bu w d) N).j).1.led=t.led:=rfl;have Qm:(t.put (road t.mask (bu w d) N).j).1.mask=t.mask:=rfl;generalize (t.put (road t.mask (bu w d) N).j)=tp at*;obtain⟨t1,p⟩:=tp;dsimp only at*;generalize hE1:SetTable.insertAt es p (bu w d,Value.ref b)=es1 at*;have X:∀n:SetTable,n.place=t1.place->n.dummies=t1.dummies->n.mask=t1.mask->n.led=t1.led->yar (model prog w) A (do
    storeSet a es1 n
    if(!false&&n.tooFull)=true then do
      setRelay a (SetTable.grown (es.size+1))
      pure true
     else pure true) Q E s:=by
   intro n e1 e2 Z e4;have C:=jO es1 n I hd;have O:=Heap.SameBut.update s.heap a (Obj.putSet es1 n);have U:=Pc I y O;refine yaa (wpAny_storeSet_of I hd ?_ (by rw[Fp,yaf];lia));have htf:n.tooFull=decide ((l.length+1)*5≥t.mask*3):=by
    unfold SetTable.tooFull SetTable.fill;rw[e1,e2,Z,Ql,hdm,Qm];simp
   rw[htf];by_cases v:(l.length+1)*5≥t.mask*3
   ·rw[yDt v,yIp (by decide)];have ab:n.fits es1.size=true:=by
     unfold SetTable.fits SetTable.fill;rw[e1,e2,Z,Ql,hdm,Qm,Fp];simp;rcases F with e|e|e<;>lia
    have hg:SetTable.grown (es.size+1)=(l.length+1)*4:=by
     unfold SetTable.grown;rw[T.Rp,yIn (by lia)]
    obtain⟨m,m1,m2,m3,m4⟩:∃m,SetTable.sizeAbove ((l.length+1)*4) - 1=m/\(m=7∨m=31∨m=127)/\es1.size*5<m*3/\SetTable.sizeAbove ((l.length+1)*4)<=128:=by
     rcases F with e|e|e
     ·have:l.length=4:=by lia
      rw[this];exact⟨31,by decide+kernel,.inr (.inl rfl),by rw[Fp,this];decide,by decide+kernel⟩
     ·have:l.length=18:=by lia
      rw[this];exact⟨127,by decide+kernel,.inr (.inr rfl),by rw[Fp,this];decide,by decide+kernel⟩
     ·lia
    obtain⟨t3,od,l3,r1,r2,r3,r4,r5⟩:=Et (t:=n) (es:=es1) m1 m2 m3;refine yaa ?_;unfold setRelay;refine yaa (wpAny_setState_of C rfl ab ?_);dsimp only;rw[hg,yIn (by rw[yaf];lia),r1];have Qk:(od.filterMap (es1[·]?)).size=es1.size:=by
     rw[<-zaJ,r2.el,r3.length_eq,zaJ]
    refine yaa ?_;show yar _ _ (if((od.filterMap (es1[·]?)).size != es1.size)=true then _ else _) _ _ _;rw[yIn (by rw[Qk];simp)];refine yab ?_;dsimp only;refine wpAny_storeSet_of C rfl ?_ (by rw[Qk,Fp,yaf];lia);refine yab ?_;have sb2:=O.trans (Heap.SameBut.update _ a (Obj.putSet (od.filterMap (es1[·]?)) t3));have P:=Pc I y sb2;obtain⟨W,p1,p2⟩:=qC (w:=w) (ks:=(d,b)::ks) (es:=(od.filterMap (es1[·]?)).toList) (by rw[r2.el];exact r3.trans hpe);refine h true _ sb2 P ⟨_,_,_,t3,l3,W,jO _ t3 C rfl,y,rfl,r2,by rw[r4,e4,Aa,u],p2,λk i=>?_,?_⟩
    ·rcases zch.mp (p1.mem_iff.mp i) with rfl|i
     ·exact⟨hbB,qL P hb⟩
     ·exact⟨(H k i).1,qL P (hk k i)⟩
    ·refine(p1.map _).trans ?_;rw[zci];refine(Y.cons d).trans ?_;exact List.perm_append_singleton d S |>.symm
   ·rw[yDf v,yIn (by decide)];refine yab ?_;have L:=Sf (by lia);obtain⟨W,p1,p2⟩:=qC hpe;refine h true _ O U ⟨_,_,_,n,_,W,C,y,rfl,⟨by rw[e2];exact L.dm,by rw[e1];exact L.pl,L.el,L.up,by rw[Z];exact L.mm,by rw[Z];exact L.nf,by rw[Z];exact L.le,by rw[Z];exact L.way⟩,by rw[e4,Aa,u],p2,λk i=>?_,?_⟩
    ·rcases zch.mp (p1.mem_iff.mp i) with rfl|i
     ·exact⟨hbB,qL U hb⟩
     ·exact⟨(H k i).1,qL U (hk k i)⟩
    ·refine(p1.map _).trans ?_;rw[zci];refine(Y.cons d).trans ?_;exact List.perm_append_singleton d S |>.symm
  obtain⟨b1,b2,bs,b3⟩:=hb;cases hpt:t1.plain with
  |true=>
   rw[yIp rfl];refine yaa (wN 8 d (by lia) b1 b3 λr=>?_);cases r
   ·exact X _ rfl rfl rfl rfl
   ·exact X _ rfl rfl rfl rfl
  |false=>
   rw[yIn (by decide)];refine yaa (yab ?_);exact X _ rfl rfl rfl rfl
end M8
namespace M8
open PySem PySem.Spec PyProof.Rows M5 M6 M7
noncomputable def qd(val:Nat->yam):Nat->List yam
 |0=>[]
 |i+1=>pM (qd val i) (val i)
theorem pL(val:Nat->yam):∀i,(qd val i).length<=i
 |0=>zcI _
 |i+1=>by
  have:=pL val i;show(pM _ _).length<=_;unfold pM;split
  ·lia
  ·rw[zaM];show _+1<=_;lia
theorem uS(val:Nat->yam)(y:yam):∀n,y∈qd val n↔∃i,i<n/\val i=y
 |0=>by simp[qd]
 |n+1=>by
  have a:=uS val y n;have j:y∈qd val (n+1)↔y∈qd val n∨y=val n:=by
   show y∈pM _ _↔_;unfold pM;split
   ·exact⟨.inl,λz=>z.elim id λe=>e▸‹_›⟩
   ·simp
  rw[j,a];constructor
  ·rintro(⟨i,h,e⟩|e)
   ·exact⟨i,by lia,e⟩
   ·exact⟨n,by lia,e.symm⟩
  ·rintro⟨i,h,e⟩;rcases zcA i n with z|z
   ·exact .inl ⟨i,z,e⟩
   ·obtain rfl:i=n:=by lia
    exact .inr e.symm
theorem oM(val:Nat->yam):∀n,(qd val n).Nodup
 |0=>List.nodup_nil
 |n+1=>by
  have h:=oM val n;show(pM _ _).Nodup;unfold pM;split
  ·exact h
  ·rename_i i;rw[zbf];refine⟨h,by simp,λa l b j e=>?_⟩;rw[zaO.mp j] at e;exact i (e▸l)
section
variable {R:Result->yah->Prop}{wr:List Addr}{P:Nat->yai->Prop}{St:Nat->yah->Prop}
theorem E6{h0:Heap}(W:WalksS prog w A.in1 I fp wr G n P St)(a:Addr)(ha:a ∉ fp)(val:Nat->yam×Addr)(q:∀i v,P i v->v=.ref (val i).2)(hB:∀i,i<n->val i∈B)(Q:∀i,i<n->isKey h0 (val i).1 (val i).2)(hI:∀i s,St i s->∃o,s.heap.get? I=some o/\o.cls≠ .type "tuple")(hw:∀b∈wr,b=I)(hu:A.units+11<cLine)(hn:n<63):
  ∀(k i:Nat)(s:yah),n - i=k->i<=n->St i s->Bd w B s.heap a (qd (λi=>(val i).1) i)->dS h0 s.heap->
   (∀s',Moved (a::wr) G s s'->dS h0 s'.heap->Bd w B s'.heap a (qd (λi=>(val i).1) n)->R (.ok (.ret .none)) s')->
   codeAny (model prog w) A (.builtin "set.update.loop" ⟨[.ref a,.ref I],[]⟩) R s:=by
 have y:a ∉ wr:=λz=>ha (W.sub _ z);have sub:∀b∈wr,b∈a::wr:=λb z=>zay _ z;have kt:∀{i:Nat}{s s':yah},St i s->Moved wr G s s'->dS s.heap s'.heap:=λ{i s s'} h j=>by
  obtain⟨o,ho,hc⟩:=hI _ _ h;exact dS.but ho hc λc o S e=>j.heap c o (λz=>S (hw c z)) e
 intro k
 induction k with
 |zero=>
  intro i s hk hi h hS X hR;obtain rfl:i=n:=by lia
  refine codeAny_builtin PyProof.Rows.F.entry_set_update_loop ?_;rw[Around.under_plainId PyProof.Rows.F.plain_set_update_loop _];show yar _ A.in1 (pyNext (.ref I) >>= _) _ _ s;refine yaa (W.done s _ _ h λs' j=>?_);have k1:=kt h j;exact yab (hR s' (j.mono sub) (X.trans k1) (hS.keep (λo e=>j.heap a o y e) k1))
 |succ k ih=>
  intro i s hk hi h hS X hR;have l:i<n:=by lia
  refine codeAny_builtin PyProof.Rows.F.entry_set_update_loop ?_;rw[Around.under_plainId PyProof.Rows.F.plain_set_update_loop _];show yar _ A.in1 (pyNext (.ref I) >>= _) _ _ s;refine yaa (W.item i s _ _ l h λv s' hP t j=>?_);have k1:=kt h j;obtain rfl:=q i v hP;have Z:=hS.keep (λo e=>j.heap a o y e) k1;have E:=X.trans k1;have m:isKey s'.heap (val i).1 (val i).2:=qL E (Q i l);show yar _ A.in1 (holding [Value.ref (val i).2] (setAdd a (.ref (val i).2)) >>= _) _ _ s';refine yaa (yad ?_);unfold setAdd;refine yad (yaa ((e7 prog w).pyHash (by show A.units+1+10<cLine;lia) m ?_));have:=pL (λi=>(val i).1) i;refine JV (s:={s' with toks:=s'.toks+Rq (val i).1}) Z (hB i l) m (by show A.units+1+10<cLine;lia) (by lia) λb h' u O Y=>?_;refine yab ⟨plainId_quiet PyProof.Rows.F.plain_set_update_loop _,ih (i+1) _ (by lia) l (W.frame _ s' _ _ t (Nat.le_add_right _ _) λb U o e=>?_) Y (E.trans O) λL x C H=>?_⟩
  ·rw[u.2 b λz:b=a=>ha (z▸U)];exact e
  ·refine hR L (Moved.trans W.gtrans ((j.mono sub).then_heap (Nat.le_add_right _ _) λb o U e=>?_) x) C H;rw[u.2 b λz:b=a=>U (z▸zaL)];exact e
end
theorem CK(e:h.get? a=some (br (!w.params.followText "set-order"))):Bd w B h a []:=
 ⟨_,#[],0,_,[],[],e,⟨rfl,rfl,rfl⟩,rfl,⟨rfl,rfl,rfl,.nil,.inl rfl,(by show 0*5<7*3;decide),λe i=>by simp at i,λe i=>by simp at i⟩,rfl,rfl,λk j=>by simp at j,.nil⟩
theorem uq{T:String}{ob:Obj}{St:Addr->Nat->Heap->Prop}(hh:A.handled=none)(hT:s.TypeIs (.ref l) T)(h1:isSubtype (.type T) (.type "set")=pure false)(h2:isSubtype (.type T) (.type "frozenset")=pure false)(h3:(Value.type T==Value.type "dict")=false)(it:∀{A':yal}{s':yah}{Q':yai->yah->Prop}{E':yai->yah->Prop},(∀b o,s.heap.get? b=some o->s'.heap.get? b=some o)->Q' (.ref s'.heap.objs.size) {s' with heap:=s'.heap.push ob}->yar (model prog w) A' (pyIter (.ref l)) Q' E' s')(C:ob.isFreed=false)(W:∀{A':yal}(I:Addr),A'.handled=none->l≠I->Walks prog w A' I [I,l] [I] its.size (λi v=>its[i]? =some v) (St I))(t:∀I h',(∀b o,s.heap.get? b=some o->h'.get? b=some o)->h'.get? I=some ob->St I 0 h')(cg:∀I i h',St I i h'->∃o,h'.get? I=some o/\o.cls≠ .type "tuple")(U:its.toList=ks.map λk=>.ref k.2)(hk:∀k∈ks,isKey s.heap k.1 k.2)(hu:A.units+13<cLine)(hn:ks.length<63)(h:∀(h':Heap)(tk:Nat)(S:List yam),S.Nodup->(∀y,y∈S↔y∈ks.map (·.1))->S.length<63->Bd w ks h' s.heap.objs.size S->(∀b o,b<s.heap.objs.size->s.heap.get? b=some o->h'.get? b=some o)->Q (.ref s.heap.objs.size) {s with heap:=h',toks:=tk}):
  yar (model prog w) A (call (.type "set") [.ref l]) Q E s:=by
 have el:its.size=ks.length:=by rw[<-zaJ,U,zbJ]
 have a:∀i (m:i<ks.length),ks.getD i (.none,0)=ks[i]:=λi m=>by simp[zcQ,m]
 have X:=pL (λi=>(ks.getD i (.none,0)).1) its.size;refine qY (Z:=λh'=>Bd w ks h' s.heap.objs.size (qd (λi=>(ks.getD i (.none,0)).1) its.size)) hT h1 h2 h3 it C (λI h0 R kp gS gI F L hR=>?_)
  λh' tk hZ kp=>h h' tk _ (oM _ _) (λy=>?_) (by lia) hZ kp
 ·refine E6 (h0:=h0) (B:=ks) (St:=λi s=>St I i s.heap) (P:=λi v=>its[i]? =some v) (W (A':=A.in1.in1.in1) I hh F).toS s.heap.objs.size L (λi=>ks.getD i (.none,0)) (λi v j=>?_) (λi m=>?_) (λi m=>?_) (λi s' x=>cg I i _ x) (λb H=>by simpa using H) (by show A.units+1+1+11<cLine;lia) (by lia) (its.size - 0) 0 _ rfl (zcJ _) (t I h0 kp gI) (CK gS) (λc o _ z=>z) λs' n _ O=>?_
  ·rw[<-zaw,U,zba] at j;cases e:ks[i]? with
   |none=>rw[e] at j;cases j
   |some k=>
    rw[e] at j;have:ks.getD i (.none,0)=k:=by rw[zcQ,e];rfl
    rw[this];exact(zcL.inj j).symm
  ·rw[a i (by lia)];exact zby _
  ·rw[a i (by lia)];obtain⟨k1,k2,as,Y⟩:=hk _ (zby (by lia:i<ks.length));exact⟨k1,k2,as,Reads.keeps kp Y⟩
  ·obtain⟨h',g',d',q,u⟩:=s';obtain rfl:g'=s.gens:=n.gens;obtain rfl:d'=s.drawn:=n.drawn;obtain rfl:u=s.os:=n.os;exact hR h' q O λb o H e=>n.heap b o H e
 ·rw[uS,zcu];constructor
  ·rintro⟨i,m,e⟩;rw[a i (by lia)] at e;exact⟨_,zby (by lia),e⟩
  ·rintro⟨k,G,e⟩;obtain⟨i,m,rfl⟩:=zaG G;exact⟨i,by lia,by rw[a i m];exact e⟩
theorem wY(x:A.handled=none)(j:s.heap.IsTuple l its)(m:its.toList=ks.map λk=>.ref k.2)(v:∀k∈ks,isKey s.heap k.1 k.2)(n:A.units+13<cLine)(u:ks.length<63)(h:∀(h':Heap)(tk:Nat)(S:List yam),S.Nodup->(∀y,y∈S↔y∈ks.map (·.1))->S.length<63->Bd w ks h' s.heap.objs.size S->(∀b o,b<s.heap.objs.size->s.heap.get? b=some o->h'.get? b=some o)->Q (.ref s.heap.objs.size) {s with heap:=h',toks:=tk}):
  yar (model prog w) A (call (.type "set") [.ref l]) Q E s:=by
 refine uq (T:="tuple") (ob:={cls:=.type "tuple_iterator",data:=.fields #[.ref l,.int 0 0]}) (St:=λI i h=>h.IsTupleIter I l i/\h.IsTuple l its) x j.typeIs M5.F.sub_tuple_set M5.F.sub_tuple_frozenset (by decide) (λkp q=>wpAny_pyIter_tuple (j.at (kp l)) q) rfl (λI h1 h2=>Walks.tuple h1 I l h2 its) (λI h' kp e=>⟨⟨_,e,rfl,rfl⟩,j.at (kp l)⟩) (λI i h' a=>?_) m v n u h;obtain⟨⟨o,t,C,_⟩,_⟩:=a;exact⟨o,t,by rw[C];intro z;injection z with z;exact absurd z (by decide)⟩
theorem Bt(x:A.handled=none)(j:s.heap.IsList l its)(m:its.toList=ks.map λk=>.ref k.2)(v:∀k∈ks,isKey s.heap k.1 k.2)(n:A.units+13<cLine)(u:ks.length<63)(h:∀(h':Heap)(tk:Nat)(S:List yam),S.Nodup->(∀y,y∈S↔y∈ks.map (·.1))->S.length<63->Bd w ks h' s.heap.objs.size S->(∀b o,b<s.heap.objs.size->s.heap.get? b=some o->h'.get? b=some o)->Q (.ref s.heap.objs.size) {s with heap:=h',toks:=tk}):
  yar (model prog w) A (call (.type "set") [.ref l]) Q E s:=by
 refine uq (T:="list") (ob:={cls:=.type "list_iterator",data:=.fields #[.ref l,.int 0 0]}) (St:=λI i h=>h.IsListIter I l i/\h.IsList l its) x j.typeIs PySem.F.sub_list_set PySem.F.sub_list_frozenset (by decide) (λkp q=>wpAny_pyIter_list (j.at (kp l)) q) rfl (λI h1 h2=>Walks.list h1 I l h2 its) (λI h' kp e=>⟨⟨_,e,rfl,rfl⟩,j.at (kp l)⟩) (λI i h' a=>?_) m v n u h;obtain⟨⟨o,t,C,_⟩,_⟩:=a;exact⟨o,t,by rw[C];intro z;injection z with z;exact absurd z (by decide)⟩
theorem ue{S:List yam}(hh:A.handled=none)(hS:Bd w B s.heap a S)(h0:∀d∈S,∃p r,d=.tuple (.int p::r))(hc:∀x∈S,∀y∈S,bO x y=true)(hn:S.length<64)(W:A.units+20<cLine)(h:∀(s1:yah)(h2:Heap)(out:List (yam×Addr))(c:Nat),s1.gens=s.gens->s1.os=s.os->(∀b o,s.heap.get? b=some o->s1.heap.get? b=some o)->(∀b o,s1.heap.get? b=some o->h2.get? b=some o)->h2.get? s1.heap.objs.size=some (seqObj "list" (out.map λk=>Value.ref k.2).toArray c)->(∀k∈out,k∈B)->(out.map (·.1)).Perm S->out.Pairwise (λx y=>fH y.1 x.1=false)->Q (.ref s1.heap.objs.size) {s1 with heap:=h2}):
  yar (model prog w) A (call (.builtin "sorted") [.ref a]) Q E s:=by
 obtain⟨o,es,ep,t,l,ks,Y,G,hd,T,m,n,q,v⟩:=hS;have C:∀k∈ks,k.1∈S:=λk i=>v.mem_iff.mp (zcu.mpr ⟨k,i,rfl⟩);have H:ks.length=S.length:=by rw[<-v.length_eq,zbJ]
 have X:es.size=ks.length:=by rw[<-zaJ,n,zbJ]
 refine mh (ks:=ks) (R:=λs1=>s1.gens=s.gens/\s1.os=s.os) hh (λk i=>yT.g ⟨(q k i).2,h0 _ (C k i)⟩) (λk i l Z=>hc _ (C k i) _ (C l Z)) (by lia) W (λF hQ=>mL (es:=es) (ep:=ep) (t:=t) F ⟨o,Y,G,hd,T.fits,m,λ_=>T.rise⟩ (by lia) λs1 O kp e1 e2 le tx=>?_) λs1 h2 out c I k1 U g j u=>?_
 ·have e:es.toList.map (·.2)=ks.map λk=>Value.ref k.2:=by rw[n,zct];rfl
  rw[e] at tx;obtain⟨P,L,rfl⟩:=eU tx;exact hQ s1 P kp ⟨e1,e2⟩ L
 ·exact h s1 h2 out c I.1 I.2 k1 U g (λk i=>(q k (j.mem_iff.mp i)).1) ((j.map _).trans v) u
end M8
namespace L2
open PySem PySem.Spec PyProof.Rows M6 M8
def qk(K:yaI)(i:TE):TE:=λh H Q=>i h H λx e=>∃(p:Addr)(a:List (yam×Addr)),x=.ref p/\(dJ K e p (a.map λk=>V.ref k.2)∨cN K e p (a.map λk=>V.ref k.2))/\rE K e a/\(∀k∈a,∃q r,k.1=.tuple (.int q::r))/\(∀k∈a,∀l∈a,bO k.1 l.1=true)/\a.length<63/\
 ∀(l:Addr)(out:List (yam×Addr)),e l=none->(∀k∈out,k∈a)->(∀y,y∈out.map (·.1)↔y∈a.map (·.1))->(out.map (·.1)).Nodup->out.Pairwise (λx y=>fH y.1 x.1=false)->Q (.ref l) (upd e l (.lst (out.map λk=>V.ref k.2)))
section
variable {ta:TE}
theorem dB{α:Type}(f:α->Addr):∀{l:List α}{us:List yai},Vals (l.map λx=>V.ref (f x)) us->us=l.map λx=>Value.ref (f x)
 |[],us,h=>by cases h;rfl
 |x::l,us,h=>by
  cases h with
  |cons h1 h2=>cases h1;rw[dB f h2];rfl
theorem fy{k:Nat}(hr:aX k X.A)(hc:X.calm=true)(hg:Gl X "sorted")(hm:X.mg "sorted"=none)(hg2:Gl X "set")(hm2:X.mg "set"=none)(he:PE X e ta)(hs:notStar e=true:=by rfl):
  PE X (.Call (.Name "sorted" p) [.Call (.Name "set" p2) [e] [] pos2] [] pos) (qk X.K ta):=by
 intro m s σ H Q I h;have hk:=I.ok.hd hc;refine wpAny_Call_Name_kw (cH I hg hm (u:=.builtin "sorted") (by decide+kernel) ?_ (by decide+kernel) (by decide+kernel));refine PyProof.Rows.callWith_builtin1 (E:=X.xe) ?_ (aM [] X.env rfl) rfl;rw[aM [] X.env rfl];refine zaX ?_;refine wpAny_Call_Name_kw (cH I hg2 hm2 (u:=.type "set") (by decide+kernel) ?_ (by decide+kernel) (by decide+kernel));refine PyProof.Rows.callWith_type1 (E:=X.xe) ?_ (aM [] X.env hs) rfl;rw[aM [] X.env hs];refine zaX (bQ (he m s σ H _ I h) λu i P=>?_);obtain⟨x,H1,L,rx,a,O,ex,F,hkd,h0,hcm,hl,q⟩:=P;subst ex;obtain rfl:u=Value.ref a:=rx;refine zbp ?_;have hun:=hr.units;have ky:∀k∈O,isKey i.heap k.1 k.2:=λk hk1=>by
  obtain⟨k1,Z,k3⟩:=hkd k hk1;exact L.key k1 Z k3
 have go:∀{Q':yai->yah->Prop},(∀(G:Heap)(tk:Nat)(S:List yam),S.Nodup->(∀y,y∈S↔y∈O.map (·.1))->S.length<63->Bd X.w O G i.heap.objs.size S->(∀b o,b<i.heap.objs.size->i.heap.get? b=some o->G.get? b=some o)->Q' (.ref i.heap.objs.size) {i with heap:=G,toks:=tk})->yar (model X.prog X.w) X.A (call (.type "set") [.ref a]) Q' X.xe i:=λq'=>by
  rcases F with F|F
  ·obtain⟨its,U,pl,hz⟩:=L.tuple F;exact wY (its:=its.toArray) hk pl (by simpa using dB (λk:yam×Addr=>k.2) U) ky (by lia) hl q'
  ·obtain⟨its,U,pl,hz⟩:=L.list F;exact Bt (its:=its.toArray) hk pl.isList (by simpa using dB (λk:yam×Addr=>k.2) U) ky (by lia) hl q'
 refine go λG tk S n1 n2 n3 tS kp=>?_
 ·refine zbp ?_;have mS:∀d∈S,∃k∈O,k.1=d:=λd hd=>zcu.mp ((n2 d).mp hd);refine ue (s:={i with heap:=G,toks:=tk}) hk tS (λd hd=>?_) (λx hx y hy=>?_) (by lia) (by lia) λs2 h2 out c e1 e2 v Y g hB hp C=>?_
  ·obtain⟨k,k1,rfl⟩:=mS d hd;exact h0 k k1
  ·obtain⟨k,k1,rfl⟩:=mS x hx;obtain⟨k',Z,rfl⟩:=mS y hy;exact hcm k k1 k' Z
  ·obtain⟨j,g2,d2,t2,o2⟩:=s2;obtain rfl:g2=i.gens:=e1;obtain rfl:o2=i.os:=e2;have W:∀b o,i.heap.get? b=some o->h2.get? b=some o:=λb o z=>Y b o (v b o (kp b o (zcF z) z));have n:i.heap.objs.size<=j.objs.size:=by
    obtain⟨o,es,ep,t,l,ks',ho,_⟩:=tS;exact zcx (zcF (v _ _ ho))
   have ab:out.length<64:=by have:=hp.length_eq;rw[zbJ] at this;lia
   refine⟨.ref j.objs.size,_,(L.laid (a:=j.objs.size) (t':=t2) (o:=.lst (out.map λk=>V.ref k.2)) W n ⟨by rw[zbJ,yaf];lia,_,c,fL (λk=>k.2) out,g⟩).S6 d2,rfl,q _ out (L.hok.fresh n) hB (λy=>(hp.mem_iff).trans (n2 y)) (hp.nodup_iff.mpr n1) C⟩
end
end L2
namespace M
open PySem PySem.Spec PyProof.Rows L2 M6
theorem oq{α a:Type}{f:α->a}{l:List α}:∀{out:List a},(∀y∈out,y∈l.map f)->∃o':List α,(∀x∈o',x∈l)/\out=o'.map f
 |[],_=>⟨[],λ_ h=>by simp at h,rfl⟩
 |y::out,h=>by
  obtain⟨x,i,e⟩:=zcu.mp (h y (by simp));obtain⟨o',m,j⟩:=oq (l:=l) (f:=f) λz hz=>h z (zay _ hz);refine⟨x::o',λz hz=>?_,by rw[zci,e,<-j]⟩;rcases zch.mp hz with rfl|hz
  ·exact i
  ·exact m z hz
theorem lE{w:Wd}:∀{ks:List D}{a:List V},ao K w ks a->(∀k∈ks,∃es,k=.tup es)->∃bs:List Addr,a=bs.map V.ref
 |[],a,h,_=>by simp only[ao] at h;exact⟨[],h⟩
 |k::ks,a,h,g=>by
  simp only[ao] at h;obtain⟨x,r,rfl,h1,h2⟩:=h;obtain⟨es,rfl⟩:=g k (by simp);simp only[Rep] at h1;obtain⟨b,i,rfl,_⟩:=h1;obtain⟨bs,rfl⟩:=lE h2 λk e=>g k (zay _ e);exact⟨b::bs,rfl⟩
def jh(a:AE):AE:=λj S Q=>a j S λr i=>∃h:List D,(aS i r.d=.tup h∨aS i r.d=.lst h)/\(∀k∈h,dj k/\∃q r,py k=PyData.tuple (.int q::r))/\(∀k∈h,∀l∈h,bO (py k) (py l)=true)/\h.length<63/\
 ∀e:List D,(∀k∈e,k∈h)->(∀y,y∈e.map py↔y∈h.map py)->(e.map py).Nodup->e.Pairwise (λx y=>fH (py y) (py x)=false)->Q (.new (.lst e)) i
theorem xj{a:AE}:∀E H Q,aR K (jh a) E H Q->qk K (aR K a) E H Q:=by
 rintro E H Q ⟨w,δ,S,Qa,ok,env,q,bk⟩;refine⟨w,δ,S,_,ok,env,q,.go λr1 S1 v1 P Z I h n F=>?_⟩;obtain⟨i,z,O,g2,hl,q1⟩:=F;obtain⟨a,m,rfl,h1,h2⟩:∃a m,v1=.ref a/\(dJ K Z a m∨cN K Z a m)/\ao K P i m:=by
  rcases z with z|z
  ·obtain⟨a,m,e,h1,h2⟩:=bX h n z;exact⟨a,m,e,.inl h1,h2⟩
  ·obtain⟨a,m,e,h1,h2⟩:=bz h n z;exact⟨a,m,e,.inr (cN.of h1),h2⟩
 obtain⟨bs,rfl⟩:=lE h2 λk j=>(O k j).1.2.2.2;have X:i.length=bs.length:=by have:=h2.length;rw[zbJ] at this;exact this.symm
 have G:∀x∈(i.map py).zip bs,∃k∈i,x.1=py k:=λx s=>by
  obtain⟨k,j,e⟩:=zcu.mp (zbM s).1;exact⟨k,j,e.symm⟩
 have ez:(i.map py).zip bs=(i.zip bs).map λx=>(py x.1,x.2):=by rw[List.zip_map_left];rfl
 have e1:((i.map py).zip bs).map (λk=>V.ref k.2)=bs.map V.ref:=by
  have:((i.map py).zip bs).map (·.2)=bs:=List.map_snd_zip (by rw[zbJ];lia);rw[<-this,zct,this];rfl
 have e2:((i.map py).zip bs).map (·.1)=i.map py:=zbB (by rw[zbJ];lia);refine⟨a,(i.map py).zip bs,rfl,by rw[e1];exact h1,iH h h2 (λk j=>(O k j).1),λx s=>?_,λx s y hy=>?_,by rw[zbT,zbJ];lia,λl out W C o v u=>?_⟩
 ·obtain⟨k,j,e⟩:=G x s;rw[e];exact(O k j).2
 ·obtain⟨k,j,e⟩:=G x s;obtain⟨k',L,e'⟩:=G y hy;rw[e,e'];exact g2 k j k' L
 ·rw[ez] at C;obtain⟨t,U,rfl⟩:=oq C;have e3:(List.map (λk:yam×Addr=>V.ref k.2) (t.map λx=>(py x.1,x.2)))=t.map λx=>V.ref x.2:=by rw[zct];rfl
  have Y:List.map (λx:yam×Addr=>x.1) (t.map λx=>(py x.1,x.2))=(t.map (·.1)).map py:=by rw[zct,zct];rfl
  rw[e3];rw[Y] at v;rw[e2,Y] at o;refine bk (.new (.lst (t.map (·.1)))) S1 _ P _ I (h.alloc W) (h.fresh W ⟨_,rfl,fG λx s=>rG h2 x (U x s)⟩) (q1 _ (λk j=>?_) o v ?_)
  ·obtain⟨x,x1,rfl⟩:=zcu.mp j;exact(zbM (U x x1)).1
  ·rw[zbg] at u⊢;exact u
theorem fy{k:Nat}(j:aX k X.A)(o:X.calm=true)(m:Gl X "sorted")(l:X.mg "sorted"=none)(h:Gl X "set")(a:X.mg "set"=none)(n:GE X e ta)(i:notStar e=true:=by rfl):
  GE X (.Call (.Name "sorted" p) [.Call (.Name "set" p2) [e] [] pos2] [] pos) (jh ta):=⟨mE (L2.fy j o m l h a n.p i) xj⟩
end M
namespace M9
open PySem PySem.Spec PyProof.Rows
theorem II{t:Addr}{x:yai}(l:s.heap.IsTupleIter I t i)(n:s.heap.IsTuple t its)(m:its[i]? =some x)(h:∀h',h'.IsTupleIter I t (i+1)->Heap.SameBut I s.heap h'->Q x {s with heap:=h'}):yar (model prog w) A (Builtin.SmallTypes.nextOf (.ref I)) Q E s:=by
 obtain⟨o,a,q,hd⟩:=id l;obtain⟨u,e,_,v,j⟩:=n;unfold Builtin.SmallTypes.nextOf;refine yaa (wpAny_callSpecial?_slot (name:=Str.ofString "__next__") l.typeIs F.slot_tuple_iterator_next (wpAny_call_entry F.slot_tuple_iterator_next l.typeIs F.entry_tuple_iterator_next ?_ (F.args_tuple_iterator_next_1 _)));show yar _ _ (field (.ref I) 0 >>= _) _ _ s;refine yaa (wpAny_field a hd (x:=.ref t) rfl ?_);rw[yIn (by simp:¬((Value.ref t==Value.none)=true))];show yar _ _ (field (.ref I) 1 >>= _) _ _ s;refine yaa (wpAny_field a hd (x:=.int i 0) rfl (yaa (wpAny_seqItems e j ?_)));simp only[zbk,m];refine yaa (wpAny_setField a hd (by simp) (yab ⟨x,rfl,yab (h _ ⟨_,zax _ a (Obj.isFreed_of_fields (Obj.data_mapFields hd _)),(Obj.cls_mapFields ..).trans q,by rw[Obj.data_mapFields hd];simp[rawInt]⟩ (Heap.SameBut.update ..))⟩))
structure ZAt(h:Heap)(z TI TO i1 i2 l1 l2:Addr)(f:yai)(k:Nat):Prop where
 hz:IsZip h z TI TO f
 hTI:IsPair h TI (.ref i1) (.ref i2)
 hTO:∃a b,IsPair h TO a b
 h1:h.IsTupleIter i1 l1 k
 h2:h.IsTupleIter i2 l2 k
noncomputable abbrev OM(l:Addr):Obj:={cls:=.type "tuple_iterator",data:=.fields #[.ref l,.int 0 0]}
noncomputable abbrev SS(a b:yai):Obj:={cls:=.type "tuple",data:=.seq #[a,b]}
noncomputable abbrev zO(a b:Addr):Obj:={cls:=.type "zip",data:=.fields #[.none,.bool false,.bool false,.ref a,.ref b]}
noncomputable abbrev q2(h:Heap)(e a:Addr):Heap:=(h.push (OM e)).push (OM a)
noncomputable abbrev q3(h:Heap)(a e:Addr):Heap:=(q2 h a e).push (SS (.ref h.objs.size) (.ref (h.push (OM a)).objs.size))
noncomputable abbrev q4(h:Heap)(e a:Addr):Heap:=(q3 h e a).push (SS .none .none)
noncomputable abbrev q5(h:Heap)(e a:Addr):Heap:=(q4 h e a).push (zO (q2 h e a).objs.size (q3 h e a).objs.size)
end M9
namespace M12
open PySem PySem.Spec PyProof.Rows M9
noncomputable abbrev ad(h:Heap)(i:Nat):Addr:=(h.objs.size+i:Nat)
noncomputable abbrev Bo(a b c:yai):Obj:={cls:=.type "tuple",data:=.seq #[a,b,c]}
noncomputable abbrev G4(a:Heap)(h e:yai):Obj:={cls:=.type "zip",data:=.fields #[h,e,.bool false,.ref (ad a 3),.ref (ad a 4)]}
structure Zs(hb h0 h:Heap)(m:Nat)(os:List Obj):Prop where
 b:∀c o,hb.get? c=some o->h.get? c=some o
 c:∀(i:Nat) o,os[i]? =some o->h.get? (ad hb i)=some o
 f:∀(c:Nat) o,hb.objs.size+os.length<=c->h0.get? c=some o->h.get? c=some o
 z:h.objs.size=m
section
variable {hb h0:Heap}{m' k:Nat}{o0:Obj}
theorem Zs.put(Z:Zs hb h0 h m os)(hi:os[i]? =some o0)(S:Heap.SameBut (ad hb i) h h')(e:h'.get? (ad hb i)=some o):Zs hb h0 h' m (os.set i o):=by
 have n:=(zad.mp hi).1;refine⟨λc a q=>S.extBut _ _ (zcv (zaR (zcF q) (Nat.le_add_right _ _))) (Z.b c a q),λj a q=>?_,λc a l q=>?_,S.1.trans Z.z⟩
 ·rw[zbd] at q;split at q
  ·next h=>subst h;cases q;exact e
  ·next h=>exact S.extBut _ _ (λe=>h (zaI e).symm) (Z.c j a q)
 ·rw[zbP] at l;exact S.extBut _ _ (zcy (zaR (Nat.add_lt_add_left n _) l)) (Z.f c a l q)
theorem Zs.to(Z:Zs hb h0 h m os)(k:∀c o,h.get? c=some o->h'.get? c=some o)(e:h'.objs.size=m'):Zs hb h' h' m' os:=
 ⟨λc o q=>k c o (Z.b c o q),λi o q=>k _ o (Z.c i o q),λ_ _ _ q=>q,e⟩
theorem Zs.upd(Z:Zs hb h h m os)(f:Obj->Obj)(a:os.length<=i):Zs hb (h.update (ad hb i) f) (h.update (ad hb i) f) m os:=
 have S:=Heap.SameBut.update h (ad hb i) f
 ⟨λb o e=>S.extBut _ _ (zcv (zaR (zcF e) (Nat.le_add_right _ _))) (Z.b b o e),λj o e=>S.extBut _ _ (λl=>Nat.not_le.mpr (zaI l▸(zad.mp e).1) a) (Z.c j o e),λ_ _ _ e=>e,S.1.trans Z.z⟩
def Q7(b:Bool)(o:Obj)(l:Addr)(k:Nat):Prop:=o.cls=.type (if b then "list_iterator" else "tuple_iterator")/\o.data=.fields #[.ref l,.int k 0]
def Sq(b:Bool)(h:Heap)(l:Addr)(a:Array yai):Prop:=if b then h.IsList l a else h.IsTuple l a
def ZZ(hb h0 h:Heap)(m:Nat)(o n l:Addr)(k:Nat)(j:Obj):Prop:=
 ∃o0 i e a b c,Q7 true o0 o k/\Q7 false i n k/\Q7 true e l k/\Zs hb h0 h m [o0,i,e,Bo (.ref (ad hb 0)) (.ref (ad hb 1)) (.ref (ad hb 2)),Bo a b c,j]
variable {l1 l2 l3:Addr}{xs ys zs:Array yai}{x y v f0 f1 a b c:yai}
theorem nx{b:Bool}(Z:Zs hb h0 s.heap m os)(j:os[i]? =some o)(I:Q7 b o l k)(M:Sq b hb l xs)(q:xs[k]? =some x)(h:∀h' o',Q7 b o' l (k+1)->Zs hb h0 h' m (os.set i o')->Q x {s with heap:=h'}):yar (model prog w) A (Builtin.SmallTypes.nextOf (.ref (ad hb i))) Q E s:=by
 cases b
 ·refine II ⟨o,Z.c i o j,I⟩ (Heap.IsTuple.at M λo e=>Z.b _ o e) q λh' J S=>?_;obtain⟨o',e,n⟩:=J;exact h h' o' n (Z.put j S e)
 ·refine wpAny_nextOf_list_item ⟨o,Z.c i o j,I⟩ (Heap.IsList.at M λo e=>Z.b _ o e) q λh' J S=>?_;obtain⟨o',e,n⟩:=J;exact h h' o' n (Z.put j S e)
theorem rH{k:Nat}{Q:Unit->yah->Prop}(Z:Zs hb h0 s.heap m os)(e:os[4]? =some (Bo a b c))(h:∀h',Zs hb h0 h' m (os.set 4 {cls:=.type "tuple",data:=.seq ((#[a,b,c]:Array yai).setIfInBounds k x)})->Q () {s with heap:=h'}):
  yar (model prog w) A (updateSeq (ad hb 4) (·.setIfInBounds k x)) Q E s:=by
 have i:=Z.c 4 _ e;refine wpAny_updateSeq i rfl (h _ (Z.put e (Heap.SameBut.update ..) ?_));rw[zax _ i rfl];simp[Obj.mapSeq]
theorem nh{Q:Unit->yah->Prop}(Z:Zs hb h0 s.heap m os)(i:os[5]? =some (G4 hb f0 f1))(j:k<5)(h:∀h',Zs hb h0 h' m (os.set 5 {cls:=.type "zip",data:=.fields ((#[f0,f1,.bool false,.ref (ad hb 3),.ref (ad hb 4)]:Array yai).setIfInBounds k x)})->Q () {s with heap:=h'}):
  yar (model prog w) A (setField (.ref (ad hb 5)) k x) Q E s:=
 wpAny_setField_rec (Z.c 5 _ i) j λh' e S=>h h' (Z.put i S e)
def Fr(hb h:Heap)(f0 f1:yai):Prop:=∃(T:Nat)(e:Obj)(f:Bool),f0=rawInt T/\f1=.bool f/\h.get? T=some e/\hb.objs.size+6<T
theorem BC{T:Nat}{f:Bool}{Q:Bool->yah->Prop}(Z:Zs hb h0 s.heap m os)(e:os[5]? =some (G4 hb (rawInt T) (.bool f)))(i:s.heap.get? T=some o)(h:∀g,Zs hb h0 g m (os.set 5 (G4 hb (rawInt T) (.bool true)))->Q false {s with heap:=g}):yar (model prog w) A (Builtin.SmallTypes.ownedTupleIsFree (.ref (ad hb 5))) Q E s:=by
 have hz:=Z.c 5 _ e;unfold Builtin.SmallTypes.ownedTupleIsFree;refine yaa (wpAny_field hz rfl (x:=rawInt T) rfl ?_);show yar _ _ (loadIfAlive ((T:Int).toNat) >>= _) _ _ _;rw[zbk];refine yaa (PySem.W.kdx_alive i ?_);simp only[Option.isNone_some,zaU,if_false];refine yaa (wpAny_field hz rfl (x:=.bool f) rfl ?_);cases f with
 |true=>
  rw[yIn (show¬((Value.bool true != Value.bool true)=true) from zaT)];exact yab (h _ (Z.put e (Heap.SameBut.refl _ _) hz))
 |false=>
  rw[yIp (show(Value.bool false != Value.bool true)=true from rfl)];exact yaa (nh Z e (by decide) λg Z=>yab (h g Z))
theorem CU{Q:Option yai->yah->Prop}(M1:Sq true hb l1 xs)(M2:Sq false hb l2 ys)(M3:Sq true hb l3 zs)(Z:ZZ hb s.heap s.heap m l1 l2 l3 k (G4 hb f0 f1))(hf:(f0=.none/\f1=.bool false)∨Fr hb s.heap f0 f1)(hs:hb.objs.size+6<m)(i:(∃x y v,xs[k]? =some x/\ys[k]? =some y/\zs[k]? =some v/\∀h' W U,ZZ hb h' h' (m+1) l1 l2 l3 (k+1) (G4 hb W U)->Fr hb h' W U->h'.get? m=some (Bo x y v)->(∀(c:Nat) o,hb.objs.size+6<=c->s.heap.get? c=some o->h'.get? c=some o)->Q (some (.ref m)) {s with heap:=h'})∨(xs[k]? =none/\f0≠ .none/\A.handled=none/\∀h',(∀c o,hb.get? c=some o->h'.get? c=some o)->(∀(c:Nat) o,hb.objs.size+6<=c->s.heap.get? c=some o->h'.get? c=some o)->Q none {s with heap:=h'})):
  yar (model prog w) A (pyNext (.ref (ad hb 5))) Q E s:=by
 obtain⟨o0,H,G,a,b,c,l,u,t,Z⟩:=Z;have hz:=Z.c 5 _ rfl;have O:s.TypeIs (.ref (ad hb 5)) "zip":=⟨_,hz,rfl⟩
 unfold pyNext;refine yaa (wpAny_attempt (wpAny_callSpecial?_slot (name:=Str.ofString "__next__") O F.slot_zip_next (wpAny_call_entry F.slot_zip_next O F.entry_zip_next ?_ (F.args_zip_next_1 _))));show yar _ _ (field (.ref (ad hb 5)) 2 >>= _) _ _ _;refine yaa (wpAny_field hz rfl (x:=.bool false) rfl ?_);show yar _ _ (field (.ref (ad hb 5)) 3 >>= _) _ _ _;refine yaa (wpAny_field hz rfl (x:=.ref (ad hb 3)) rfl (yaa (wpAny_seqItems (Z.c 3 _ rfl) rfl ?_)));show yar _ _ (Builtin.SmallTypes.ownedTupleIsFree (.ref (ad hb 5)) >>= _) _ _ _;rcases hf with⟨rfl,rfl⟩|⟨T,oT,f,rfl,rfl,O,L⟩
 ·refine yaa ?_;unfold Builtin.SmallTypes.ownedTupleIsFree;refine yaa (wpAny_field hz rfl (x:=.none) rfl (yab ?_));rcases i with⟨x,y,v,I,X,Y,P⟩|⟨_,h,_⟩
  ·simp only[if_true];refine yaa (wpAny_rule (yaa (wpAny_field hz rfl (x:=.ref (ad hb 4)) rfl (yaa (nh Z rfl (by decide) λg1 Z=>?_)))));refine yaa ?_;simp only[List.zipIdx_cons,List.zipIdx_nil,List.forIn_cons,List.forIn_nil];refine yaa (yaa (yaB ?_));show yar _ _ (Builtin.SmallTypes.nextOf (.ref (ad hb 0)) >>= _) _ _ _;refine yaa (nx Z rfl l M1 I λj o0 l Z=>yab (yaa (wpAny_seqItems (Z.c 4 _ rfl) rfl (yaa (rH Z rfl λn Z=>?_)))));refine yaa (wpAny_letGo (yab (yaa (yaa (yaB ?_)))));show yar _ _ (Builtin.SmallTypes.nextOf (.ref (ad hb 1)) >>= _) _ _ _;refine yaa (nx Z rfl u M2 X λj H u Z=>yab (yaa (wpAny_seqItems (Z.c 4 _ rfl) rfl (yaa (rH Z rfl λn Z=>?_)))));refine yaa (wpAny_letGo (yab (yaa (yaa (yaB ?_)))));show yar _ _ (Builtin.SmallTypes.nextOf (.ref (ad hb 2)) >>= _) _ _ _;refine yaa (nx Z rfl t M3 Y λj G t Z=>yab (yaa (wpAny_seqItems (Z.c 4 _ rfl) rfl (yaa (rH Z rfl λn C=>?_)))))
   replace C:Zs hb s.heap n m [o0,H,G,Bo (.ref (ad hb 0)) (.ref (ad hb 1)) (.ref (ad hb 2)),Bo x y v,G4 hb .ellipsis (.bool false)]:=C
   refine yaa (wpAny_letGo (yab (yab (yaa (wpAny_seqItems (C.c 4 _ rfl) rfl (yaa (wpAny_newTuple ?_)))))));have hm:=C.z;subst hm;have hp:(n.push (Bo x y v)).get? n.objs.size=some (Bo x y v):=zaK _ rfl;have Z':=C.to (h':=n.push (Bo x y v)) (λ_ _ e=>zaq _ e) (zcg ..);show yar _ _ (Builtin.SmallTypes.ownedTupleHandOut (.ref (ad hb 5)) (.ref n.objs.size) >>= _) _ _ _;refine yaa ?_;unfold Builtin.SmallTypes.ownedTupleHandOut;refine yaa (nh Z' rfl (by decide) λg9 Z9=>nh Z9 rfl (by decide) λg Z=>?_);have e:=Z.f _ _ (zcx hs) hp;exact yab ⟨_,rfl,yab (P g _ _ ⟨o0,H,G,_,_,_,l,u,t,Z.to (λ_ _ e=>e) Z.z⟩ ⟨_,_,_,rfl,rfl,e,hs⟩ e λc o i e=>Z.f c o i (zaq _ (C.f c o i e)))⟩
  ·exact absurd rfl h
 ·refine yaa (BC Z rfl O λg1 Z=>?_);simp only[zaU,if_false];simp only[<-zaV,List.forIn_cons,List.forIn_nil];refine yaa (yaa (yaa (yad ?_)));show yar _ _ (Builtin.SmallTypes.nextOf (.ref (ad hb 0)) >>= _) _ _ _;rcases i with⟨x,y,v,I,X,Y,P⟩|⟨I,_,hh,P⟩
  ·refine yaa (nx Z rfl l M1 I λj o0 l Z=>yab (yab (yaa (yaa (yad ?_)))));show yar _ _ (Builtin.SmallTypes.nextOf (.ref (ad hb 1)) >>= _) _ _ _;refine yaa (nx Z rfl u M2 X λj H u Z=>yab (yab (yaa (yaa (yad ?_)))));show yar _ _ (Builtin.SmallTypes.nextOf (.ref (ad hb 2)) >>= _) _ _ _;refine yaa (nx Z rfl t M3 Y λj G t Z=>yab (yab (yab ?_)));show yar _ _ (newTuple [x,y,v] >>= _) _ _ _;refine yaa (wpAny_newTuple (yab ⟨_,rfl,yab ?_⟩));have hm:=Z.z;subst hm;have kp:∀c o,j.get? c=some o->(j.push (Bo x y v)).get? c=some o:=λ_ _ e=>zaq _ e;exact P _ _ _ ⟨o0,H,G,_,_,_,l,u,t,Z.to kp (zcg ..)⟩ ⟨_,_,_,rfl,rfl,kp _ _ (Z.f _ _ (zcx L) O),L⟩ (zaK _ rfl) λc o i e=>kp c o (Z.f c o i e)
  ·refine yaa (wpAny_nextOf_list_end hh ⟨_,Z.c 0 _ rfl,l⟩ (Heap.IsList.at M1 λo e=>Z.b _ o e) I λj e S he=>?_);obtain⟨oe,hoe,hce⟩:=he;exact yaa (wpAny_isInstance (T:="StopIteration") (b:=true) ⟨oe,hoe,hce⟩ isSubtype_stop (yab (P j (λc o q=>S _ _ (zcv (zcF q)) (Z.b c o q)) λc o i q=>S _ _ (zcy (zaR (Nat.lt_add_of_pos_right (by decide)) i)) (Z.f c o i q))))
end
namespace F
theorem nP(a b c:yai):checkTypeCall "zip" ⟨[a,b,c],[]⟩=pure ():=by kernel_rfl
theorem p8(a b c:yai):checkBuiltinCall "zip.__new__" ⟨[.type "zip",a,b,c],[]⟩=pure ():=by kernel_rfl
theorem jK(a b c d:yai):argsOk "object.__init__" ⟨[a,b,c,d],[]⟩:=by
 unfold argsOk;rw[signature?_of (id:="object.__init__") (n:=['_','_','t','i','n','i','_','_']) (o:=['t','c','e','j','b','o']) (by kernel_rfl) PySem.F.owner_object];kernel_rfl
theorem wL:typeLookup (.type "zip") "__len__"=pure none:=by rw[typeLookup_type,builtinLookup_eq_fast];kernel_rfl
theorem tX:typeLookup (.type "zip") "__length_hint__"=pure none:=by rw[typeLookup_type,builtinLookup_eq_fast];kernel_rfl
end F
noncomputable abbrev Rm(l:Addr):Obj:={cls:=.type "list_iterator",data:=.fields #[.ref l,.int 0 0]}
noncomputable def pu:Heap->List Obj->Heap
 |h,[]=>h
 |h,o::os=>pu (h.push o) os
theorem EE{c:Addr}(e:h.get? c=some o):(pu h os).get? c=some o:=by
 induction os generalizing h with
 |nil=>exact e
 |cons o' os ih=>exact ih (zaq _ e)
theorem Ik:(pu h os).objs.size=h.objs.size+os.length:=by
 induction os generalizing h with
 |nil=>rfl
 |cons o os ih=>exact(ih (h:=h.push o)).trans (by rw[zcg,zbq];lia)
theorem Mw{o':Obj}(a:∀o∈os,o.isFreed=false)(e:os[i]? =some o'):(pu h os).get? (ad h i)=some o':=by
 induction os generalizing h i with
 |nil=>cases e
 |cons o os ih=>
  cases i with
  |zero=>cases e;exact EE (os:=os) (h:=h.push o') (zaK _ (a _ (by simp)))
  |succ i=>
   have q:=ih (h:=h.push o) (λx j=>a x (zay _ j)) e;have l:ad (h.push o) i=ad h (i+1):=by
    show(h.push o).objs.size+i=h.objs.size+(i+1);rw[zcg];lia
   rw[l] at q;exact q
noncomputable abbrev p3(h e a:Addr):List Obj:=[Rm h,OM e,Rm a]
noncomputable abbrev p6(h:Heap)(i e a:Addr):List Obj:=p3 i e a++[Bo (.ref (ad h 0)) (.ref (ad h 1)) (.ref (ad h 2)),Bo .none .none .none,G4 h .none (.bool false)]
theorem OL(a i j:Addr)(u ys t:Array yai):
  Meets (Builtin.«zip.__new__» ⟨[.type "zip",.ref a,.ref i,.ref j],[]⟩) (λ_ R s=>s.heap.IsList a u/\s.heap.IsTuple i ys/\s.heap.IsList j t/\R (.ok (.ret (.ref (ad s.heap 5)))) {s with heap:=pu s.heap (p6 s.heap a i j)}):=
 .of_wp λprog w A R s h=>by
  obtain⟨l,g,d,tk,os⟩:=s;obtain⟨q,n,m,h⟩:=h;have v:=sub_zip;have m1:Heap.IsList (Shared.heap ⟨l,g,d,tk,os⟩) a u:=q;have m2:Heap.IsTuple (Shared.heap ⟨l.push (Rm a),g,d,tk,os⟩) i ys:=n.at λo e=>zaq _ e;have x:Heap.IsList (Shared.heap ⟨(l.push (Rm a)).push (OM i),g,d,tk,os⟩) j t:=m.at λo e=>zaq _ (zaq _ e)
  wp_walk using wpAny_pyIter_list m1,wpAny_pyIter_tuple m2,wpAny_pyIter_list x
  simp only[zcg,Nat.add_assoc];exact⟨_,rfl,h⟩
section
variable {l1 l2 l3:Addr}{xs ys zs:Array yai}{hb:Heap}
theorem Lg(l:s.heap.IsList l1 xs)(j:s.heap.IsTuple l2 ys)(a:s.heap.IsList l3 zs)(h:∀h',ZZ s.heap h' h' (s.heap.objs.size+6) l1 l2 l3 0 (G4 s.heap .none (.bool false))->Q (.ref (ad s.heap 5)) {s with heap:=h'}):
  yar (model prog w) A (call (.type "zip") [.ref l1,.ref l2,.ref l3]) Q E s:=by
 refine callType_new PySem.F.called_zip (by decide) (F.nP _ _ _) (F.p8 _ _ _) (λobj=>F.jK obj _ _ _) PySem.F.entry_zip_new (OL l1 l2 l3 xs ys zs) ⟨l,j,a,?_⟩;have g:=λi o=>Mw (os:=p6 s.heap l1 l2 l3) (h:=s.heap) (i:=i) (o':=o) λo h=>by
  simp only[zbw,zbR,zch,zbA,or_false] at h;rcases h with rfl|rfl|rfl|rfl|rfl|rfl<;>rfl
 exact⟨⟨_,g 5 _ rfl,rfl⟩,h _ ⟨_,_,_,_,_,_,⟨rfl,rfl⟩,⟨rfl,rfl⟩,⟨rfl,rfl⟩,λ_ _ e=>EE e,g,λ_ _ _ e=>e,Ik⟩⟩
theorem Fl{Q:Bool->yah->Prop}(a:s.TypeIs (.ref I) "zip")(h:Q true s):yar (model prog w) A (Builtin.List.listLengthHint (.ref I)) Q E s:=by
 unfold Builtin.List.listLengthHint;refine yaa (wpAny_specialOf a F.wL ?_);show yar _ _ (specialOf (Value.ref I) (Str.ofString "__length_hint__") >>= _) _ _ _;exact yaa (wpAny_specialOf a F.tX (yab h))
def Tl(hb:Heap)(xs ys zs:Array yai)(i:Nat)(h:Heap):Prop:=∃a c,h.get? (ad hb 6)=some {cls:=.type "list",dict:=none,data:=.seq a c,slots:=#[]}/\a.toList=(zcM i).map (λj=>Value.ref (ad hb (7+j)))/\
 ∀j x y v,j<i->xs[j]? =some x->ys[j]? =some y->zs[j]? =some v->h.get? (ad hb (7+j))=some (Bo x y v)
theorem Le{R:Result->yah->Prop}(hh:A.handled=none)(M1:Sq true hb l1 xs)(M2:Sq false hb l2 ys)(X:Sq true hb l3 zs)(e1:xs.size=m)(e2:ys.size=m)(e3:zs.size=m)(hm:0<m)(hn:m<=yag)(res:yai)(hR:∀h',(∀c o,hb.get? c=some o->h'.get? c=some o)->Tl hb xs ys zs m h'->R (.ok (.ret res)) {s with heap:=h'}):
  ∀(k i:Nat)(h:Heap)(C u:yai),m - i=k->i<=m->ZZ hb h h (hb.objs.size+(7+i)) l1 l2 l3 i (G4 hb C u)->(i=0/\C=.none/\u=.bool false)∨Fr hb h C u->Tl hb xs ys zs i h->
   codeAny (model prog w) A (.builtin "list.extend.loop" ⟨[.ref (ad hb 6),.ref (ad hb 5),res],[]⟩) R {s with heap:=h}:=by
 intro k;have G:∀j,hb.objs.size+6<hb.objs.size+(7+j):=λj=>by lia
 induction k with
 |zero=>
  intro i h C u hk hi O E n;obtain rfl:i=m:=by lia
  refine codeAny_builtin PySem.F.entry_extend_loop ?_;rw[Around.under_plainId PySem.F.plain_extend_loop _];show yar _ A.in1 (pyNext (.ref (ad hb 5)) >>= _) _ _ _;refine yaa (CU (s:={s with heap:=h}) (A:=A.in1) M1 M2 X O (E.imp And.right id) (G _) (.inr ⟨zap (by lia),λe=>?_,hh,λh' k1 U=>?_⟩))
  ·rcases E with⟨h,_⟩|⟨_,_,_,h,_⟩
   ·lia
   ·rw[h] at e;cases e
  ·obtain⟨l,c,H,q2,q3⟩:=n;exact yab (hR h' k1 ⟨l,c,U _ _ (zcI _) H,q2,λj x y v t a b c=>U _ _ (zcx (G j)) (q3 j x y v t a b c)⟩)
 |succ k ih=>
  intro i h C u hk hi O E n;obtain⟨l,c,H,q2,q3⟩:=n;have q:l.size=i:=by rw[<-zaJ,q2,zbJ,zbe]
  refine codeAny_builtin PySem.F.entry_extend_loop ?_;rw[Around.under_plainId PySem.F.plain_extend_loop _];show yar _ A.in1 (pyNext (.ref (ad hb 5)) >>= _) _ _ _;refine yaa (CU (s:={s with heap:=h}) (A:=A.in1) M1 M2 X O (E.imp And.right id) (G _) (.inl ⟨_,_,_,zai (by lia),zai (by lia),zai (by lia),λh' Q P L I n kp=>?_⟩));have W:=kp (ad hb 6) _ (zcI _) H;have up:∀b o,b≠ad hb 6->h'.get? b=some o->(h'.update (ad hb 6) (Obj.mapSeq (·.push (Value.ref (ad hb (7+i)))))).get? b=some o:=λb o hb e=>(zar _ _ (Ne.symm hb)).trans e;show yar _ A.in1 (updateSeq (ad hb 6) (·.push (Value.ref (ad hb (7+i)))) >>= _) _ _ _;have n7:∀j,ad hb (7+j)≠ad hb 6:=λj e=>by have:=zaI e;lia
  refine yaa (wpAny_updateSeq W rfl (yab ⟨plainId_quiet PySem.F.plain_extend_loop _,ih (i+1) _ Q P (by lia) (by lia) ?_ (.inr ?_) ⟨l.push (.ref (ad hb (7+i))),_,zax _ W rfl,?_,λj x y v t a b c=>?_⟩⟩) (by rw[q];lia) (by show(l.push (Value.ref (ad hb (7+i)))).size<=yag+1;rw[Array.size_push,q];lia))
  ·obtain⟨o0,o1,o2,a,b,c,i0,i1,i2,Z⟩:=L;exact⟨o0,o1,o2,a,b,c,i0,i1,i2,Z.upd _ (zcI 6)⟩
  ·obtain⟨T,oT,f,r1,r2,Y,S⟩:=I;exact⟨T,oT,f,r1,r2,up _ _ (zcy S) Y,S⟩
  ·rw[zbl,q2,zbU,zbS];rfl
  ·refine up _ _ (n7 j) ?_;rcases Nat.lt_succ_iff_lt_or_eq.mp t with t|rfl
   ·exact kp _ _ (zcx (G j)) (q3 j x y v t a b c)
   ·rw[zai (by lia)] at a b c;cases a;cases b;cases c;exact n
end
end M12
namespace M12
open PySem PySem.Spec PyProof.Rows M9
theorem E8{L I H:Addr}{C ys y:Array yai}{l:Heap}(hh:A.handled=none)(M1:Sq true l L C)(M2:Sq false l I ys)(M3:Sq true l H y)(Z:ZZ l s.heap s.heap (l.objs.size+6) L I H 0 (G4 l .none (.bool false)))(e1:C.size=m)(e2:ys.size=m)(e3:y.size=m)(hm:0<m)(hsz:m<=yag)(hQ:∀h',(∀c o,l.get? c=some o->h'.get? c=some o)->Tl l C ys y m h'->Q (.ref (ad l 6)) {s with heap:=h'}):
  yar (model prog w) A (call (.type "list") [.ref (ad l 5)]) Q E s:=by
 obtain⟨W,U,S,a,b,c,i0,Y,X,Z⟩:=Z;have u:=Z.z;refine callType_codes (Q₁:=λobj t=>obj=.ref (ad l 6)/\t={s with heap:=s.heap.push {cls:=.type "list",data:=.seq #[]}}) PySem.F.called_list (PySem.F.typeCall_list_1 _) PySem.F.entry_list_init
  (code_list_new _ ⟨by rw[u],rfl⟩) λobj t v=>?_
 obtain⟨rfl,rfl⟩:=v;have x:(s.heap.push {cls:=.type "list",data:=.seq #[]}).get? (ad l 6)=some {cls:=.type "list",data:=.seq #[]}:=by rw[show ad l 6=s.heap.objs.size from u.symm];exact zaK _ rfl
 replace Z:=Z.to (h':=s.heap.push {cls:=.type "list",data:=.seq #[]}) (m':=l.objs.size+7) (λ_ _ e=>zaq _ e) (by rw[zcg,u])
 refine⟨⟨_,x,rfl⟩,PySem.F.args_list_init_2 _ _,?_⟩;generalize s.heap.push {cls:=.type "list",data:=.seq #[]}=g1 at x Z⊢;show yar _ _ (do let old <-Builtin.List.listItems (.ref (ad l 6));Builtin.List.listUpdate (.ref (ad l 6)) (λ_=>#[]);letGo old.toList.reverse;Builtin.List.listExtendWith (.ref (ad l 6)) (.ref (ad l 5)) .none) _ _ _;refine yaa ?_;unfold Builtin.List.listItems;refine yaa (wpAny_seqItems x rfl (yab ?_));show yar _ _ (updateSeq (ad l 6) (λ_=>#[]) >>= λ_=>letGo (#[]:Array yai).toList.reverse >>= λ_=>Builtin.List.listExtendWith (.ref (ad l 6)) (.ref (ad l 5)) .none) _ _ _;refine yaa (wpAny_updateSeq x rfl (yaa (wpAny_letGo ?_)));have n:(g1.update (ad l 6) (Obj.mapSeq (λ_=>(#[]:Array yai)))).get? (ad l 6)=some {cls:=.type "list",dict:=none,data:=.seq #[] _,slots:=#[]}:=zax (Obj.mapSeq (λ_=>(#[]:Array yai))) x rfl
 replace Z:=Z.upd (i:=6) (Obj.mapSeq (λ_=>(#[]:Array yai))) (zcI 6)
 generalize g1.update (ad l 6) (Obj.mapSeq (λ_=>(#[]:Array yai)))=g2 at n Z⊢;have G:=Z.c 5 _ rfl;have O:Shared.TypeIs {s with heap:=g2} (.ref (ad l 5)) "zip":=⟨_,G,rfl⟩
 unfold Builtin.List.listExtendWith;refine yaa (wpAny_typeOf O ?_);have h1:Builtin.List.listSameRef (.ref (ad l 6)) (.ref (ad l 5))=false:=by simp[Builtin.List.listSameRef]
 have h2:(Value.type "zip"==Value.type "list")=false:=by decide
 have h3:(Value.type "zip"==Value.type "tuple")=false:=by decide
 simp only[h1,h2,h3,zcm,zaU,if_false];refine yaa (wpAny_pyIter_zip G (yaa (yad (Fl O ?_))));show yar _ _ (rule "list.extend.makes-room" >>= λ_=>Builtin.List.listTouch (.ref (ad l 6)) >>= λ_=>again (.builtin "list.extend.loop" ⟨[.ref (ad l 6),.ref (ad l 5),.none],[]⟩)) _ _ _;refine yaa (wpAny_rule (yaa ?_));show yar _ _ (updateSeq (ad l 6) (·.push .none) >>= λ_=>updateSeq (ad l 6) (·.pop)) _ _ _;have q:=zax (Obj.mapSeq (·.push Value.none)) n rfl;refine yaa (wpAny_updateSeq n rfl (wpAny_updateSeq q rfl ?_));exact yab ⟨plainId_quiet PySem.F.plain_extend_loop _,Le (A:=A.in1) hh M1 M2 M3 e1 e2 e3 hm hsz .none (λh' P q2=>⟨rfl,hQ h' P q2⟩) m 0 _ _ _ rfl (zcJ _) ⟨W,U,S,a,b,c,i0,Y,X,(Z.upd (i:=6) _ (zcI 6)).upd _ (zcI 6)⟩ (.inl ⟨rfl,rfl,rfl⟩) ⟨#[],_,zax (Obj.mapSeq (·.pop)) q rfl,rfl,λj _ _ _ h=>absurd h (zbV j)⟩⟩
end M12
namespace L2
open PySem PySem.Spec PyProof.Rows M12
noncomputable def G5(e ys a:List V):List (List V):=(e.zip (ys.zip a)).map λt=>[t.1,t.2.1,t.2.2]
noncomputable def mZ:Hp->List (Addr×List V)->Hp
 |H,[]=>H
 |H,(a,t)::r=>mZ (upd H a (.tup t)) r
theorem sP{b:Addr}:∀{r:List (Addr×List V)}{H:Hp},(∀t∈r,t.1≠b)->mZ H r b=H b
 |[],_,_=>rfl
 |(a,t)::r,H,h=>by
  show mZ (upd H a (.tup t)) r b=_;rw[sP λu e=>h u (zay _ e),aO (Ne.symm (h (a,t) (by simp)))]
def Kc(K:yaI)(s:TA):TE:=λq H Q=>s q H λvs i=>∃o n m l e j,vs=[.ref o,.ref n,.ref m]/\cN K i o l/\dJ K i n e/\cN K i m j/\l.length=e.length/\j.length=e.length/\0<e.length/\e.length<=1000/\
 ∀(h:List Addr)(p:Addr),h.Nodup->p ∉ h->(∀a∈p::h,i a=none)->h.length=e.length->Q (.ref p) (upd (mZ i (h.zip (G5 l e j))) p (.lst (h.map V.ref)))
theorem Hw{ys a:List V}{t:List V}(h:(G5 xs ys a)[j]? =some t):∃x y z,xs[j]? =some x/\ys[j]? =some y/\a[j]? =some z/\t=[x,y,z]:=by
 unfold G5 at h;rw[zba] at h;cases e:(xs.zip (ys.zip a))[j]? with
 |none=>rw[e] at h;cases h
 |some p=>
  rw[e] at h;obtain⟨h1,h2⟩:=zaf.mp e;obtain⟨l,i⟩:=zaf.mp h2;exact⟨_,_,_,h1,l,i,(zcL.inj h).symm⟩
section
variable {σ:St}
theorem Inv.mZ(n:Nat)(l:X.s₀.heap.objs.size<=n)(i:∀D,n<=D->D≠X.env.locals/\(∀x c,X.env.cells.lookup x=some c->c≠D)/\∀p∈X.pn++pins,p.1≠D):
  ∀(r:List (Addr×List V))(H:Hp),Inv X pins σ H s->(r.map (·.1)).Nodup->(∀t∈r,n<=t.1/\H t.1=none/\∀H',bq X.prog X.w H' s.heap t.1 (.tup t.2))->Inv X pins σ (mZ H r) s
 |[],H,I,_,_=>I
 |(a,t)::r,H,I,hd,h=>by
  obtain⟨h1,h2,q⟩:=h (a,t) (by simp);rw[zci,zbL] at hd;refine Inv.mZ n l i r _ (I.t7 h2 (zcw l h1) (i a h1).1 (i a h1).2.1 (i a h1).2.2 (q _)) hd.2 λu j=>?_;obtain⟨k1,o,m⟩:=h u (zay _ j);refine⟨k1,?_,m⟩;rw[aO (λe=>hd.1 (zcu.mpr ⟨u,j,e⟩))];exact o
end
section
variable {a b:Expr}{ta:TA}
theorem se(hc:X.calm=true)(hg:Gl X "list")(hm:X.mg "list"=none)(hg2:Gl X "zip")(hm2:X.mg "zip"=none)(v:PA X [a,b,c] ta)(hs:yao [a,b,c] X.env=[(false,eval a X.env),(false,eval b X.env),(false,eval c X.env)]:=by rfl)(P:yao [b,c] X.env=[(false,eval b X.env),(false,eval c X.env)]:=by rfl):
  PE X (.Call (.Name "list" p) [.Call (.Name "zip" p2) [a,b,c] [] pos2] [] pos) (Kc X.K ta):=by
 intro C s σ H Q I h;refine wpAny_Call_Name_kw (cH I hg hm boot_list ?_ (by decide+kernel) (by decide+kernel));refine PyProof.Rows.callWith_type1 (E:=X.xe) ?_ (aM [] X.env rfl) rfl;rw[aM [] X.env rfl];refine zaX ?_;refine Call_ (cH I hg2 hm2 (u:=.type "zip") (by decide+kernel) (PyProof.Rows.callWith_type1 (bQ (v pos2 C s σ H _ I h) λus l z1'=>?_) (by rw[hs,P]) (by rw[P];rfl)) (by decide+kernel) (by decide+kernel));obtain⟨vs,H1,F,r1,G⟩:=z1';obtain⟨l1,l2,l3,xs,O,zs,e,g1,g2,g3,n1,n2,n3,n4,q⟩:=G;subst e;cases r1 with
 |cons r rr=>cases rr with
  |cons r' rr'=>cases rr' with
   |cons r'' rr''=>
    cases rr'';cases r;cases r';cases r'';obtain⟨i1,v1,t1,_⟩:=F.list g1;obtain⟨i2,v2,t2,_⟩:=F.tuple g2;obtain⟨i3,v3,t3,_⟩:=F.list g3;have c1:=v1.length;have c2:=v2.length;have c3:=v3.length;have M2:l.heap.IsTuple l2 i2.toArray:=t2;refine Lg t1.isList M2 t3.isList λh' Z=>zbp ?_;refine E8 (s:={l with heap:=h'}) (m:=O.length) (F.ok.hd hc) t1.isList M2 t3.isList Z (by simp;lia) (by simp;lia) (by simp;lia) n3 (by rw[yaf];lia) λh2 kp2 T=>?_;obtain⟨U,cc,k2,k5,k4⟩:=T;have I2:Inv X C σ H1 {l with heap:=h2}:=F.kept (t':=l.toks) kp2;generalize L:(zcM O.length).map (λj=>ad l.heap (7+j))=as;have W:∀j a,as[j]? =some a->a=ad l.heap (7+j)/\j<O.length:=λj a h=>by
     rw[<-L,zba,Option.map_eq_some_iff] at h;obtain⟨b,hb,rfl⟩:=h;obtain⟨G,q2⟩:=zad.mp hb;rw[zaP] at q2;rw[zbe] at G;exact⟨by rw[q2],G⟩
    have k3:as.length=O.length:=by rw[<-L,zbJ,zbe]
    have nd:as.Nodup:=zah.mpr λi j h1 h2 h e=>by
     have e1:=(W i _ (zak h1)).1;have e2:=(W j _ (zak h2)).1;have:=zaI (e1.symm.trans (e.trans e2));lia
    have up:∀a∈as,l.heap.objs.size+6<a:=λa v=>by
     obtain⟨j,S⟩:=List.mem_iff_getElem?.mp v;rw[(W j a S).1];show(_:Nat)<l.heap.objs.size+(7+j);lia
    have none:∀a,l.heap.objs.size<=a->H1 a=none:=λa v=>F.hok.fresh v;have Y:∀D,l.heap.objs.size<=D->D≠X.env.locals/\(∀x c,X.env.cells.lookup x=some c->c≠D)/\∀p∈X.pn++C,p.1≠D:=λD hD=>let f:=F.sV (H':=H1) hD (none D hD);⟨f.2.1,f.2.2.2.2.1,f.2.2.2.2.2⟩;have em:(as.zip (G5 xs O zs)).map (·.1)=as:=zbB (by simp[G5];lia);have I3:=Inv.mZ l.heap.objs.size F.sz Y (as.zip (G5 xs O zs)) H1 I2 (by rw[em];exact nd) λt ht=>by
     obtain⟨j,S⟩:=List.mem_iff_getElem?.mp ht;obtain⟨G,q2⟩:=zaf.mp S;have v:l.heap.objs.size<=t.1:=zcx (zcz (by lia) (up _ (zaB G)));refine⟨v,none _ v,λH'=>?_⟩;obtain⟨x,y,z,w1,w2,w3,w4⟩:=Hw q2;obtain⟨e,S⟩:=W j _ G;obtain⟨a1,a2,a3⟩:=v1.get w1;obtain⟨a4,a5,a6⟩:=v2.get w2;obtain⟨a7,a8,a9⟩:=v3.get w3;rw[w4,e];exact⟨by rw[yaf];show 3<=_;lia,[a1,a4,a7],.cons a3 (.cons a6 (.cons a9 .nil)),⟨_,k4 j _ _ _ S (by simpa using a2) (by simpa using a5) (by simpa using a8),rfl,_,rfl⟩⟩
    have n:l.heap.objs.size<=(l.heap.objs.size+6:Nat):=by lia
    have pn:(l.heap.objs.size+6:Nat) ∉ as:=λh=>zcl _ (up _ h);have I4:=I3.t7 (D:=(l.heap.objs.size+6:Nat)) (o:=.lst (as.map V.ref)) (by rw[sP λt ht e=>pn (by rw[<-e];exact(zbM ht).1)];exact none _ n) (zcw F.sz n) (Y _ n).1 (Y _ n).2.1 (Y _ n).2.2
     ⟨by rw[zbJ,yaf];lia,as.map Value.ref,cc,fL (λa=>a) as,by rw[k2,<-L,zct,show U=(U.toList).toArray from rfl,k5];rfl⟩
    refine⟨.ref (l.heap.objs.size+6:Nat),_,I4,rfl,q as _ nd pn (λa v=>?_) k3⟩;rcases zch.mp v with rfl|v
    ·exact none _ n
    ·exact none _ (zcx (zcz (by lia) (up _ v)))
end
end L2
namespace M
open PySem PySem.Spec PyProof.Rows L2
noncomputable def t6(es fs a:List D):List (List D):=(es.zip (fs.zip a)).map λt=>[t.1,t.2.1,t.2.2]
theorem C2{i ys a:List D}{t:List D}(h:(t6 i ys a)[j]? =some t):∃x y z,i[j]? =some x/\ys[j]? =some y/\a[j]? =some z/\t=[x,y,z]:=by
 unfold t6 at h;rw[zba] at h;cases e:(i.zip (ys.zip a))[j]? with
 |none=>rw[e] at h;cases h
 |some p=>
  rw[e] at h;obtain⟨h1,h2⟩:=zaf.mp e;obtain⟨m,l⟩:=zaf.mp h2;exact⟨_,_,_,h1,m,l,(zcL.inj h).symm⟩
theorem Ok.mZ{as:List Addr}{vs:List (List V)}{ts:List (List D)}{w:Wd}(ok:Ok K w H S)(nd:as.Nodup)(y:∀a∈as,H a=none)(E:as.length=vs.length)(x:as.length=ts.length)(h:∀(j:Nat)(ds:List D),ts[j]? =some ds->∃t,vs[j]? =some t/\ao K w ds t):
  ∃o,w.le o/\Ok K o (L2.mZ H (as.zip vs)) S/\ao K o (ts.map D.tup) (as.map V.ref):=by
 induction as generalizing vs ts w H with
 |nil=>
  cases ts with
  |nil=>exact⟨w,.refl,ok,.nil⟩
  |cons _ _=>simp at x
 |cons a as ih=>
  cases vs with
  |nil=>simp at E
  |cons v vs=>
   cases ts with
   |nil=>simp at x
   |cons d ts=>
    rw[zbL] at nd;obtain⟨t,u,r⟩:=h 0 d rfl;obtain rfl:v=t:=by simpa using u
    obtain⟨I,n,s,l⟩:=ok.sI (y a (by simp)) r;obtain⟨F,m,q,i⟩:=ih s nd.2 (λb C=>by rw[aO (λe:b=a=>nd.1 (e▸C))];exact y b (zay _ C)) (by simpa using E) (by simpa using x) λj ds G=>by
     obtain⟨t,u,r⟩:=h (j+1) ds (by simpa using G);exact⟨t,by simpa using u,r.le n⟩
    exact⟨F,n.trans m,q,.cons (l.le m) i⟩
def F9(a:AA):AE:=λn S Q=>a n S λo e=>∃m l j i fs h,o=[m,l,j]/\aS e m=.lst i/\aS e l=.tup fs/\aS e j=.lst h/\i.length=fs.length/\h.length=fs.length/\0<fs.length/\fs.length<=1000/\Q (.new (.lst ((t6 i fs h).map D.tup))) e
theorem LR{a:AA}:∀o H Q,aR K (F9 a) o H Q->Kc K (lW K a) o H Q:=by
 rintro o H Q ⟨w,Z,S,Qa,ok,env,q,bk⟩;refine⟨w,Z,S,_,ok,env,q,λds S1 vs w1 H1 I h i u=>?_⟩;obtain⟨d1,d2,d3,Y,fs,X,hd,z1,z2,z3,n1,n2,n3,n4,q1⟩:=u;subst hd;simp only[ao] at i;obtain⟨x,r,rfl,g1,x',r',rfl,g2,x'',r'',rfl,g3,rfl⟩:=i;obtain⟨a1,C,rfl,k1,U⟩:=bz h g1 z1;obtain⟨a2,v,rfl,k2,P⟩:=bX h g2 z2;obtain⟨a3,s,rfl,k3,O⟩:=bz h g3 z3;have l1:=U.length;have l2:=P.length;have l3:=O.length;refine⟨a1,a2,a3,C,v,s,rfl,cN.of k1,k2,cN.of k3,by lia,by lia,by lia,by lia,λas p nd hp W hl=>?_⟩;obtain⟨w2,G,m,l⟩:=Ok.mZ (as:=as) (vs:=G5 C v s) (ts:=t6 Y fs X) h nd (λa ha=>W a (zay _ ha)) (by simp[G5];lia) (by simp[t6];lia) λj ds hj=>by
  obtain⟨x,y,z,h1,h2,h3,rfl⟩:=C2 hj;obtain⟨L,e1,r1⟩:=U.get h1;obtain⟨F,e2,r2⟩:=P.get h2;obtain⟨E,e3,r3⟩:=O.get h3;refine⟨[L,F,E],?_,.cons r1 (.cons r2 (.cons r3 .nil))⟩;unfold G5;rw[zba,zaf (z:=(L,F,E)) |>.mpr ⟨e1,zaf (z:=(F,E)) |>.mpr ⟨e2,e3⟩⟩];rfl
 have n:L2.mZ H1 (as.zip (G5 C v s)) p=none:=by rw[sP λt ht e=>hp (by rw[<-e];exact(zbM ht).1)];exact W p (by simp)
 exact bk (.new (.lst ((t6 Y fs X).map D.tup))) S1 _ w2 _ (I.trans G) (m.alloc n) (m.fresh n ⟨_,rfl,l⟩) q1
theorem se{a b:Expr}{j:AA}(o:X.calm=true)(n:Gl X "list")(m:X.mg "list"=none)(i:Gl X "zip")(h:X.mg "zip"=none)(q:GA X [a,b,c] j)(l:yao [a,b,c] X.env=[(false,eval a X.env),(false,eval b X.env),(false,eval c X.env)]:=by rfl)(e:yao [b,c] X.env=[(false,eval b X.env),(false,eval c X.env)]:=by rfl):
  GE X (.Call (.Name "list" p) [.Call (.Name "zip" p2) [a,b,c] [] pos2] [] pos) (F9 j):=⟨mE (L2.se o n m i h q.p l e) LR⟩
end M
namespace M10
open PySem PyProof.Rows
noncomputable def KR(R:Keyed->Int)(a:Array Keyed)(i:Nat):Int:=(a[i]?.map R).getD 0
def Up(R:Keyed->Int)(a:Array Keyed)(lo m:Nat):Prop:=∀i j,lo<=i->i<=j->j<lo+m->KR R a i<=KR R a j
def Dn(R:Keyed->Int)(a:Array Keyed)(lo m:Nat):Prop:=∀i j,lo<=i->i<=j->j<lo+m->KR R a j<=KR R a i
section
variable {R:Keyed->Int}{κ:SortKind}{T:Keyed->Prop}{a₀ b:Array Keyed}{p:Array (Nat×Nat×Nat)}{lo:Nat}
noncomputable def t3(lo n a:Nat):StateT SortSt Sem (Option Nat):=do
 let mut n:=n
 reverseSlice' lo (lo+n)
 for _ in [n:a] do
  let some sm <-ltAt' (lo+n) (lo+n - 1)|return none
  if sm then break
  n:=n+1
 return some n
end
section
variable {R:Keyed->Int}{κ:SortKind}{T:Keyed->Prop}{a₀:Array Keyed}
set_option hygiene false in
end
end M10
namespace M10
open PySem PySem.Spec PyProof.Rows
section
variable {R:Keyed->Int}{T:Keyed->Prop}
def TS(ss:List Str)(p:Keyed):Prop:=∃x t,p.1=.str x t/\x∈ss
end
end M10
namespace L2
open PySem PySem.Spec PyProof.Rows
section
variable {ta:TE}
theorem lK{α:Type}[DecidableEq α]:∀{l m:List α},l.Nodup->(∀y∈l,y∈m)->l.length<=m.length
 |[],_,_,_=>zcJ _
 |x::l,m,h,hs=>by
  rw[zbL] at h;have i:=hs x (by simp);have:=lK (l:=l) (m:=m.erase x) h.2 λy a=>(List.mem_erase_of_ne (λe:y=x=>h.1 (by rw[<-e];exact a))).mpr (hs y (by simp[a]));rw[zal i] at this;have:0<m.length:=zao i;rw[zbq];lia
end
end L2
namespace M5
open PySem PySem.Spec PyProof.Rows
theorem yb{d:Addr}(hd:(d==yas)=false):
  MeetsIn prog w (Builtin.«dict.__len__» ⟨[.ref d],[]⟩) (λ_ R s=>∃es ep,M6.jo s.heap d es ep/\R (.ok (.ret (.int es.size s.toks))) {s with toks:=s.toks+1}):=
 .of_wp λA R s ⟨es,ep,⟨o,e,i,a⟩,h⟩=>by
  show yar _ _ (dictSize d >>= _) _ _ s;unfold dictSize;refine yaa (yaa (wpAny_dictEntries e a (yab ?_)));show yar _ _ (Builtin.Dict.pendingCount d >>= _) _ _ s;refine yaa (wpAny_pendingCount_other hd ?_);refine wpAny_ret_mkInt ?_;rw[Nat.add_zero];exact h
theorem BW{d:Addr}{es:Array yav}(hd:(d==yas)=false)(a:M6.jo s.heap d es ep)(i:(es.size:Int)<2 ^ 63)(h:Q (.int es.size (s.toks+1)) {s with toks:=s.toks+1+1}):yar (model prog w) A (Builtin.«len» ⟨[.ref d],[]⟩) (λe s'=>∃r,e=.done (.ret r)/\Q r s') E s:=by
 unfold Builtin.«len»;refine yaa (m:=oneArg "len" _) (yab ?_);refine yaa (m:=callSpecial? (.ref d) (Str.ofString "__len__")) (wpAny_callSpecial?_slot (name:=Str.ofString "__len__") a.typeIs PySem.F.slot_dict_len (call_meetsIn PySem.F.slot_dict_len a.typeIs PySem.F.entry_dict_len (PySem.F.args_dict_len_1 _) (yb hd) ⟨es,ep,a,?_⟩));show yar _ _ _ _ _ {s with toks:=s.toks+1};refine yaa (yad (yab ?_));refine yaa (wpAny_letGo ?_);show yar _ _ (if((es.size:Nat):Int)<0 then _ else _) _ _ _;rw[yIn (by lia)];show yar _ _ (if((es.size:Nat):Int)≥2 ^ 63 then _ else _) _ _ _;rw[yIn (by lia)];exact yaa (wpAny_mkInt (yab ⟨_,rfl,h⟩))
theorem ud{d:Addr}{es:Array yav}(x:A.handled=none)(lo:(d==yas)=false)(y:M6.jo s.heap d es ep)(i:StrsAre (es.toList.map (·.key)) ss)(C:es.size<64)(h:∀(h1 h2:Heap)(tk:Nat)(out:List yai)(a:List Str)(c:Nat),(∀b o,s.heap.get? b=some o->h1.get? b=some o)->(∀b o,h1.get? b=some o->h2.get? b=some o)->h2.get? h1.objs.size=some (seqObj "list" out.toArray c)->StrsAre out a->a.Perm ss->sortedS a=true->Q (.ref h1.objs.size) {s with heap:=h2,toks:=tk}):
  yar (model prog w) A (call (.builtin "sorted") [.ref d]) Q E s:=by
 refine zaj kind_sorted plain_sorted entry_sorted (args_sorted1 _) ?_;unfold Builtin.«sorted»;refine yaa (m:=checkCount "sorted" 1 1 _) (yab ?_);refine yaa (M6.vF lo ?_ y (by rw[yaf];lia) λh1 tk kp=>?_)
 ·exact x
 have l:(es.toList.map (·.key)).length=es.size:=by rw[zbJ,zaJ]
 generalize (es.toList.map (·.key))=vs at i l;refine yaa (wpAny_newList ?_ (by first|(rw[yaf];lia)|(rw[zaY,yaf];lia)));have q:(h1.push (seqObj "list" vs.toArray 0)).get? h1.objs.size=some (seqObj "list" vs.toArray 0):=zaK _ rfl;refine yaa (yad (wpAny_call_entry slot_list_sort ⟨_,q,rfl⟩ entry_list_sort (list_sort_treeK (κ:=PyProof.Rows.strKind) strKind_oneLt q i.keysOf (λu t rest e=>keyKind_strs (by rw[<-e];exact i)) (by lia) λj L I=>⟨_,rfl,?_⟩) (args_list_sort _)));obtain⟨a,H,G,F⟩:=sorted_out_str i L I;obtain⟨c,n⟩:=sortedHeap_at (out:=(arrOf j).map (·.2)) q;refine yab ⟨_,rfl,h h1 _ tk ((arrOf j).map (·.2)).toList a c kp (λb o e=>?_) (by rw[zaC];exact n) H G F⟩;have v:=zcF e;show(sortedHeap _ _ _ _).get? b=some o;rw[sortedHeap_old (zcv v) (by rw[size_push'];exact zbh v)];exact zaq _ e
end M5
namespace L2
open PySem PySem.Spec PyProof.Rows M6
def Mm(K:yaI):List V->Hp->VK->Prop:=λvs H Q=>∃(a:Addr)(e:List (yam×Addr)),vs=[.ref a]/\cN K H a (e.map λk=>V.ref k.2)/\rE K H e/\(∃b,∀k∈e,∃p r,Fs b p/\k.1=PyData.tuple (p::r))/\(∀k∈e,∀l∈e,bO k.1 l.1=true)/\e.length<64/\
 ∀(p:Addr)(out:List (yam×Addr)),H p=none->out.Perm e->out.Pairwise (λx y=>fH y.1 x.1=false)->Q (.ref p) (upd H p (.lst (out.map λk=>V.ref k.2)))
def Ii:List V->Hp->VK->Prop:=λj H Q=>∃(a:Addr)(h:List (Key×V))(i:List Str),j=[.ref a]/\H a=some (.dK h)/\(h.map λx=>kV x.1)=i.map V.str/\i.length<64/\∀p (e:List Str),H p=none->e.Perm i->sortedS e=true->Q (.ref p) (upd H p (.lst (e.map V.str)))
def PD(W:yak):List V->Hp->VK->Prop:=λvs H Q=>∃(a h:Addr)(e:List (yam×Addr)),vs=[.ref a]/\H a=some (.ext (mV W h e))/\e.length<=1000/\Q (.int e.length) H
def R0(K:yaI)(W:yak)(e:Bool):R2:=λy x H Q=>∃(a i b:Addr)(h:List (yam×Addr))(d:yam),x=.ref a/\y=.ref b/\H a=some (.ext (mV W i h))/\rE K H h/\bG d=true/\d.depth<=6/\cO K H d (.ref b)/\Q (.bl (e != (h.any λx=>decide (x.1=d)))) H
theorem yw{k:Nat}(E:aX k X.A):b7 X (.builtin "sorted") (Mm X.K):=by
 intro i s L H xs us Q I r h;obtain⟨a,j,rfl,ha,Y,⟨b,h0⟩,hc,W,q⟩:=h;obtain⟨u,rfl,ru⟩:=vals1 r;cases ru;obtain⟨m,O,⟨o,n,e,v,hd,t⟩,_⟩:=I.list ha;have ei:m=j.map λk=>Value.ref k.2:=dB (λk:yam×Addr=>k.2) O;subst ei;refine mh (b:=b) (R:=λx=>∃h1,x={s with heap:=h1}) E.hd (λy C=>?_) hc W (by have:=E.units;lia) (λZ hQ=>collect_list (vs:=j.map λk=>Value.ref k.2) ⟨o,e,v,n,t⟩ (hQ _ j (λb o e=>?_) ⟨_,rfl⟩ (.refl _)) (by rw[zbJ,yaf];lia)) λx h2 out c hR k1 l g F U=>?_
 ·obtain⟨k1,l,S⟩:=Y y C;exact⟨I.key k1 l S,h0 y C⟩
 ·have P:=zcF e;exact(zar _ _ (zcy P)).trans (zaq _ e)
 ·obtain⟨h1,rfl⟩:=hR;have G:Inv X i L H {s with heap:=h1}:=I.kept (t':=s.toks) k1;refine⟨.ref h1.objs.size,_,G.laid (a:=h1.objs.size) (t':=s.toks) (o:=.lst (out.map λk=>V.ref k.2)) l (zcI _) ⟨by rw[zbJ,F.length_eq,yaf];lia,_,c,fL (λk=>k.2) out,g⟩,rfl,q _ out (G.hok.fresh (zcI _)) F U⟩
theorem vJ{k:Nat}(F:aX k X.A):b7 X (.builtin "sorted") Ii:=by
 intro j s C H W Y Q I r h;obtain⟨a,m,E,rfl,e,L,P,q⟩:=h;obtain⟨u,rfl,ru⟩:=vals1 r;cases ru;obtain⟨lo,hz,v,ep,O,l⟩:=xN I e;have Z:v.size=m.length:=by have:=l.length;simpa using this.symm
 rw[L] at l;have G:v.size=E.length:=by have:=l.length;simpa using this.symm
 refine M5.ud F.hd lo O (zb l) (by lia) λh1 h2 tk out i c t n g U x S=>?_;have y:Inv X j C H {s with heap:=h1,toks:=tk}:=I.kept (t':=tk) t;refine⟨.ref h1.objs.size,_,y.laid (a:=h1.objs.size) (t':=tk) (o:=.lst (i.map V.str)) n (zcI _) ⟨by rw[zbJ,x.length_eq];lia,out,c,M.qj U,g⟩,rfl,q _ i (y.hok.fresh (zcI _)) x S⟩
theorem rq(d:yam):∀ks:List (yam×Addr),(atKey (ks.map λx=>(x.1,x.2,Value.bool true)) d).isSome=(ks.any λx=>decide (x.1=d))
 |[]=>rfl
 |x::xs=>by
  have a:=rq d xs;unfold atKey at a⊢;rw[zbo] at a⊢;rw[zci,zbN,zcj];by_cases h:x.1=d
  ·simp[h]
  ·simp only[h,decide_false,Bool.false_or];exact a
theorem MI{k:Nat}(P:aX k X.A):fE X (yan .In) (R0 X.K X.w false):=by
 intro m s σ H y x v u Q I C E h;obtain⟨a,t,b,i,d,rfl,rfl,e,W,h1,h2,Y,q⟩:=h;obtain rfl:u=Value.ref a:=E;obtain rfl:v=Value.ref b:=C;have n:=(show bq X.prog X.w H s.heap a (.ext (mV X.w t i)) from I.hok a _ e)
 obtain rfl:=nB n;obtain⟨⟨z,o,Z,ep,S,O,hd,l,U⟩,_,_⟩:=n;have dd:Heap.DictOfH (e7 X.prog X.w) s.heap t (i.map λx=>(x.1,x.2,Value.bool true)):=by
  refine⟨o,Z,ep,S,O,hd,?_,λx j=>?_,?_⟩
  ·rw[l,zct];rfl
  ·obtain⟨y,L,rfl⟩:=zcu.mp j;obtain⟨k1,G,F⟩:=W y L;exact I.key k1 G F
  ·rw[zct];exact U
 have hu:=P.units;refine wpAny_in_heap (knd:=e7 X.prog X.w) (show X.A.units+1+10<cLine by lia) (I.key h1 h2 Y) z dd ?_;rw[rq d i];exact⟨.bl (i.any λx=>decide (x.1=d)),H,I.tok _,rfl,by simpa using q⟩
theorem Cj:b7 X (.builtin "len") (PD X.w):=by
 intro m s C H E F Q I r h;obtain⟨a,y,i,rfl,e,L,q⟩:=h;obtain⟨u,rfl,ru⟩:=vals1 r;cases ru;have n:=(show bq X.prog X.w H s.heap a (.ext (mV X.w y i)) from I.hok a _ e)
 obtain rfl:=nB n;obtain⟨⟨z,o,x,O,v,t,hd,l,G⟩,_,_⟩:=n;have j:x.size=i.length:=by have:=congrArg zcH l;simpa using this
 refine zaj kind_len plain_len entry_len (args_len1 _) (M5.BW z ⟨o,v,t,hd⟩ (by lia) ?_);rw[j];exact⟨.int i.length,H,I.tok _,⟨_,rfl⟩,q⟩
end L2
namespace M
open PySem PySem.Spec PyProof.Rows L2 M6
theorem SW{k:Nat}(F:GZ K x qual st f fd)(S:aA N ps (ah st))(len:∀ds S Q,sp ds S Q->ds.length=ps.length)(i:∀(f:Addr)(e:yai)(A:yal)(outer:List Env)(s:yah)(H:Hp)(E:XK),aX k (A.deeper (PyProof.Rows.envOfC qual (ah st) s.heap.objs.size f e))->∃a,CM (lV nJ P w K mg base N qual (ah st) f e A outer s H E).G8 (bC st) a/\∀ds S Q,sp ds S Q->a {nx:=λ_ l=>Q (.dat .bB) l,rt:=Q} (aK N ds) S):dX P w K mg base nJ (k+1) f fd ps (av K sp):=
 F.ok S (λvs H Q E h=>by
  obtain⟨w,ds,S,m,ok,rep,q,bk⟩:=h;rw[rep.length];exact len ds S m q) λe A outer s H vs Q E t h=>by
  obtain⟨a,u,hd⟩:=i f e A outer s H E t;obtain⟨w,ds,S,m,ok,rep,q,bk⟩:=h;refine⟨_,u.p,w,aK N ds,S,_,ok,jf rep,hd ds S m q,⟨λC l y n v le j env o=>?_,bk,λ_ _ _ _ _ _ _ _ z=>z.elim,λ_ _ _ _ _ _ _ _ z=>z.elim⟩⟩;exact bk (.dat .bB) l .bB n v le j (show Rep K n .bB .bB from .bB) o
theorem pF{m:Str}{k:Nat}(F:tQ K C m qual ps st)(S:aA N ps (ah st))(len:∀ds S Q,sp ds S Q->ds.length=ps.length)(e:∀(f:Addr)(h:yai)(A:yal)(outer:List Env)(s:yah)(H:Hp)(E:XK),aX k (A.deeper (PyProof.Rows.envOfC qual (ah st) s.heap.objs.size f h))->∃a,CM (lV nJ P w K mg base N qual (ah st) f h A outer s H E).G8 (bC st) a/\∀ds S Q,sp ds S Q->a {nx:=λ_ l=>Q (.dat .bB) l,rt:=Q} (aK N ds) S):i6 P w K mg base (k+1) C m ps sp:=by
 obtain⟨f,fd,F,i,j⟩:=F.ex;exact⟨f,fd,SW F S len e,i,j⟩
theorem QB{k:Nat}(F:Src K mg x ps st)(S:aA N ps (ah st))(len:∀ds S Q,sp ds S Q->ds.length=ps.length)(i:∀(f:Addr)(e:yai)(A:yal)(outer:List Env)(s:yah)(H:Hp)(E:XK),aX k (A.deeper (PyProof.Rows.envOfC x (ah st) s.heap.objs.size f e))->∃a,CM (lV nJ P w K mg base N x (ah st) f e A outer s H E).G8 (bC st) a/\∀ds S Q,sp ds S Q->a {nx:=λ_ l=>Q (.dat .bB) l,rt:=Q} (aK N ds) S):Def P w K mg base (k+1) x ps (av K sp):=
 F.def S (λvs H Q E h=>by
  obtain⟨w,ds,S,m,ok,rep,q,bk⟩:=h;rw[rep.length];exact len ds S m q) λf e A outer s H vs Q E t h=>by
  obtain⟨a,u,hd⟩:=i f e A outer s H E t;obtain⟨w,ds,S,m,ok,rep,q,bk⟩:=h;refine⟨_,u.p,w,aK N ds,S,_,ok,jf rep,hd ds S m q,⟨λC l y n v le j env o=>?_,bk,λ_ _ _ _ _ _ _ _ z=>z.elim,λ_ _ _ _ _ _ _ _ z=>z.elim⟩⟩;exact bk (.dat .bB) l .bB n v le j (show Rep K n .bB .bB from .bB) o
section
variable {o:Expr}{es:List Expr}{k:Nat}{m:Str}
theorem oA(MK:Mk X.K C f)(F:dX X.prog X.w X.K X.mg X.base nJ k f fd ps (av X.K sp))(U:Binds X.K fd ps [])(L:aX (k+1) X.A)(P:Gl X x)(O:X.mg x=some (.ref C))(y:(x==("__debug__":Str))=false:=by decide+kernel):GE X (.Call (.Name x p) [] [] pos) (K7 C sp kH):=by
 refine⟨mE (L2.oA MK F L P O U .nil zR y) λZ H Q h=>?_⟩;obtain⟨w,δ,S,Qa,ok,env,q,bk⟩:=h;refine λa E I nd ne=>?_;have n:(upd H E (HO.own a)) a=none:=by rw[aO (Ne.symm ne)];exact I
 have j:=(ok.alloc (o:=.own a) nd)
 obtain⟨G,u,t,e⟩:=store (j.alloc (o:=.ins C E []) n) (j.fresh n (m:=.ins C [] []) ⟨E,[],rfl,rfl,.nil⟩);refine⟨G,_,_,_,t,by rw[zbK];exact .cons e .nil,q,λr S2 v w3 H3 l s i ⟨Y,q4⟩=>?_⟩;subst Y;have W:=Ig i rfl;exact⟨W,bk.dat (u.trans l) s (e.le l) q4⟩
structure K8(ks:List D):Prop where
 good:∀k∈ks,dj k
 fst:∀k∈ks,∃p r,py k=PyData.tuple (.str p::r)
 cmp:∀k∈ks,∀l∈ks,bO (py k) (py l)=true
def Rz(ks:List D):Prop:=ks.Pairwise (λx y=>fH (py y) (py x)=false)
def N8:AN:=λh S Q=>∃d e,h=[d]/\aS S d=.lst e/\K8 e/\e.length<64/\∀a:List D,a.Perm e->Rz a->Q (.new (.lst a)) S
def N9:AN:=λh S Q=>∃d e b,h=[d]/\aS S d=.lst e/\(∀k∈e,dj k)/\(∀k∈e,∃p r,Fs b p/\py k=PyData.tuple (p::r))/\(∀k∈e,∀l∈e,bO (py k) (py l)=true)/\e.length<64/\∀a:List D,a.Perm e->Rz a->Q (.new (.lst a)) S
def JX:AN:=λh S Q=>∃d es,∃e:List Str,h=[d]/\aS S d=.dct (e.map Sum.inr) es/\e.length<64/\∀a:List Str,a.Perm e->sortedS a=true->Q (.new (.lst (a.map D.str))) S
def QU(W:yak):AN:=λe S Q=>∃n a,e=[.loc n]/\S[n]? =some (some (nO W a))/\a.length<=1000/\Q (.dat (.int a.length)) S
noncomputable def Ft(ks:List D)(k:D):Bool:=ks.any λj=>decide (py j=py k)
def Sz(W:yak)(a:Bool):A2:=λx y S Q=>∃n e,y=.loc n/\S[n]? =some (some (nO W e))/\dj x/\(∀k∈e,dj k)/\Q (.dat (.bl (a != Ft e x))) S
theorem i7{ks:List D}{bs:List Addr}(a:ks.length=bs.length):(∀x∈(ks.map py).zip bs,∃k∈ks,x.1=py k)/\(ks.map py).zip bs=(ks.zip bs).map (λx=>(py x.1,x.2))/\((ks.map py).zip bs).map (λk=>V.ref k.2)=bs.map V.ref/\((ks.map py).zip bs).map (·.1)=ks.map py:=by
 refine⟨λx h=>?_,by rw[List.zip_map_left];rfl,?_,zbB (by rw[zbJ];lia)⟩
 ·obtain⟨k,i,e⟩:=zcu.mp (zbM h).1;exact⟨k,i,e.symm⟩
 ·have:((ks.map py).zip bs).map (·.2)=bs:=List.map_snd_zip (by rw[zbJ];lia);rw[<-this,zct,this];rfl
theorem Bs{w:Wd}{ks:List D}{bs:List Addr}{t:AK}{Q:VK}(ok:Ok K w H S)(n:ao K w ks (bs.map V.ref))(bk:dZ K w t Q)(q:∀e:List D,e.Perm ks->Rz e->t (.new (.lst e)) S):
  ∀(p:Addr)(out:List (yam×Addr)),H p=none->out.Perm ((ks.map py).zip bs)->out.Pairwise (λx y=>fH y.1 x.1=false)->Q (.ref p) (upd H p (.lst (out.map λk=>V.ref k.2))):=by
 intro p out s a h;have i:ks.length=bs.length:=by have:=n.length;rw[zbJ] at this;exact this.symm
 obtain⟨_,v,_,_⟩:=i7 i;rw[v] at a;obtain⟨j,l,rfl⟩:=eU a;have C:(List.map (λk:yam×Addr=>V.ref k.2) (j.map λx=>(py x.1,x.2)))=j.map λx=>V.ref x.2:=by rw[zct];rfl
 rw[C];refine bk (.new (.lst (j.map (·.1)))) S _ w _ .refl (ok.alloc s) (ok.fresh s ⟨_,rfl,fG λx u=>rG n x (l.mem_iff.mp u)⟩) (q _ ?_ ?_)
 ·have:=l.map (·.1);rw[zbB (by lia)] at this;exact this
 ·show(j.map (·.1)).Pairwise _;rw[zbg] at h⊢;exact h
theorem IF(L:aX j X.A):tW X (.builtin "sorted") N9:=⟨mC (yw L) λE H Q h=>by
 obtain⟨w,ds,S,Qa,ok,rep,⟨d,u,b,rfl,z,C,P,O,Y,q⟩,bk⟩:=h;obtain⟨v,rfl,F⟩:=gQ rep;obtain⟨a,E,rfl,h1,h2⟩:=bz ok F z;obtain⟨bs,rfl⟩:=lE h2 λk l=>(C k l).2.2.2;have i:u.length=bs.length:=by have:=h2.length;rw[zbJ] at this;exact this.symm
 obtain⟨n,Z,U,e2⟩:=i7 i;refine⟨a,(u.map py).zip bs,rfl,by rw[U];exact cN.of h1,iH ok h2 C,⟨b,λx s=>?_⟩,λx s y I=>?_,by rw[zbT,zbJ];lia,Bs ok h2 bk q⟩
 ·obtain⟨k,l,e⟩:=n x s;rw[e];exact P k l
 ·obtain⟨k,l,e⟩:=n x s;obtain⟨G,t,W⟩:=n y I;rw[e,W];exact O k l G t⟩
theorem IE(i:aX j X.A):tW X (.builtin "sorted") N8:=⟨mC (IF i).p λt H Q h=>by
 obtain⟨w,u,S,s,ok,rep,⟨d,a,rfl,z,g,l,q⟩,bk⟩:=h;refine⟨w,_,S,s,ok,rep,⟨d,a,true,rfl,z,g.good,λk n=>?_,g.cmp,l,q⟩,bk⟩;obtain⟨p,r,e⟩:=g.fst k n;exact⟨_,r,.inr ⟨rfl,p,rfl⟩,e⟩⟩
theorem MW{w:Wd}{W:yak}{ks:List D}(ok:Ok K w H S)(r:Rep K w (.loc n) v)(z:S[n]? =some (some (nO W ks))):
  ∃(a e:Addr)(bs:List Addr),v=.ref a/\H a=some (.ext (mV W e ((ks.map py).zip bs)))/\ao K w ks (bs.map V.ref)/\ks.length=bs.length:=by
 simp only[Rep] at r;obtain⟨a,j,rfl⟩:=r;obtain⟨q,u,k1,l,i,e,bs,rfl,h⟩:=ok.live n _ z;rw[j] at k1;cases k1;exact⟨a,e,bs,rfl,i,h,by have:=h.length;rw[zbJ] at this;exact this.symm⟩
theorem EN(t:aX j X.A):tW X (.builtin "sorted") JX:=⟨mC (vJ t) λE H Q h=>by
 obtain⟨w,G,S,I,ok,rep,⟨d,es,n,rfl,z,u,q⟩,bk⟩:=h;obtain⟨v,rfl,s⟩:=gQ rep;obtain⟨a,e,rfl,h1,h2,F⟩:=fq ok s z;refine⟨a,e,n,rfl,h1,?_,u,λp i l C y=>bk (.new (.lst _)) S _ w _ .refl (ok.alloc l) (ok.fresh l ⟨_,rfl,jW i⟩) (q i C y)⟩;have:(e.map λx=>kV x.1)=(e.map (·.1)).map kV:=by rw[zct];rfl
 rw[this,h2,zct];rfl⟩
theorem MR:tW X (.builtin "len") (QU X.w):=⟨mC Cj λu H Q h=>by
 obtain⟨w,C,S,E,ok,rep,⟨n,i,rfl,z,y,q⟩,bk⟩:=h;obtain⟨v,rfl,l⟩:=gQ rep;obtain⟨a,t,bs,rfl,s,x,j⟩:=MW ok l z;have e:((i.map py).zip bs).length=i.length:=by rw[zbT,zbJ];lia
 refine⟨a,t,_,rfl,s,by lia,?_⟩;rw[e];exact bk.dat .refl ok .int q⟩
theorem P5(E:aX j X.A):mQ X (yan .In) (Sz X.w false):=⟨m2 (MI E) λx y H Q h=>by
 obtain⟨w,d,e,S,W,ok,u,t,⟨n,l,rfl,z,s,G,q⟩,bk⟩:=h;obtain⟨a,L,bs,rfl,C,v,i⟩:=MW ok t z;obtain⟨b,rfl,F⟩:=o8 ok u s;obtain⟨O,P,U,I⟩:=i7 i;refine⟨a,L,b,_,py d,rfl,rfl,C,iH ok v G,s.2.1,s.2.2.1,F,bk.dat .refl ok .bl ?_⟩;have:(((l.map py).zip bs).any λx=>decide (x.1=py d))=Ft l d:=by
  have h1:(((l.map py).zip bs).any λx=>decide (x.1=py d))=((((l.map py).zip bs).map (·.1)).any λz=>decide (z=py d)):=by rw[zcs];rfl
  rw[h1,I,zcs];rfl
 rw[this];exact q⟩
end
end M
namespace L2
open PySem PySem.Spec PyProof.Rows M6
theorem l9:∀{a:List V}{us:List yai},a.length=us.length->(∀(k:Nat)(x:V)(u:yai),a[k]? =some x->us[k]? =some u->RelV x u)->Vals a us
 |[],[],_,_=>.nil
 |[],_::_,h,_=>by simp at h
 |_::_,[],h,_=>by simp at h
 |x::a,u::us,h,g=>.cons (g 0 x u rfl rfl) (l9 (by simpa using h) λk y v h1 h2=>g (k+1) y v (by simpa using h1) (by simpa using h2))
def C7(h:TA):TE:=λe H Q=>h e H λvs a=>∃i j:Int,vs=[.int i,.int j]/\-(2 ^ 60)<=i/\i<2 ^ 60/\i<=j/\j<=i+1000/\∀p,a p=none->Q (.ref p) (upd a p (.lst ((zcM (j - i).toNat).map λk:Nat=>V.int (i+k))))
section
variable {a b:Expr}{ta:TA}
theorem oz(hc:X.calm=true)(hg:Gl X "list")(hm:X.mg "list"=none)(U:Gl X "range")(S:X.mg "range"=none)(ha:PA X [a,b] ta)(hs:yao [a,b] X.env=[(false,eval a X.env),(false,eval b X.env)]:=by rfl)(G:yao [b] X.env=[(false,eval b X.env)]:=by rfl):
  PE X (.Call (.Name "list" p) [.Call (.Name "range" p2) [a,b] [] pos2] [] pos) (C7 ta):=by
 intro C s Y H Q I h;refine wpAny_Call_Name_kw (cH I hg hm boot_list ?_ (by decide+kernel) (by decide+kernel));refine PyProof.Rows.callWith_type1 (E:=X.xe) ?_ (aM [] X.env rfl) rfl;rw[aM [] X.env rfl];refine zaX ?_;refine Call_ (cH I U S boot_range (PyProof.Rows.callWith_type1 (bQ (ha pos2 C s Y H _ I h) λus l O=>?_) (by rw[hs,G]) (by rw[G];rfl)));obtain⟨vs,H1,W,Z,q1⟩:=O;obtain⟨i,j,e,n1,n2,n3,n4,q⟩:=q1;subst e;cases Z with
 |cons r rr=>
  cases rr with
  |cons r' rr=>
   cases rr;obtain⟨t,rfl⟩:=r;obtain⟨t',rfl⟩:=r';refine call_range_2 ?_;refine zbp ?_;have hz:(j - i).toNat<=1000:=by lia
   refine call_list_range (s:={l with heap:=l.heap.push _,toks:=_}) (n:=(j - i).toNat) (W.ok.hd hc) (IsRange.new ..) (small_one (by lia) (by lia) (by lia) (by lia)) (by rw[rangeSize_one];split<;>lia) (by lia) λh' tk L c kp g v=>?_;have P:∀b o,l.heap.get? b=some o->h'.get? b=some o:=λb o e=>kp b o (zaq _ e);have F:∀o:Obj,(l.heap.push o).objs.size=l.heap.objs.size+1:=λo=>zcg ..;have ev:Vals ((zcM (j - i).toNat).map λk:Nat=>V.int (i+k)) L.toList:=by
    refine l9 (by rw[zbJ,zbe,zaJ,v.1]) λk x u y hu=>?_;rw[zba] at y;cases e:(zcM (j - i).toNat)[k]? with
    |none=>rw[e] at y;cases y
    |some m=>
     rw[e] at y;obtain⟨_,rfl⟩:=zad.mp e;rw[zaP] at y;obtain rfl:=zcL.inj y;obtain⟨tk,rfl⟩:=v.2 k u (by simpa using hu);exact⟨tk,by simp⟩
   refine⟨.ref (l.heap.push {cls:=.type "range",data:=.fields #[.int i t,.int j t',.int 1 l.toks]}).objs.size,_,W.laid (a:=(l.heap.push {cls:=.type "range",data:=.fields #[.int i t,.int j t',.int 1 l.toks]}).objs.size) (t':=tk) (o:=.lst ((zcM (j - i).toNat).map λk:Nat=>V.int (i+k))) P (by rw[F];exact zcK _) ⟨by rw[zbJ,zbe,yaf];lia,L.toList,c,ev,by rw[zaC];exact g⟩,rfl,q _ (W.hok.fresh (by rw[F];exact zcK _))⟩
end
def Mp(W:yak):List V->Hp->VK->Prop:=λh H Q=>∃(a i:Addr)(e:List (yam×Addr)),h=[.ref a]/\H a=some (.ext (mV W i e))/\e.length<=1000/\∀p,H p=none->Q (.ref p) (upd H p (.lst (e.map λk=>V.ref k.2)))
section
variable {o i k v:Expr}{td ty tv tk:TE}
theorem yy{k:Nat}(F:aX k X.A):b7 X (.type "list") (Mp X.w):=by
 intro x s S H U Y Q I r h;obtain⟨a,P,j,rfl,e,hz,q⟩:=h;obtain⟨u,rfl,ru⟩:=vals1 r;cases ru;have y:=(show bq X.prog X.w H s.heap a (.ext (mV X.w P j)) from I.hok a _ e)
 obtain rfl:=nB y;obtain⟨⟨z,o,t,ep,G,E,hd,n,Z⟩,_,_⟩:=y;have C:t.toList.map (·.key)=j.map λk=>Value.ref k.2:=by rw[n,zct];rfl
 have L:t.size=j.length:=by have:=congrArg zcH C;simpa using this
 refine W.kdl_call (Lz z) F.hd ⟨o,G,E,hd⟩ (by rw[L,yaf];lia) λh' tk m c kp g l=>?_;have O:m.toList=t.toList.map (·.key):=u9 l;refine⟨.ref s.heap.objs.size,_,I.laid (a:=s.heap.objs.size) (t':=tk) (o:=.lst (j.map λk=>V.ref k.2)) kp (zcI _) ⟨by rw[zbJ,yaf];lia,m.toList,c,by rw[O,C];exact fL (λk=>k.2) j,by rw[zaC];exact g⟩,rfl,q _ (I.hok.fresh (zcI _))⟩
end
end L2
namespace M
open PySem PySem.Spec PyProof.Rows L2 M6
def yM(a:AA):AE:=λe S Q=>a e S λh l=>∃i j:Int,h=[.int i,.int j]/\-(2 ^ 60)<=i/\i<2 ^ 60/\i<=j/\j<=i+1000/\Q (.new (.lst ((zcM (j - i).toNat).map λk:Nat=>D.int (i+k)))) l
theorem HU{a:AA}:∀m H Q,aR K (yM a) m H Q->C7 (lW K a) m H Q:=by
 rintro m H Q ⟨w,t,S,P,ok,env,q,bk⟩;refine⟨w,t,S,_,ok,env,q,λO G vs u U o h e n=>?_⟩;obtain⟨i,j,hd,F,E,C,y,v⟩:=n;subst hd;simp only[ao,Rep] at e;obtain⟨x,r,rfl,rfl,I,L,rfl,rfl,rfl⟩:=e;refine⟨i,j,rfl,F,E,C,y,λp s=>bk (.new (.lst _)) G _ u _ o (h.alloc s) (h.fresh s ⟨_,rfl,?_⟩) v⟩;generalize zcM (j - i).toNat=l
 induction l with
 |nil=>exact .nil
 |cons k l ih=>exact .cons .int ih
def Of(W:yak):AN:=λe S Q=>∃n a,e=[.loc n]/\S[n]? =some (some (nO W a))/\a.length<=1000/\Q (.new (.lst a)) S
section
variable {o i k v a b:Expr}
theorem oz{l:AA}(s:X.calm=true)(q:Gl X "list")(n:X.mg "list"=none)(j:Gl X "range")(h:X.mg "range"=none)(t:GA X [a,b] l)(m:yao [a,b] X.env=[(false,eval a X.env),(false,eval b X.env)]:=by rfl)(e:yao [b] X.env=[(false,eval b X.env)]:=by rfl):
  GE X (.Call (.Name "list" p) [.Call (.Name "range" p2) [a,b] [] pos2] [] pos) (yM l):=⟨mE (L2.oz s q n j h t.p m e) HU⟩
theorem IG(x:aX j X.A):tW X (.type "list") (Of X.w):=⟨mC (yy x) λE H Q h=>by
 obtain⟨w,G,S,I,ok,rep,⟨n,s,rfl,z,F,q⟩,bk⟩:=h;obtain⟨v,rfl,m⟩:=gQ rep;obtain⟨a,C,bs,rfl,u,t,e⟩:=MW ok m z;obtain⟨_,_,y,_⟩:=i7 e;refine⟨a,C,_,rfl,u,by rw[zbT,zbJ];lia,λp l=>?_⟩;rw[y];exact bk (.new (.lst s)) S _ w _ .refl (ok.alloc l) (ok.fresh l ⟨_,rfl,t⟩) q⟩
end
end M
namespace M13
open PySem PySem.Spec PyProof.Rows M5 M7
theorem B9:entryFor table "set.__and__"=some Builtin.«frozenset.__and__»:=
 entryFor_alias (id':="frozenset.__and__") (by kernel_rfl) rfl (by decide+kernel) (by kernel_rfl)
theorem Fz{S:List Int}{x:Int}{tk:Tok}{Q:Option Nat->yah->Prop}(U:gX prog w s.heap a S)(W:S.length<4000)(h:∀r:Option Nat,r.isSome=decide (x∈S)->Q r s):yar (model prog w) A (setFind a (.int x tk) ((PySem.intKind prog w).hash x)) Q E s:=by
 obtain⟨o,v,l,X,t,O,hd,i,q,G,C,I⟩:=U;have y:l.size=S.length:=by rw[<-q.length_eq,zbJ,zaJ]
 have P:l.size<scanBound:=by show l.size<4096;lia
 unfold setFind setFindIn;refine yaa (wpAny_setState_of v hd G ?_);dsimp only;rw[byScan_of (x:=.int x tk) rfl P i];simp only[↓reduceIte];refine yaa (wpAny_rule ?_);refine yaa (wpAny_setScan_of (k:=x) (Je x tk) v hd G i ?_);cases u:List.findIdx? (λe=>(PySem.intKind prog w).is x e.2) l.toList with
 |none=>
  dsimp only;refine yab (h none ?_);rw[yDf λm=>?_];rfl;obtain⟨e,H,z⟩:=zcu.mp (q.mem_iff.mpr m);obtain⟨⟨k,F,_⟩,_⟩:=i e H;rw[sS F] at z;subst z;have:=List.findIdx?_eq_none_iff.mp u e H;rw[F] at this;cases this
 |some j=>
  obtain⟨L,n,_⟩:=List.findIdx?_eq_some_iff_getElem.mp u;have m:x∈S:=q.mem_iff.mp (zcu.mpr ⟨_,zby L,sS n⟩);dsimp only;refine yab (h (some (0+j)) ?_);rw[yDt m];rfl
theorem Bw{l:List Addr}(I:∀a∈l,∃S,gX prog w s.heap a S){Q:Bool->yah->Prop}(h:Q true s):yar (model prog w) A (setsQuiet l) Q E s:=by
 unfold setsQuiet;refine yaa ?_;refine wpAny_forIn_list _ (λrest b n=>n=s/\b=⟨none,()⟩/\∀a∈rest,a∈l) _ (λa rest b n F=>?_) (λb n F=>?_) _ _ ⟨rfl,rfl,λa h=>h⟩
 ·obtain⟨rfl,rfl,G⟩:=F;obtain⟨S,o,H,U,Y,t,P,hd,u,W,O,_⟩:=I a (G a (by simp));refine yaa (wpAny_setEntries_of H hd O ?_);refine yaa ?_;refine wpAny_forIn_array' _ (λi b j=>j=n/\b=⟨none,()⟩/\∀e∈i,e∈U.toList) _ (λe i b j C=>?_) (λb j C=>?_) _ _ ⟨rfl,rfl,λa h=>h⟩
  ·obtain⟨rfl,rfl,m⟩:=C;obtain⟨⟨k,L,_⟩,_⟩:=u e (m e (by simp));obtain⟨tk,y⟩:=Value.isInt_shape L;obtain⟨X,v⟩:=e;have y:v=.int k tk:=y;subst y;dsimp only;exact yab ⟨rfl,rfl,λx q=>m x (zay _ q)⟩
  ·obtain⟨rfl,rfl,_⟩:=C;exact yab ⟨rfl,rfl,λx q=>G x (zay _ q)⟩
 ·obtain⟨rfl,rfl,_⟩:=F;exact yab h
theorem ty_int{S:List Int}(h:gX prog w s.heap a S):s.TypeIs (.ref a) "set":=by obtain⟨o,i,_,_,_,e,_⟩:=h;exact⟨o,i,e.1⟩
theorem tY{b r:Addr}{S T U:List Int}{Q:Array (Int×yai)->yah->Prop}(ha:gX prog w s.heap a S)(hb:gX prog w s.heap b T)(O:gX prog w s.heap r U)(hne:a≠r)(hU:U.length<4000)(h:∀(l:Array (Int×yai))(h':Heap),Heap.SameBut r s.heap h'->gX prog w h' r U->ElemsOf (PySem.intKind prog w) l.toList->(l.toList.map λe=>intOf e.2).Perm S->Q l {s with heap:=h'}):
  yar (model prog w) A (setWalkUnseen a [b,r] (some r)) Q E s:=by
 have W:=ha;obtain⟨o,ho,j,ep,t,hex,hd,L,hp,hf,i,hpl⟩:=ha;have hw:∀{X:Array (Int×yai)->yah->Prop},((w.params.followText "set-order")||(t.led&&t.plain)||decide (j.size<=1))=true->(∀l:Array (Int×yai),l.toList.Perm j.toList->X l s)->yar (model prog w) A (setWalk a) X E s:=by
  intro X y q;unfold setWalk;refine yaa (wpAny_setState_of ho hd hf ?_);dsimp only;refine yaa (gM ?_);cases P:w.params.followText "set-order" with
  |true=>
   rw[yIp rfl];refine yaa (wpAny_askSetting (yab ?_));exact q _ (qB _ _)
  |false=>
   rw[P] at i y;have F:t.led=true:=i;have y:t.plain=true∨j.size<=1:=by simpa[F] using y
   rw[yIn (by decide)];have e1:(!t.plain&&decide (j.size> 1))=false:=by
    rcases y with z|z
    ·rw[z];rfl
    ·simp;lia
   show yar _ _ (if(!t.plain&&decide (j.size> 1))=true then _ else _) _ _ _;rw[e1,yIn (by decide)];refine yaa ?_;show yar _ _ (if(!t.led&&decide (j.size> 1))=true then _ else _) _ _ _;rw[F,yIn (by simp)];exact yab (yab (q _ .rfl))
 have Y:∀l:Array (Int×yai),l.toList.Perm j.toList->Q l s:=λl F=>h l s.heap (Heap.SameBut.refl _ _) O (L.perm F) ((F.map _).trans hp);unfold setWalkUnseen;refine yaa (wpAny_setState_of ho hd hf ?_);dsimp only;refine yaa (gM ?_);cases y:((w.params.followText "set-order")||(t.led&&t.plain)||decide (j.size<=1)) with
 |true=>rw[yIp rfl];exact hw y Y
 |false=>
  rw[yIn (by decide)];refine yaa (Bw (λx Z=>?_) ?_)
  ·simp only[zch,zbA,or_false] at Z;rcases Z with rfl|rfl|rfl
   ·exact⟨_,W⟩
   ·exact⟨_,hb⟩
   ·exact⟨_,O⟩
  rw[yIn (by decide)];refine yaa (wpAny_rule ?_);obtain⟨o2,n,v,ep2,t2,H,u,I,C,G,Aa,m⟩:=O;refine yaa (wpAny_setState_of n u G ?_);dsimp only;have hs2:v.size<4000:=by
   have:=C.length_eq;rw[zbJ,zaJ] at this;lia
  split
  ·refine yaa (wpAny_storeSet_of n u ?_ (by rw[yaf];lia));refine yab (h j _ (Heap.SameBut.update s.heap r _) ⟨_,jO v _ n u,v,_,_,H,rfl,I,C,G,?_,m.1,?_⟩ L hp)
   ·show(t2.led&&t.led)=_;rw[Aa,i,zco]
   ·intro z;exact m.2 (Bool.and_eq_true_iff.mp z).1
  ·exact yab (Y j .rfl)
theorem tK{v:Addr}{Q:Bool->yah->Prop}(a:s.TypeIs (.ref v) "set")(h:Q true s):yar (model prog w) A (Builtin.Frozenset.isAnySet (.ref v)) Q E s:=by
 unfold Builtin.Frozenset.isAnySet;refine yaa (wpAny_isInstance a PySem.F.sub_set_set ?_);exact yab h
theorem F4{v:Addr}(a:s.TypeIs (.ref v) "set")(h:Q (.type "set") s):yar (model prog w) A (Builtin.Frozenset.baseOf v) Q E s:=by
 unfold Builtin.Frozenset.baseOf;refine yaa (wpAny_isInstance a PySem.F.sub_set_set ?_);exact yab h
theorem uo{S:List Int}{Q:Nat->yah->Prop}(u:gX prog w s.heap a S)(h:Q S.length s):yar (model prog w) A (Builtin.Frozenset.sizeOf a) Q E s:=by
 obtain⟨o,l,v,x,t,n,hd,q,j,m,e,i⟩:=u;unfold Builtin.Frozenset.sizeOf;refine yaa (wpAny_setEntries_of l hd m (yab ?_));have:=j.length_eq;rw[zbJ,zaJ] at this;rw[this];exact h
theorem uW{id:String}{b r:Addr}{S T:List Int}{l:Array (Int×yai)}{Q:PUnit->yah->Prop}(hel:ElemsOf (PySem.intKind prog w) l.toList)(X:(l.toList.map λe=>intOf e.2).Perm S)(hep:∃o es t,s.heap.get? a=some o/\o.data=.set es ep t/\t.fits es.size=true)(hb:gX prog w s.heap b T)(hr:gX prog w s.heap r [])(h1:a≠r)(h2:b≠r)(hS:S.length<4000)(hT:T.length<4000)(h:∀h' U,Heap.SameBut r s.heap h'->gX prog w h' r U->U.length<=S.length->(∀x,x∈U↔x∈S/\x∈T)->Q ⟨⟩ {s with heap:=h'}):
  yar (model prog w) A (forIn l PUnit.unit λ(p:Int×yai)(_:PUnit)=>do
   holding [p.2] do
    if(<-setFind b p.2 p.1).isSome then
     let _ <-setAddHashed r p.2 p.1
   Builtin.Frozenset.unchanged id a ep
   pure (ForInStep.yield PUnit.unit)) Q E s:=by
 refine wpAny_forIn_array' _ (λrest _ O=>∃(m:List (Int×yai))(h':Heap)(U:List Int),m++rest=l.toList/\O={s with heap:=h'}/\Heap.SameBut r s.heap h'/\gX prog w h' r U/\U.length<=m.length/\∀x,x∈U↔x∈(m.map λe=>intOf e.2)/\x∈T) _ (λe rest _ O hI=>?_) (λ_ O hI=>?_) _ _ ⟨[],s.heap,[],rfl,rfl,Heap.SameBut.refl _ _,hr,zcI _,by simp⟩
 ·obtain⟨m,h',U,F,rfl,sb,L,hl,C⟩:=hI;obtain⟨⟨k,hk,hh⟩,_⟩:=hel e (by rw[<-F];simp);obtain⟨tk,W⟩:=Value.isInt_shape hk;obtain⟨H,v⟩:=e;have W:v=.int k tk:=W;subst W;have hh:H=(PySem.intKind prog w).hash k:=hh;subst hh;have hdl:m.length<S.length:=by
   have h3:=congrArg zcH F;have h4:=X.length_eq;rw[zbJ] at h4;simp at h3;simp at h4;lia
  have hb':gX prog w h' b T:=hb.keep λo e=>by rw[sb.2 b h2];exact e
  have un:∀(i:Heap){Q':ForInStep PUnit->yah->Prop},Heap.SameBut r s.heap i->Q' (.yield ⟨⟩) {s with heap:=i}->yar (model prog w) A (do
    Builtin.Frozenset.unchanged id a ep
    pure (ForInStep.yield PUnit.unit)) Q' E {s with heap:=i}:=by
   intro i Q' j q;obtain⟨o,es,t,ho,hd,hf⟩:=hep;unfold Builtin.Frozenset.unchanged;refine yaa (yaa (wpAny_setEpoch_of (s:={s with heap:=i}) (o:=o) (by show i.get? a=_;rw[j.2 a h1];exact ho) hd hf ?_));rw[yIn (by simp)];exact yab (yab q)
  have nx:∀(i:Heap)(I:List Int),Heap.SameBut r s.heap i->gX prog w i r I->I.length<=m.length+1->(∀x,x∈I↔x∈(m.map λe=>intOf e.2)++[k]/\x∈T)->∃(m:List (Int×yai))(H:Heap)(U:List Int),m++rest=l.toList/\({s with heap:=i}:yah)={s with heap:=H}/\Heap.SameBut r s.heap H/\gX prog w H r U/\U.length<=m.length/\∀x,x∈U↔x∈(m.map λe=>intOf e.2)/\x∈T:=λi I j y Y P=>
   ⟨m++[((PySem.intKind prog w).hash k,.int k tk)],i,I,by rw[zbc];exact F,rfl,j,y,by rw[zaM];exact Y,λx=>by rw[zbS];exact P x⟩
  refine yaa (yad (yaa (Fz (s:={s with heap:=h'}) hb' hT λr' G=>?_)));cases n:decide (k∈T) with
  |true=>
   rw[G,yIp n];refine yaa (add_int (s:={s with heap:=h'}) L (by lia) λ_ i j y=>yab ?_);refine un i (sb.trans j) (nx i _ (sb.trans j) y (zcw (vP ..) (by lia)) λx=>?_);have Z:=of_decide_eq_true n;unfold lZ;split
   ·next hm=>
    rw[C,zbI];constructor
    ·exact λz=>⟨.inl z.1,z.2⟩
    ·rintro⟨z|z,u⟩
     ·exact⟨z,u⟩
     ·rw[zaO.mp z];exact(C k).mp hm
   ·rw[zbI,zbI,C];constructor
    ·rintro(z|z)
     ·exact⟨.inl z.1,z.2⟩
     ·rw[zaO.mp z];exact⟨.inr (by simp),Z⟩
    ·rintro⟨z|z,u⟩
     ·exact .inl ⟨z,u⟩
     ·exact .inr z
  |false=>
   rw[G,yIn (by rw[n];decide)];refine yab (un h' sb (nx h' U sb L (by lia) λx=>?_));rw[C,zbI];constructor
   ·exact λz=>⟨.inl z.1,z.2⟩
   ·rintro⟨z|z,u⟩
    ·exact⟨z,u⟩
    ·rw[zaO.mp z] at u;exact absurd u (of_decide_eq_false n)
 ·obtain⟨m,h',U,F,rfl,sb,L,hl,C⟩:=hI;rw[zbK] at F;subst F;refine h h' U sb L (by have:=X.length_eq;rw[zbJ] at this;lia) λx=>?_;rw[C,X.mem_iff]
theorem B4{id:String}{b:Addr}{S T:List Int}(Y:gX prog w s.heap a S)(hb:gX prog w s.heap b T)(X:a≠b)(hS:S.length<4000)(hT:T.length<4000)(h:∀h' r U,(∀c o,s.heap.get? c=some o->h'.get? c=some o)->gX prog w h' r U->U.length<4000->(∀x,x∈U↔x∈S/\x∈T)->Q (.ref r) {s with heap:=h'}):yar (model prog w) A (Builtin.Frozenset.intersection id a (.ref b)) Q E s:=by
 unfold Builtin.Frozenset.intersection;rw[yIn (by simp;exact λz=>X z.symm)];refine yaa (F4 (ty_int Y) ?_);unfold newSet;refine yaa (yaa (gM ?_));dsimp only;refine yae ?_;have gr:(s.heap.push (br (!w.params.followText "set-order"))).get? s.heap.objs.size=some (br (!w.params.followText "set-order")):=zaK _ rfl;have kp:∀c o,s.heap.get? c=some o->(s.heap.push (br (!w.params.followText "set-order"))).get? c=some o:=λc o e=>zaq _ e;have hr:=rF (prog:=prog) (w:=w) gr;have na:∀{c:Addr}{S:List Int},gX prog w s.heap c S->c≠s.heap.objs.size:=λ⟨o,n,_⟩=>zcv (zcF n);have L:=na Y;have I:=na hb;have q:=Y.keep (kp a);have m:=hb.keep (kp b);have O:∀h',Heap.SameBut s.heap.objs.size (s.heap.push (br (!w.params.followText "set-order"))) h'->∀c o,s.heap.get? c=some o->h'.get? c=some o:=λh' sb c o e=>by
  rw[sb.2 c (zcv (zcF e))];exact kp c o e
 refine yaa (wpAny_of_eq (a:=s.heap.objs.size) rfl ?_);refine yaa (yad ?_);refine yaa (tK (ty_int m) ?_);rw[yIp rfl];refine yaa (wpAny_of_eq (a:=b) rfl ?_);refine yaa (uo m (yaa (uo q ?_)));split
 ·obtain⟨o,n,P,ep,t,G,hd,H,W,F,v⟩:=q;refine yaa (wpAny_setEpoch_of n hd F ?_);refine yaa (tY ⟨o,n,P,ep,t,G,hd,H,W,F,v⟩ m hr L (by simp) λl h1 i y j C=>?_);refine yaa (uW j C ⟨o,P,t,by show h1.get? a=_;rw[i.2 a L];exact n,hd,F⟩ (m.keep λo e=>by show h1.get? b=_;rw[i.2 b I];exact e) y L I hS hT λh2 U u Z hl v=>?_);exact yab (yab (h h2 _ U (O h2 (i.trans u)) Z (by lia) v))
 ·obtain⟨o,n,P,ep,t,G,hd,H,W,F,v⟩:=m;refine yaa (wpAny_setEpoch_of n hd F ?_);refine yaa (tY ⟨o,n,P,ep,t,G,hd,H,W,F,v⟩ q hr I (by simp) λl h1 i y j C=>?_);refine yaa (uW j C ⟨o,P,t,by show h1.get? b=_;rw[i.2 b I];exact n,hd,F⟩ (q.keep λo e=>by show h1.get? a=_;rw[i.2 a L];exact e) y I L hT hS λh2 U u Z hl v=>?_);exact yab (yab (h h2 _ U (O h2 (i.trans u)) Z (by lia) λx=>(v x).trans and_comm))
theorem and_int{b:Addr}{S T:List Int}(e:gX prog w s.heap a S)(i:gX prog w s.heap b T)(j:a≠b)(u:S.length<4000)(t:T.length<4000)(h:∀h' r U,(∀c o,s.heap.get? c=some o->h'.get? c=some o)->gX prog w h' r U->U.length<4000->(∀x,x∈U↔x∈S/\x∈T)->Q (.ref r) {s with heap:=h'}):yar (model prog w) A (binaryOp .BitAnd (.ref a) (.ref b)) Q E s:=by
 refine wpAny_binaryOp_same (op:=.BitAnd) (T:="set") (ty_int e) (ty_int i) PySem.F.fills_set_and PySem.F.slot_set_and (wpAny_call_entry PySem.F.slot_set_and (ty_int e) B9 ?_ (PySem.F.args_set_and_2 _ _));show yar _ _ (do
  let l <-Builtin.Frozenset.slot1 "__and__" ⟨[.ref a,.ref b],[]⟩
  _) _ _ _
 refine yaa (wpAny_of_eq (a:=(.ref a,.ref b)) rfl ?_);dsimp only;refine yaa ?_;refine yaa (tK (ty_int e) ?_);refine tK (ty_int i) ?_;rw[yIn (by decide)];refine yaa (wpAny_of_eq (a:=a) rfl ?_);refine yaa (B4 e i j u t λh' r U k q n m=>?_);exact yab ⟨_,rfl,by simp,h h' r U k q n m⟩
end M13
namespace L2
open PySem PySem.Spec PyProof.Rows
def Ru(K:yaI)(H:Hp)(x:V)(ss:List Int):Prop:=∃p,x=.ref p/\(dJ K H p (ss.map V.int)∨cN K H p (ss.map V.int))/\ss.length<4000
def y9(K:yaI)(m l:TE):TE:=λa H Q=>m a H λx j=>∃h:List Int,Ru K j x h/\l a j λy i=>∃e:List Int,Ru K i y e/\∀u:List Int,(∀x,x∈u↔x∈h/\x∈e)->Q (.int u.length) i
section
variable {f:Expr}{ta tb:TE}{p3 pos3 pos4:Pos}
theorem zu(C:X.calm=true){t:St}{x:V}{v:yai}{ss:List Int}(I:Inv X pins t H s)(u:Ru X.K H x ss)(y:RelV x v)(h:∀(h':Heap)(tk:Nat),M7.gX X.prog X.w h' s.heap.objs.size (M7.allI (λi=>ss.getD i 0) ss.length)->(∀b o,s.heap.get? b=some o->h'.get? b=some o)->Q (.ref s.heap.objs.size) {s with heap:=h',toks:=tk}):
  yar (model X.prog X.w) X.A (call (.type "set") [v]) Q X.xe s:=by
 have q:=I.ok.hd C;obtain⟨a,rfl,j,n⟩:=u;obtain rfl:v=Value.ref a:=y;rcases j with j|j
 ·obtain⟨its,m,pl,hz⟩:=I.tuple j;exact M7.nV (its:=its.toArray) (ss:=ss) q pl (by simpa using intsAre_of m) n λh' tk l kp=>h h' tk l λb o e=>kp b o (zcF e) e
 ·obtain⟨its,m,pl,hz⟩:=I.list j;exact M7.qq (its:=its.toArray) (ss:=ss) q pl.isList (by simpa using intsAre_of m) n λh' tk l kp=>h h' tk l λb o e=>kp b o (zcF e) e
theorem lI(hc:X.calm=true)(hg:Gl X "len")(hm:X.mg "len"=none)(P:Gl X "set")(L:X.mg "set"=none)(he:PE X e ta)(hf:PE X f tb)(hs:notStar e=true:=by rfl)(F:notStar f=true:=by rfl):
  PE X (.Call (.Name "len" p) [.BinOp (.Call (.Name "set" p2) [e] [] pos2) .BitAnd (.Call (.Name "set" p3) [f] [] pos3) pos4] [] pos) (y9 X.K ta tb):=by
 intro a s Z H Q I h;refine wpAny_Call_Name_kw (cH I hg hm (u:=.builtin "len") (by decide+kernel) ?_ (by decide+kernel) (by decide+kernel));refine PyProof.Rows.callWith_builtin1 (E:=X.xe) ?_ (aM [] X.env rfl) rfl;rw[aM [] X.env rfl];refine zaX (wpAny_BinOp ?_);refine wpAny_Call_Name_kw (cH I P L (u:=.type "set") (by decide+kernel) ?_ (by decide+kernel) (by decide+kernel));refine PyProof.Rows.callWith_type1 (E:=X.xe) ?_ (aM [] X.env hs) rfl;rw[aM [] X.env hs];refine zaX (bQ (he a s Z H _ I h) λu n l=>?_);obtain⟨x,H1,Y,rx,ss,W,q⟩:=l;refine zbp (zu hc Y W rx λh' tk tS kp=>?_);obtain⟨S,G,O⟩:=tS;have f1:l8 X a H1 n.heap.objs.size:=Y.sV (zcI _) (Y.hok.fresh (zcI _));have I1':Inv X a Z H1 {n with heap:=h',toks:=tk}:=Y.kept kp;have I2:=I1'.pinned (fp:=[n.heap.objs.size]) (λb hb=>zaO.mp hb▸f1) (λb hb=>zaO.mp hb▸⟨S,G,λv z=>by
  obtain⟨es,ep,t,_,hd,_⟩:=O;rw[hd] at z;cases z⟩)
 refine wpAny_Call_Name_kw (cH I2 P L (u:=.type "set") (by decide+kernel) ?_ (by decide+kernel) (by decide+kernel));refine PyProof.Rows.callWith_type1 (E:=X.xe) ?_ (aM [] X.env F) rfl;rw[aM [] X.env F];refine zaX (bQ (hf _ _ Z H1 _ I2 q) λu2 s2 l=>?_);obtain⟨y,H2,I3,ry,tt,hy,q2⟩:=l;refine zbp (zu hc I3 hy ry λh2 m tS2 C=>?_);have g1:s2.heap.get? n.heap.objs.size=some S:=(I3.pin (n.heap.objs.size,S) (zas _ (zas _ (by
  show _∈jF [n.heap.objs.size] h';unfold jF;rw[zaD,G];simp)))).1
 have n1:=M7.iM (λi=>ss.getD i 0) ss.length;have n2:=M7.iM (λi=>tt.getD i 0) tt.length;obtain⟨_,_,_,l1⟩:=W;obtain⟨_,_,_,l2⟩:=hy;refine M13.and_int (s:={s2 with heap:=h2,toks:=m}) ⟨S,C _ _ g1,O⟩ tS2 (zcv (zcF g1)) (by lia) (by lia) λh3 r U kp3 hU hl W=>?_;refine zbp ?_;obtain⟨o,ho,es,ep,t,hex,hd,hel,hpm,hf,_⟩:=hU;have j:=hpm.length_eq;rw[zbJ,zaJ] at j;refine PySem.call_len_set (s:={s2 with heap:=h3,toks:=m}) ho hex hd hf (by lia) ⟨.int _,H2,?_,⟨_,by rw[j]⟩,q2 U λy=>by rw[W,M7.lO,M7.lO]⟩;exact I3.fM.kept (t':=m+1+1) λb o z=>kp3 b o (C b o z)
end
end L2
namespace M
open PySem PySem.Spec PyProof.Rows L2
def Jd(S:aL)(d:D)(ss:List Int):Prop:=(aS S d=.tup (ss.map D.int)∨aS S d=.lst (ss.map D.int))/\ss.length<4000
def tM(a b:AE):AE:=λe S Q=>a e S λr l=>∃i:List Int,Jd l r.d i/\b e l λm j=>∃h:List Int,Jd j m.d h/\∀u:List Int,(∀x,x∈u↔x∈i/\x∈h)->Q (.dat (.int u.length)) j
theorem Jd.sq{w:Wd}{d:D}{ss:List Int}(ok:Ok K w H S)(r:Rep K w d v)(h:Jd S d ss):Ru K H v ss:=by
 rcases h with⟨z|z,e⟩
 ·obtain⟨a,i,rfl,h1,h2⟩:=bX ok r z;rw[eS h2] at h1;exact⟨a,rfl,.inl h1,e⟩
 ·obtain⟨a,i,rfl,h1,h2⟩:=bz ok r z;rw[eS h2] at h1;exact⟨a,rfl,.inr (cN.of h1),e⟩
theorem DR{a b:AE}:∀n H Q,aR K (tM a b) n H Q->y9 K (aR K a) (aR K b) n H Q:=by
 rintro n H Q ⟨w,s,S,W,ok,env,q,bk⟩;refine⟨w,s,S,_,ok,env,q,.go λP F L v Y m l i e=>?_⟩;obtain⟨y,z,C⟩:=e;refine⟨y,z.sq l i,v,s,F,_,l,env.le m,C,.go λO U I G X o j h e=>?_⟩;obtain⟨x,t,q2⟩:=e;exact⟨x,t.sq j h,λu E=>bk.dat (m.trans o) j .int (q2 u E)⟩
section
variable {f:Expr}{p3 pos3 pos4:Pos}
theorem lI(q:X.calm=true)(m:Gl X "len")(l:X.mg "len"=none)(i:Gl X "set")(h:X.mg "set"=none)(o:GE X e ta)(n:GE X f tb)(j:notStar e=true:=by rfl)(a:notStar f=true:=by rfl):
  GE X (.Call (.Name "len" p) [.BinOp (.Call (.Name "set" p2) [e] [] pos2) .BitAnd (.Call (.Name "set" p3) [f] [] pos3) pos4] [] pos) (tM ta tb):=⟨mE (L2.lI q m l i h o.p n.p j a) DR⟩
end
theorem Qv{w:Wd}{ks:List Key}(k:Ok K w H S)(e:S[m]? =some (some (.dct ks ds))):∃s,w.le s/\Ok K s H (S.set m none)/\∀v,Rep K w (.loc m) v->Rep K s (.dct ks ds) v:=by
 obtain⟨a,u,h1,h2,Q,h,rfl,P,O⟩:=k.live m _ e;have le:w.le ⟨upd w.B a (.dK h),w.r⟩:=⟨al h2,λ_ _ e=>e⟩
 have at_:∀n o,(S.set m none)[n]? =some (some o)->n≠m/\S[n]? =some (some o):=λn o z=>by
  by_cases x:m=n
  ·subst x;rw[zbd] at z;simp at z
  ·rw[zaA x] at z;exact⟨λy=>x y.symm,z⟩
 refine⟨⟨upd w.B a (.dK h),w.r⟩,le,⟨λb o z=>?_,λn o z=>?_,λn j o C I G z=>?_,λn l=>k.top n (by rw[zbP] at l;exact l)⟩,λv E=>?_⟩
 ·by_cases F:b=a
  ·subst F;have z:upd w.B b (.dK h) b=some o:=z;rw[bF] at z;rw[Q];exact z
  ·have z:upd w.B a (.dK h) b=some o:=z;rw[aO F] at z;exact k.base b o z
 ·obtain⟨l,z⟩:=at_ n o z;obtain⟨q,L,i,X,W,U⟩:=k.live n o z;have t:q≠a:=λy=>l (k.inj n m _ _ z e (by rw[i,h1,y]));exact⟨q,L,i,by show upd w.B a _ q=none;rw[aO t];exact X,W,U.le le⟩
 ·exact k.inj n j o C (at_ n o I).2 (at_ j C G).2 z
 ·simp only[Rep] at E⊢;obtain⟨q,i,rfl⟩:=E;rw[h1] at i;cases i;exact⟨a,h,rfl,bF,P,O.le le⟩
theorem zA{w i:Wd}{m:Nat}{e:D}(le:w.le i)(f:∀v,Rep K w (.loc m) v->Rep K i e v):∀{es:List D}{a:List V},ao K w es a->ao K i (es.map (sb m e)) a
 |[],a,h=>by simp only[ao] at h;subst h;exact .nil
 |d::es,a,h=>by
  simp only[ao] at h;obtain⟨x,r,rfl,h1,h2⟩:=h;refine .cons ?_ (zA le f h2);cases d with
  |loc n=>
   show Rep K i (if n=m then _ else _) x;by_cases j:n=m
   ·rw[yIp j];subst j;exact f x h1
   ·rw[yIn j];exact h1.le le
  |_=>exact h1.le le
def Gj(a:AE):AE:=λl S Q=>a l S λr j=>∃m e i h,r=.dat (.tup h)/\j[m]? =some (some (.dct e i))/\Q (.dat (.tup (h.map (sb m (.dct e i))))) (j.set m none)
theorem L5{a:AE}:∀i H Q,aR K (Gj a) i H Q->aR K a i H Q:=by
 rintro i H Q ⟨w,s,S,W,ok,env,q,bk⟩;refine⟨w,s,S,_,ok,env,q,λr U v x X o n e j=>?_⟩;obtain⟨m,O,P,G,I,E,y⟩:=j;subst I;have e:Rep K x (.tup G) v:=e;simp only[Rep] at e;obtain⟨t,u,rfl,F,C⟩:=e;obtain⟨L,h,l,f⟩:=Qv n E;refine bk.dat (o.trans h) l ?_ y;simp only[Rep];exact⟨t,u,rfl,dJ.same h.b F,zA h f C⟩
theorem Sh{t:AE}(h:GE X e t):GE X e (Gj t):=⟨mE h.p L5⟩
end M
namespace L2
open PySem PySem.Spec PyProof.Rows
noncomputable def SH(K:yaI)(a:Addr)(n:Nat):It:=
 ⟨λi H=>i<n/\∃e x,cN K H a e/\e[n - 1 - i]? =some x,λi H x h=>h=H/\∀e,cN K H a e->e[n - 1 - i]? =some x,λi _=>i=n⟩
theorem C1(a it:Addr)(n:Nat):Turn P w K tg (SH K a n) [it] it (λi h=>h.IsRevIter it a ((n:Int) - 1 - (i:Int))) where
 mem:=by simp
 obj:=λi h j b q=>by
  have e:b=it:=by simpa using q
  subst e;obtain⟨o,e,c,d⟩:=j;exact⟨o,e,λv z=>by rw[d] at z;cases z⟩
 keep:=λi h y j k=>j.at λo e=>k it (by simp) o e
 item:=by
  intro X G hw L hc i l s Y H E I t j F;subst G hw L;obtain⟨hi,xs,x,hq,Z⟩:=F;obtain⟨its,rv,p,hz⟩:=I.list hq;obtain⟨u,hu,ru⟩:=rv.get Z;obtain⟨W,U,f2,S,Q,O⟩:=t it (by simp);have C:s.heap.IsRevIter it a ((n - 1 - i:Nat):Int):=by rw[show((n - 1 - i:Nat):Int)=(n:Int) - 1 - (i:Int) by lia];exact j
  refine wpAny_pyNext_rev_item C p.isList (x:=u) (by simpa using hu) λy m sb=>?_;have I1:Inv X l Y H {s with heap:=y}:=I.turned (t':=s.toks) (λb o q e=>(sb.2 b q).trans e) W U S Q O;rw[show((n - 1 - i:Nat):Int) - 1=(n:Int) - 1 - ((i+1:Nat):Int) by lia] at m;obtain⟨o,e,c,d⟩:=id m;exact⟨u,rfl,vf (s:={s with heap:=y}) e c d (by decide) ⟨x,H,I1,ru,⟨rfl,λys hy=>by rw[I.uY hy hq];exact Z⟩,m,λb q=>(t b q).1⟩⟩
 done:=by
  intro X G hw L hc i l s Y H E I t j F;subst G hw L;obtain rfl:i=n:=F;obtain⟨W,U,f2,S,Q,O⟩:=t it (by simp);rw[show(i:Int) - 1 - (i:Int)=-1 by lia] at j;exact wpAny_pyNext_rev_end (I.ok.hd hc) j λy eb=>⟨rfl,I.turned (t':=s.toks) (λb o q e=>eb b o q e) W U S Q O⟩
 self:=λ_ _ _ _ _ j h=>wpAny_pyIter_revIter j h
theorem r9{F:TE}(U:Gl X "reversed")(S:X.mg "reversed"=none)(W:PE X e F)(G:notStar e=true:=by rfl):
  PI X tg (.Call (.Name "reversed" p) [e] [] pos) (λy H R=>F y H λx v=>∃a j,x=.ref a/\cN X.K v a j/\R (SH X.K a j.length) v):=by
 intro m s y H R I h;refine wpAny_Call_Name_kw (cH I U S boot_reversed ?_ (by decide+kernel) (by decide+kernel));refine PyProof.Rows.callWith_type1 (E:=X.xe) ?_ (aM [] X.env G) rfl;rw[aM [] X.env G];refine zaX (bQ (W m s y H _ I h) λu l C=>?_);obtain⟨x,v,t,O,a,j,ex,Q,q⟩:=C;subst ex;obtain rfl:u=Value.ref a:=O;refine zbp ?_;obtain⟨i,P,pl,hz⟩:=t.list Q;have L:=P.length;refine call_reversed_list pl.isList ?_;have n:Heap.IsRevIter (l.heap.push (revObj a ((i.toArray.size:Int) - 1))) l.heap.objs.size a ((j.length:Int) - 1 - ((0:Nat):Int)):=by
  refine⟨_,zaK _ rfl,rfl,?_⟩;have:i.toArray.size=j.length:=by simp;lia
  rw[this];simp[revObj]
 refine wpAny_pyIter_revIter (s:={l with heap:=l.heap.push (revObj a ((i.toArray.size:Int) - 1))}) n ?_;refine⟨_,_,_,_,v,rfl,t.kept (t':=l.toks) λb o e=>zaq _ e,C1 a l.heap.objs.size j.length,n,λb Y=>?_,q⟩;rw[zaO.mp Y];exact t.sV (zcI _) (t.hok.fresh (zcI _))
end L2
namespace M
open PySem PySem.Spec PyProof.Rows L2
def Fj(a:AE):AI:=λh S Q=>a h S λr i=>∃e,r.d=.lst e/\Q e.reverse (λ_=>True) i
theorem Em{α:Type}{es:List α}{d:α}(e:es.reverse[i]? =some d):i<es.length/\es[es.length - 1 - i]? =some d:=by
 have h:i<es.length:=by
  have:=(zad.mp e).1;simpa using this
 rw[List.getElem?_reverse h] at e;exact⟨h,e⟩
theorem HW{a:AE}:∀n H R,Cf K (Fj a) n H R->aR K a n H λx m=>∃a j,x=.ref a/\cN K m a j/\R (SH K a j.length) m:=by
 rintro n H R ⟨w,G,S,X,ok,env,q,bk⟩;refine⟨w,G,S,_,ok,env,q,.go λU P Q I m t l h ⟨W,hd,O⟩=>?_⟩;rw[hd] at h;simp only[Rep] at h;obtain⟨p,j,rfl,h1,h2⟩:=h;have E:=h2.length;refine⟨p,j,rfl,cN.of (l.base _ _ h1),bk _ _ P _ I m t l ⟨λi H S o d le ok F e=>?_,λi H S o d v Y le ok F e y=>?_,λi H S o le ok F e=>?_⟩ O⟩
 ·obtain⟨k1,C⟩:=Em e;obtain⟨u,s,_⟩:=h2.get C;exact⟨by lia,j,u,cN.of ((le.b.trans ok.base) _ _ h1),by rw[E];exact s⟩
 ·obtain⟨k1,C⟩:=Em e;obtain⟨u,s,L⟩:=h2.get C;obtain⟨rfl,g⟩:=y;have g:=g j (cN.of ((le.b.trans ok.base) _ _ h1));rw[E,s] at g;cases g;exact⟨o,.refl,ok,L.le le⟩
 ·show i=j.length;rw[e,List.length_reverse];lia
theorem r9(i:Gl X "reversed")(h:X.mg "reversed"=none)(j:GE X e ta)(a:notStar e=true:=by rfl):
  GI X tg (.Call (.Name "reversed" p) [e] [] pos) (Fj ta):=⟨mI (L2.r9 i h j.p a) HW⟩
end M
namespace L2
open PySem
structure gf(K:yaI)(x:Str)(st:Stmt):Prop where
 ex:∃f oc od kV doc pm an cdv ct osl,zcE K yaq x=some (some (.ref f))/\K.lookup f=some ⟨oc,od,.func (zcD x x (cD st) (bC st) (ah st) .none kV doc pm an cdv ct),osl⟩/\zcf K cdv x=true/\zce K (.ref f)=true
structure CL(K:yaI)(C:Addr)(m q:Str)(st:Stmt):Prop where
 ex:∃f oc od kV doc pm an cdv ct osl,zcd K (.ref C) m=some (some (.ref f))/\K.lookup f=some ⟨oc,od,.func (zcD m q (cD st) (bC st) (ah st) .none kV doc pm an cdv ct),osl⟩/\zcf K cdv q=true/\zce K (.ref f)=true/\zcC K (.ref f)=true
theorem gf.of{oc:yai}{i j:Option Addr}{kV h pm e ct:yai}(a:zcE K yaq x=some (some (.ref f)))(l:K.lookup f=some ⟨oc,i,.func (zcD x x (cD st) (bC st) (ah st) .none kV h pm j e ct),osl⟩)(c:zcf K e x=true)(k:zce K (.ref f)=true):gf K x st:=⟨_,_,_,_,_,_,_,_,_,_,a,l,c,k⟩
theorem CL.of{m q:Str}{oc:yai}{j n:Option Addr}{kV h pm e ct:yai}(a:zcd K (.ref C) m=some (some (.ref f)))(l:K.lookup f=some ⟨oc,j,.func (zcD m q (cD st) (bC st) (ah st) .none kV h pm n e ct),osl⟩)(c:zcf K e q=true)(k:zce K (.ref f)=true)(i:zcC K (.ref f)=true):CL K C m q st:=⟨_,_,_,_,_,_,_,_,_,_,a,l,c,k,i⟩
theorem gf.src(e:gf K x st)(X:K.In h)(G:h.Ns yaq mg)(b:∀(kV i pm:yai)(m:Option Addr)(j ct:yai)(us:List yai),us.length=ps.length->yaz (zcD x x (cD st) (bC st) (ah st) .none kV i pm m j ct) ⟨us,[]⟩=pure (ps.zip us)):Src K mg x ps st:=by
 obtain⟨f,oc,o,kV,i,pm,m,j,ct,n,a,l,c,k⟩:=e.ex;exact J.Ly X G a l c k b
theorem CL.src{m q:Str}(e:CL K C m q st)(b:∀(kV h pm:yai)(n:Option Addr)(j ct:yai)(us:List yai),us.length=ps.length->yaz (zcD m q (cD st) (bC st) (ah st) .none kV h pm n j ct) ⟨us,[]⟩=pure (ps.zip us)):M.tQ K C m q ps st:=by
 obtain⟨f,oc,s,kV,h,pm,n,j,ct,o,a,l,c,k,i⟩:=e.ex;exact⟨f,_,jH (st:=st) l c k,⟨a,i,k⟩,(jH (st:=st) l c k).binds b⟩
end L2
theorem L2.bR{P:List PySem.Str}{a:PySem.Scope}(h1:a.kind=.function:=by rfl)(h2:a.isCoroutine=false:=by rfl)(l:a.isGenerator=false:=by rfl)(j:N.Nodup:=by decide+kernel)(i:N.take P.length=P:=by rfl)(h:∀x∈P,a.names.lookup x=some .local∨a.names.lookup x=some .cell:=by decide+kernel)(e:∀y∈a.names,y.2≠ .free:=by decide+kernel):L2.aA N P a:=⟨h1,h2,l,j,i,h,e⟩
namespace M
open PySem L2
theorem ow{es:List Expr}{k:Nat}{t:AA}(D:Def X.prog X.w X.K X.mg X.base k x ps (av X.K sp))(i:aX j X.A)(n:GA X (e::es) t)(l:k<=j:=by decide)(m:Gl X x:=by rfl)(a:(x==("__debug__":Str))=false:=by decide+kernel)(h:(e::es).all notStar=true:=by rfl):GE X (.Call (.Name x p) (e::es) [] pos) (aCall sp t):=M.gB D (i.mono l) m n a h
section
variable {a b:Expr}
theorem ixs(i:GE X a ta)(h:GE X b tb)(e:nH b:=by exact λ_ _=>rfl):GE X (.Subscript a b pos) (wI vU ta tb):=zQ P4 i h e
theorem bH{i:Int}{j}(h:GE X a ta)(e:nH (.Constant (.int i) j pos'):=by exact λ_ _=>rfl):GE X (.Subscript a (.Constant (.int i) j pos') pos) (wI vU ta (aC (.int i))):=zQ P4 h aj e
theorem cg(i:Nat)(n:X.N.Nodup)(m:GE X e ta)(hi:X.N[i]? =some x:=by rfl)(h:Loc X.env.scope x:=by first|exact .inl rfl|exact .inr rfl)(j:yat e (some (.Name x pos')) pos.line X.env=pure false:=by rfl)(l:X.fn x=true∨X.env.scope.names.lookup x=some .local:=by first|exact .inl rfl|exact .inr rfl|assumption):GS X (.Assign [.Name x pos'] e pos) (Cq ta (bW i)):=xR n hi h m j l
theorem fk(i:Nat)(j:X.N.Nodup)(hi:X.N[i]? =some x:=by rfl)(e:Loc X.env.scope x:=by first|exact .inl rfl|exact .inr rfl)(h:X.fn x=true∨X.env.scope.names.lookup x=some .local:=by first|exact .inl rfl|exact .inr rfl|assumption):GG X (.Name x pos) (bW i):=cZ j hi e h
theorem kb{es:List Expr}{id:String}{r:AN}{t:AA}(o:tW X (.builtin id) r)(m:X.mg x=none)(q:GA X (e::es) t)(n:Gl X x:=by rfl)(i:bootBuiltins x=some (.builtin id):=by decide+kernel)(l:x≠"__name__":=by decide+kernel)(h:(x==("__debug__":Str))=false:=by decide+kernel)(j:(e::es).all notStar=true:=by rfl):GE X (.Call (.Name x p) (e::es) [] pos) (aCall r t):=R6 o n m i q l h j
theorem kt{es:List Expr}{T:String}{r:AN}{t:AA}(o:tW X (.type T) r)(m:X.mg x=none)(q:GA X (e::es) t)(n:Gl X x:=by rfl)(i:bootBuiltins x=some (.type T):=by decide+kernel)(l:x≠"__name__":=by decide+kernel)(h:(x==("__debug__":Str))=false:=by decide+kernel)(j:(e::es).all notStar=true:=by rfl):GE X (.Call (.Name x p) (e::es) [] pos) (aCall r t):=R5 o n m i q l h j
theorem yv(N:List Str)(caps:List (Option Nat)){j:AI}{l:AT}(hi:GI X (.Name x p) a j)(o:∀s₀ H₀ C fp,Q8 (jM X scope N s₀ H₀ C fp) ifs l)(v:∀s₀ H₀ C fp,GE (jM X scope N s₀ H₀ C fp) e ta)(m:N4 scope N=true:=by decide+kernel)(h:kG X.N X.env scope N caps=true:=by rfl)(i:freeOk X.env scope=true:=by rfl)(y:X.calm=true:=by rfl)(n:N[0]? =some x:=by rfl)(t:∀s₀ H₀ C fp,Loc (jM X scope N s₀ H₀ C fp).env.scope x:=by exact λ_ _ _ _=>.inl rfl)(u:∀s₀ H₀ C fp,(jM X scope N s₀ H₀ C fp).fn x=true∨(jM X scope N s₀ H₀ C fp).env.scope.names.lookup x=some .local:=by first|exact λ_ _ _ _=>.inl rfl|exact λ_ _ _ _=>.inr rfl)(q:∀x,foldedSetIterable a X.env x=pure x:=by intro _;rfl):GE X (.ListComp e [⟨.Name x p,a,ifs,0⟩] scope pos) (cL caps j (bW 0) l ta):=nj (vK m) h i y hi (λs H C f=>cZ (vK m).nd n (t s H C f) (u s H C f)) o v q
theorem aV(i:GE X e ta)(h:notStar e=true:=by rfl):GA X [e] (jz ta kH):=aD i ak h
end
end M
open M renaming pv -> Tg, aD -> Th, aa -> Tj, aV -> Tn, af -> To, aj -> Tp, bH -> Tq, ak -> Tr, aF -> Tt, cg -> Tu, az -> Tv, au -> Tw, aE -> Tz, aN -> TF, fk -> TH, aT -> TJ, aJ -> TL, ow -> TM, kb -> TN, aQ -> TQ, bZ -> TR, aH -> TU, bA -> TV, aZ -> TX, ixs -> TY, cz -> TZ, bD -> T4, bh -> T5, rz -> T6, cF -> T7, dh -> T8, bI -> T9, cu -> Ua, kt -> Ub, yv -> Uc, pw_pt -> Ud, pw_or -> Ue, fV -> Ug, cU -> Uh, cV -> Ui, bY -> Uj, mU -> Uk, pw_or1 -> Ul, dw -> Um, cy -> Uo, GE -> Uq, aC -> Ur, gT -> Us, cS -> Ut, cR -> Uu, ju -> Uv, gR -> Uw, sC -> Ux, bV -> Uy, sA -> Uz, dG -> UA, cutD -> UB, eX -> UC, pw_and -> UD, gC -> UE, cZ -> UG, qG -> UH, ret -> UI, gB -> UJ, fW -> UK, jd -> UL, pw_and1 -> UW
namespace K32
open PySem L2
noncomputable def top(i:Nat):Stmt:=PySem.Challenge.pw_pathask_k32_whole_machines_of_patterns.main.body.getD i (.Pass ⟨0,0,0,0⟩)
noncomputable abbrev Bb:List Str:=["_law_script","_law_k"]
noncomputable abbrev kZ:=Bb
theorem LP:aA Bb kZ (ah (top 31)):=L2.bR
noncomputable abbrev vY:List Str:=[]
noncomputable abbrev f7:List Str:=[]
theorem HK:aA vY f7 (ah (top 34)):=L2.bR
noncomputable abbrev wg:List Str:=[]
noncomputable abbrev f9:List Str:=[]
theorem HM:aA wg f9 (ah (top 35)):=L2.bR
noncomputable abbrev A0:List Str:=["_law_way","_law_number"]
noncomputable abbrev gO:=A0
theorem LK:aA A0 gO (ah (top 39)):=L2.bR
noncomputable abbrev wC:List Str:=["_law_cell","_law_sizes","_law_found","_law_figures","_law_k","_law_mixed"]
noncomputable abbrev fc:=wC.take 2
theorem fu:aA wC fc (ah (top 32)):=L2.bR
structure Txt(K:yaI)(mg:Str->Option yai)(C fi:Addr):Prop where
 isinstance:mg "isinstance"=none
 dict:mg "dict"=none
 reversed:mg "reversed"=none
 str:mg "str"=none
 int:mg "int"=none
 bool:mg "bool"=none
 len:mg "len"=none
 tuple:mg "tuple"=none
 list:mg "list"=none
 range:mg "range"=none
 sorted:mg "sorted"=none
 set:mg "set"=none
 zip:mg "zip"=none
 max:mg "max"=none
 min:mg "min"=none
 begin:∃t,mg "BEGIN"=some (.int 0 t)
 end_:∃t,mg "END"=some (.int 1 t)
 Nb:∃a,mg "LEAVES"=some (.ref a)/\∀H:Hp,dJ K H a ((["stay","step","at","off"]:List Str).map V.str)
 any:∃t,mg "ANY"=some (.str "*" t)
 knots:∃t,mg "MOST_KNOTS"=some (.int 40 t)
 ties:∃t,mg "MOST_TIES"=some (.int 300 t)
 mg_Web:mg "Web"=some (.ref C)
 cl:CO K C
 wF:Mk K C fi
 n_marked:ff K C "marked"
 n_tied:ff K C "tied"
 n_near:ff K C "near"
 stay:∃a,mg "STAY"=some (.ref a)/\∀H:Hp,dJ K H a ((["stay"]:List Str).map V.str)
theorem Ad{i:Int}(e:∃t,mg x=some (.int i t))(h:Gl X x)(a:X.mg=mg)(hd:(x==("__debug__":Str))=false):Uq X (.Name x pos) (Ur (.int i)):=by
 obtain⟨t,e⟩:=e;exact M.j7 (v:=.int i) h (by rw[a];exact e) ⟨t,rfl⟩ (λ_=>.int) hd
theorem qu{w:M.Wd}:∀ss:List Str,M.ao K w (ss.map M.D.str) (ss.map V.str)
 |[]=>.nil
 |s::ss=>.cons .str (qu ss)
theorem K0(e:∃a,mg x=some (.ref a)/\∀H:Hp,dJ K H a (ss.map V.str))(j:Gl X x)(i:X.mg=mg)(l:X.K=K)(hd:(x==("__debug__":Str))=false):Uq X (.Name x pos) (Ur (.tup (ss.map M.D.str))):=by
 obtain⟨a,e,h⟩:=e;subst l;exact M.j7 (v:=.ref a) j (by rw[i];exact e) rfl (λw=>by simp only[M.Rep];exact⟨a,_,rfl,h _,qu ss⟩) hd
theorem Qo{y:Str}(e:∃t,mg x=some (.str y t))(h:Gl X x)(a:X.mg=mg)(hd:(x==("__debug__":Str))=false):Uq X (.Name x pos) (Ur (.str y)):=by
 obtain⟨t,e⟩:=e;exact M.j7 (v:=.str y) h (by rw[a];exact e) ⟨t,rfl⟩ (λ_=>.str) hd
theorem Txt.MB(T:Txt K mg C fi)(e:Gl X "ANY":=by rfl)(a:X.mg=mg:=by rfl):Uq X (.Name "ANY" pos) (Ur (.str "*")):=Qo T.any e a (by decide+kernel)
theorem Txt.p7(T:Txt K mg C fi)(e:Gl X "MOST_KNOTS":=by rfl)(a:X.mg=mg:=by rfl):Uq X (.Name "MOST_KNOTS" pos) (Ur (.int 40)):=Ad T.knots e a (by decide+kernel)
theorem Txt.sj(T:Txt K mg C fi)(e:Gl X "MOST_TIES":=by rfl)(a:X.mg=mg:=by rfl):Uq X (.Name "MOST_TIES" pos) (Ur (.int 300)):=Ad T.ties e a (by decide+kernel)
theorem Txt.uH(T:Txt K mg C fi)(e:Gl X "BEGIN":=by rfl)(a:X.mg=mg:=by rfl):Uq X (.Name "BEGIN" pos) (Ur (.int 0)):=Ad T.begin e a (by decide+kernel)
theorem Txt.EK(T:Txt K mg C fi)(e:Gl X "END":=by rfl)(a:X.mg=mg:=by rfl):Uq X (.Name "END" pos) (Ur (.int 1)):=Ad T.end_ e a (by decide+kernel)
theorem Txt.BB(T:Txt K mg C fi)(e:Gl X "LEAVES":=by rfl)(a:X.mg=mg:=by rfl)(h:X.K=K:=by rfl):Uq X (.Name "LEAVES" pos) (Ur (.tup [.str "stay",.str "step",.str "at",.str "off"])):=K0 (ss:=["stay","step","at","off"]) T.Nb e a h (by decide+kernel)
theorem Txt.sf(T:Txt K mg C fi)(e:Gl X "STAY":=by rfl)(a:X.mg=mg:=by rfl)(h:X.K=K:=by rfl):Uq X (.Name "STAY" pos) (Ur (.tup [.str "stay"])):=K0 (ss:=["stay"]) T.stay e a h (by decide+kernel)
open M
theorem sz(h:decide (n<=100)=true):n<=yag:=by rw[yaf];have:=of_decide_eq_true h;lia
theorem aq{i:Int}{Q:AK}:vU (.tup ds) (.int i) S Q=∃e,fJ ds i=some e/\Q (.dat e) S:=rfl
theorem dg{i:Int}{Q:AK}:vU (.lst ds) (.int i) S Q=∃e,fJ ds i=some e/\Q (.dat e) S:=rfl
theorem bP{α:Type}{a:α}{r:List α}:fJ (a::r) (0:Int)=some a:=(cE (j:=0) rfl:fJ (a::r) ((0:Nat):Int)=some a)
theorem cX{α:Type}{a b:α}{r:List α}:fJ (a::b::r) (1:Int)=some b:=(cE (j:=1) rfl:fJ (a::b::r) ((1:Nat):Int)=some b)
theorem at2{α:Type}{a b c:α}{r:List α}:fJ (a::b::c::r) (2:Int)=some c:=(cE (j:=2) rfl:fJ (a::b::c::r) ((2:Nat):Int)=some c)
theorem yI{α:Type}{a b c d:α}{r:List α}:fJ (a::b::c::d::r) (3:Int)=some d:=(cE (j:=3) rfl:fJ (a::b::c::d::r) ((3:Nat):Int)=some d)
theorem QN{z:Nat}(h:z<ds.length):∃e,fJ ds (z:Int)=some e/\e∈ds:=⟨ds[z],cE (zak h),zby h⟩
theorem pick{z:Nat}{Q:AK}(h:z<ds.length)(k:∀e∈ds,Q (.dat e) S):vU (.lst ds) (.int z) S Q:=by
 obtain⟨e,h1,h2⟩:=QN h;exact⟨e,h1,k e h2⟩
inductive Lf where
 |stay|step (b:Bool) (x:Str)|mk (b:Bool) (m:Str)
noncomputable def side(b:Bool):Str:=if b then "on" else "back"
noncomputable def MY(b:Bool):Str:=if b then "at" else "off"
noncomputable def lD:Lf->D
 |.stay=>.tup [.str "stay"]
 |.step b x=>.tup [.str "step",.str (side b),.str x]
 |.mk b m=>.tup [.str (MY b),.str m]
noncomputable def WD:List Str:=["a","ab","stay","*"]
noncomputable def MK:List Str:=["a","many"]
def nI:Lf->Prop
 |.stay=>True
 |.step _ x=>x∈WD
 |.mk _ m=>m∈MK
theorem yW(h:x∈WD):fU x=true:=by
 simp only[WD,zch,zbA,or_false] at h;rcases h with rfl|rfl|rfl|rfl<;>decide+kernel
theorem oQ(h:x∈MK):fU x=true:=by
 simp only[MK,zch,zbA,or_false] at h;rcases h with rfl|rfl<;>decide+kernel
theorem kc{m:Str}:∀{mg:List Str},B5 (.str m) mg=decide (m∈mg)
 |[]=>rfl
 |a::r=>by
  have e:=kc (m:=m) (mg:=r);unfold B5 at e⊢;rw[zcj,e];simp only[KY];by_cases h1:m=a<;>by_cases h2:m∈r<;>simp[h1,h2]
noncomputable def hold(l:Lf)(ms:List Str):Bool:=match l with
 |.stay=>true
 |.step _ _=>false
 |.mk b m=>decide (m∈ms)==b
noncomputable def take(l:Lf)(s w:Str):Bool:=match l with
 |.step b x=>decide (side b=s)&&(decide (x=w)||decide (x="*"))
 |_=>false
def texts(ss:List Str):Prop:=ss.length<=50/\∀x∈ss,fU x=true
local macro_rules
 | `(tactic| push_cast [$xs,*]) => `(tactic| simp only [$xs,*,Ob,QO,Gm,Oc,Gd,aCall,jz,kH,dR,aC,wI,Sv,aB,N7,SA,qe,Gh,Od,Ol,Sx,Cq,bW,vR,tP,Sw,Gb,tL,AJ,JW,Cp,lF,xM,zX,IW,IQ,Gi,F7,vO,Al,Js,Lp,Hv,Ht,true_and,QV,JY,DM,DJ,zy,DL,jR,dO,DK,List.getElem?_cons_zero,zam,List.set_cons_zero,List.set_cons_succ,zcL.injEq,exists_eq_left',zcP.injEq,and_true,D.ty.injEq,D.bl.injEq,D.int.injEq,D.str.injEq,and_assoc,exists_and_left,exists_eq_left,exists_and_right,Mj,Ie,zaU,if_true,if_false,Bool.not_true,Bool.not_false])
def DF:AN:=λa S Q=>∃(ns:List Int)(k:Nat),a=[.lq ns,.int k]/\∀z:Int,Q (.dat (.int z)) S
theorem NW(T:Txt K mg C fi)(F:Src K mg "_law_cell_at" kZ (top 31)):Def P w K mg base 1 "_law_cell_at" kZ (av K DF):=by
 refine cJ F LP (λe S Q h=>?_) (λf i A outer s H E j=>?_)
 ·obtain⟨ns,k,rfl,_⟩:=h;rfl
 ·refine⟨_,(Tj (TJ (Tw Ux (Tg 1) (TN TZ T.len (Tn (Tg 0))) (aG _)) (To (Tv (TY (Tg 0) (Tg 1)))) TL) (To (Tv Tp))),λe S Q h=>?_⟩;obtain⟨ns,k,rfl,q⟩:=h;have a:aK Bb [.lq ns,.int k]=[some (.lq ns),some (.int k)]:=rfl;rw[a];push_cast[true_and];refine⟨ns.length,rfl,ee (λh=>?_) (λh=>q _)⟩;have h:k<ns.length:=by have:=of_decide_eq_true h;lia
  exact⟨ns[k],cE (zak h),aY rfl (q _)⟩
def rK:AN:=λa S Q=>a=[]/\Q (.new (.lst [.str "a",.str "ab",.str "stay"])) S
theorem Jw(T:Txt K mg C fi)(F:Src K mg "_law_words" f7 (top 34)):Def P w K mg base 1 "_law_words" f7 (av K rK):=by
 refine cJ F HK (λe S Q h=>?_) (λf i A outer s H E j=>?_)
 ·obtain⟨rfl,_⟩:=h;rfl
 ·refine⟨_,(To (Tv (TQ (Th Tz (Th Tz (Tn Tz)))))),λe S Q h=>?_⟩;obtain⟨rfl,q⟩:=h;have a:aK vY []=[]:=rfl;rw[a];push_cast[true_and];exact⟨sz rfl,d9 rfl q⟩
def rN:AN:=λa S Q=>a=[]/\Q (.new (.lst [.str "a",.str "many"])) S
theorem JA(T:Txt K mg C fi)(F:Src K mg "_law_marks" f9 (top 35)):Def P w K mg base 1 "_law_marks" f9 (av K rN):=by
 refine cJ F HM (λe S Q h=>?_) (λf i A outer s H E j=>?_)
 ·obtain⟨rfl,_⟩:=h;rfl
 ·refine⟨_,(To (Tv (TQ (Th Tz (Tn Tz))))),λe S Q h=>?_⟩;obtain⟨rfl,q⟩:=h;have a:aK wg []=[]:=rfl;rw[a];push_cast[true_and];exact⟨sz rfl,d9 rfl q⟩
def rO:AN:=λe S Q=>∃(a b:Nat),e=[.int a,.int b]/\a<5/\∀l:Lf,nI l->Q (.dat (lD l)) S
theorem NK(T:Txt K mg C fi)(F:Src K mg "_law_leaf" gO (top 39))(i:Def P w K mg base 1 "_law_words" f7 (av K rK))(j:Def P w K mg base 1 "_law_marks" f9 (av K rN)):Def P w K mg base 2 "_law_leaf" gO (av K rO):=by
 refine cJ F LK (λt S Q h=>?_) (λf u A outer s H E n=>?_)
 ·obtain⟨a,b,rfl,_⟩:=h;rfl
 ·refine⟨_,(Tj (TJ (Tw (TR n) (Tg 0) Tp (aG _)) (To (Tv (TF (Tn Tz)))) TL) (Tj (TJ (Tw Ux (Tg 0) Tp (aG _)) (To (Tv (TF (Th Tz (Th (TY (TQ (Th Tz (Tn Tz))) (Tt T8 (Tg 1) Tp)) (Th (TY (Tt TV (M.j6 i (n.mono (by decide)) (by rfl)) (TQ (Tn Tz))) (Tt T8 (Tt M.oH (Tg 1) Tp) Tp)) Tr)))))) TL) (To (Tv (TF (Th (TY (TQ (Th Tz (Tn Tz))) (Tt UH (Tg 0) Tp)) (Th (TY (M.j6 j (n.mono (by decide)) (by rfl)) (Tt T8 (Tg 1) Tp)) Tr))))))),λt S Q h=>?_⟩;obtain⟨a,b,rfl,v,q⟩:=h;have o:aK A0 [.int a,.int b]=[some (.int a),some (.int b)]:=rfl;rw[o];push_cast[true_and];refine ee (λh=>⟨sz rfl,aY rfl (q .stay trivial)⟩) (λh=>?_);have G:¬((a:Int)=0):=by simpa using h
  refine ee (λh1=>?_) (λh1=>?_)
  ·refine⟨sz rfl,by decide,?_⟩;rw[show((b:Int) % 2)=((b % 2:Nat):Int) by lia,show((b:Int) / 2 % 4)=((b / 2 % 4:Nat):Int) by lia];refine pick (by show b % 2<2;lia) λe l=>?_;obtain⟨c,rfl⟩:∃c,e=.str (side c):=by
    simp only[zch,zbA,or_false] at l;rcases l with rfl|rfl
    ·exact⟨true,rfl⟩
    ·exact⟨false,rfl⟩
   refine⟨rfl,sz rfl,sz rfl,⟨by decide,by decide⟩,by decide,?_⟩;refine pick (by show b / 2 % 4<4;lia) λe l=>?_;obtain⟨x,rfl,m⟩:∃x,e=.str x/\x∈WD:=by
    simp only[zbw,zbR,zch,zbA,or_false] at l;rcases l with rfl|rfl|rfl|rfl<;>exact⟨_,rfl,by simp[WD]⟩
   exact⟨sz rfl,aY rfl (q (.step c x) m)⟩
  ·have y:¬((a:Int)<3):=by simpa using h1
   refine⟨sz rfl,?_⟩;rw[show((b:Int) % 2)=((b % 2:Nat):Int) by lia,show((a:Int) - 3)=((a - 3:Nat):Int) by lia];refine pick (by show a - 3<2;lia) λe l=>?_;obtain⟨c,rfl⟩:∃c,e=.str (MY c):=by
    simp only[zch,zbA,or_false] at l;rcases l with rfl|rfl
    ·exact⟨true,rfl⟩
    ·exact⟨false,rfl⟩
   refine⟨rfl,by decide,?_⟩;refine pick (by show b % 2<2;lia) λe l=>?_;obtain⟨x,rfl,m⟩:∃x,e=.str x/\x∈MK:=by
    simp only[zch,zbA,or_false] at l;rcases l with rfl|rfl<;>exact⟨_,rfl,by simp[MK]⟩
   exact⟨sz rfl,aY rfl (q (.mk c x) m)⟩
noncomputable def nL(ns:List Nat):List D:=ns.map λn:Nat=>D.int n
theorem cQ:∀ns:List Nat,bL (nL ns)=true
 |[]=>rfl
 |n::ns=>by
  have:=cQ ns;unfold nL at this⊢;simp only[zci,bL,b8,this,zco]
theorem EX{i j:Int}{Q:AK}:vS (.int i) (.int j) S Q=(CP i j/\Q (.dat (.int (i*j))) S):=rfl
def ng:AN:=λj S Q=>∃(z:Int)(e:List Nat),j=[.int z,.lst (nL e)]/\(∀n∈e,0<n/\n<1000)/\e.length<=100/\∀h:List Nat,h.length=e.length->(∀(i:Nat)(a b:Nat),h[i]? =some a->e[i]? =some b->a<b)->Q (.new (.lst (nL h))) S
theorem JI(T:Txt K mg C fi)(F:Src K mg "_law_draws" fc (top 32)):Def P w K mg base 1 "_law_draws" fc (av K ng):=by
 refine cJ F fu (λds S Q h=>?_) (λf cdv A outer s H E m=>?_)
 ·obtain⟨z,l,rfl,_⟩:=h;rfl
 ·refine⟨_,(Tj (Tu 2 fu.nd (T6 (TQ Tr))) (Tj (Tu 3 fu.nd (Tt UH (Tg 0) (Tt M.KO Tp Tp))) (Tj (T4 PassesOwn.never rfl (Uy (by rfl) T.range (Th (TN TZ T.len (Tn (Tg 1))) Tr)) (TH 4 fu.nd) (Tj (Tu 5 fu.nd (Tt T8 (Tt Ug (Tt TV (Tt T8 (Tg 0) Tp) Tp) (Tt TV (Tt Ug (Tg 4) (Tg 4)) Tp)) Tp)) (Tj (Tu 5 fu.nd (Tt T8 (Tt Ug (Tt TV (Tt TV (Tt Ug (Tg 5) (Tg 5)) (Tt Ug Tp (Tg 4))) Tp) Tp) Tp)) (Tj (TJ (Tw M.MT (Tg 0) (Tt M.KO Tp Tp) (aG _)) (To (Tu 5 fu.nd (Tg 3))) TL) (Tj (T9 (Us PySem.F.plainAttrs_list PySem.F.slot_list_append PySem.F.type_list_append UC (Tg 2) (Th (Tt T8 (Tg 5) (TY (Tg 1) (Tg 4))) Tr))) (To (Tu 3 fu.nd (Tt M.oH (Tg 3) (TY (Tg 1) (Tg 4)))))))))) (To (Tv (Tg 2)))))),λds S Q h=>?_⟩;obtain⟨z,l,rfl,hs,hl,q⟩:=h;have e0:aK wC [.int z,.lst (nL l)]=[some (.int z),some (.lst (nL l)),none,none,none,none]:=rfl;rw[e0];push_cast[cA,Cp,kH,dW,o6];refine⟨zcJ _,⟨by decide,by decide,by decide⟩,l.length,by simp[fX,nL],by lia,by lia,?_⟩;refine bf (λrest Z S'=>∃(e:List Nat)(Y:Int)(v4 v5:Option D),Z=[some (.int z),some (.lst (nL l)),some (.loc S.length),some (.int Y),v4,v5]/\S'=S++[some (.lst (nL e))]/\rest=((zcM l.length).drop e.length).map (λa:Nat=>D.int a)/\e.length<=l.length/\∀(i a b:Nat),e[i]? =some a->l[i]? =some b->a<b) ?_ ?_ _ _ _ ⟨[],_,none,none,rfl,rfl,by simp[cW],zcJ _,λi a b h=>by simp at h⟩
  ·rintro Z S' ⟨e,Y,v4,v5,rfl,rfl,m,hle,o⟩;have L:e.length=l.length:=by
    have:=congrArg zcH m;simp at this;lia
   refine⟨trivial,_,rfl,?_⟩;exact rX (n:=S.length) (zcI _) (cQ e) (by simp) (by simp) (q e L o)
  ·rintro t rest Z S' N' ⟨e,Y,v4,v5,rfl,rfl,m,hle,o⟩ hN';have X:e.length<l.length:=by
    rcases zcA e.length l.length with h|h
    ·exact h
    ·rw[List.drop_of_length_le (by simpa using h)] at m;simp at m
   rw[zag (by simpa using X),zci,zaP] at m;injection m with e1 e2;subst e1;subst e2;have hb:l[e.length]? =some l[e.length]:=zak X;obtain⟨b0,b1⟩:=hs _ (zby X);generalize l[e.length]=b at hb b0 b1;have O:fJ (nL l) ((e.length:Nat):Int)=some (.int (b:Int)):=cE (by rw[nL,zba,hb];rfl);have es:aS (S++[some (.lst (nL e))]) (.loc S.length)=.lst (nL e):=by simp[aS,MO.d]
   have U:∀(G:Int)(I:Option D),Fi "list" (aS (S++[some (.lst (nL e))]) (.loc S.length))/\vU (.lst (nL l)) (.int ((e.length:Nat):Int)) (S++[some (.lst (nL e))]) (λy S2=>aI (λx j=>0<j) (λi j=>D.int (i % j)) (.int G) y.d S2 λx W=>nG (.loc S.length) [x.d] W λx W=>vU (.lst (nL l)) (.int ((e.length:Nat):Int)) W λy S2=>aI OE (λi j=>D.int (i / j)) (.int Y) y.d S2 λr W=>N' [some (.int z),some (.lst (nL l)),some (.loc S.length),some r.d,some (.int ((e.length:Nat):Int)),I] W):=λG I=>by
    rw[es];refine⟨rfl,?_⟩;push_cast[dg,O,zcL.injEq,exists_eq_left'];have h0:=zbW G (show(b:Int)≠0 by lia);have h1:=zaS G (show(0:Int)<b by lia);obtain⟨c,hc⟩:∃c:Nat,G % (b:Int)=c:=⟨(G % b).toNat,by lia⟩
    rw[hc] at h1⊢;refine⟨by lia,S.length,nL e,_,rfl,rfl,by simp,by rw[nL,zbJ,yaf];lia,?_⟩;rw[zau _ _ (zcI _),zcB];push_cast[dg,O,zcL.injEq,exists_eq_left'];refine⟨⟨by lia,by lia⟩,hN' _ _ ⟨e++[c],_,_,_,rfl,by simp[nL],by rw[zaM];rfl,by rw[zaM];exact X,λi x y h2 h3=>?_⟩⟩;rcases zcA i e.length with h|h
    ·rw[zae h] at h2;exact o i x y h2 h3
    ·rw[zab h] at h2;obtain rfl:i=e.length:=by
      have:=(zad.mp h2).1;simp at this;lia
     rw[hb] at h3;cases h3;simp at h2;lia
   refine⟨trivial,?_⟩;push_cast[EX];have b0:=zbW z (show(1000003:Int)≠0 by decide);have b1:=zaS z (show(0:Int)<1000003 by decide);refine⟨by decide,.inl ⟨by lia,by lia⟩,.inl ⟨by lia,by lia⟩,by decide,?_⟩;generalize (z % 1000003+1)*((e.length:Int)*(e.length:Int)+48271)=u;have c0:=zbW u (show(65537:Int)≠0 by decide);have c1:=zaS u (show(0:Int)<65537 by decide);generalize u % 65537=v at c0 c1⊢;refine⟨.inl ⟨by lia,by lia⟩,.inl ⟨by decide,by decide⟩,.inr ⟨by decide,by decide⟩,by decide,⟨by decide,by decide,by decide⟩,ee (λ_=>?_) (λ_=>?_)⟩
   ·push_cast[wJ];exact U _ _
   ·push_cast[wJ];exact U _ _
open PySem L2 M
abbrev Mv:=Nat×Lf×Nat
inductive Pt where
 |lf (l:Lf)|many (p:Pt)|seq (ps:List Pt)|alt (ps:List Pt)
mutual
noncomputable def tD:Pt->D
 |.lf l=>lD l
 |.many p=>.tup [.str "many",tD p]
 |.seq ps=>.tup [.str "then",.tup (nR ps)]
 |.alt ps=>.tup [.str "either",.tup (nR ps)]
noncomputable def nR:List Pt->List D
 |[]=>[]
 |p::ps=>tD p::nR ps
end
theorem cP:∀ps,nR ps=ps.map tD
 |[]=>rfl
 |p::ps=>by simp[nR,cP ps]
mutual
noncomputable def oc:Pt->Nat
 |.lf _=>1
 |.many p=>oc p+2
 |.seq ps|.alt ps=>nq ps+1
noncomputable def nq:List Pt->Nat
 |[]=>0
 |p::ps=>oc p+nq ps
end
mutual
noncomputable def dp:Pt->Nat
 |.lf _=>0
 |.many p=>dp p+1
 |.seq ps|.alt ps=>wG ps+1
noncomputable def wG:List Pt->Nat
 |[]=>0
 |p::ps=>max (dp p) (wG ps)
end
mutual
def fK:Pt->Prop
 |.lf l=>nI l
 |.many p=>fK p
 |.seq ps|.alt ps=>jq ps
def jq:List Pt->Prop
 |[]=>True
 |p::ps=>fK p/\jq ps
end
theorem iC:∀{ps:List Pt},jq ps->∀p∈ps,fK p
 |[],_,p,h=>by simp at h
 |q::ps,g,p,h=>by
  simp only[jq] at g;rcases zch.mp h with rfl|h
  ·exact g.1
  ·exact iC g.2 p h
theorem kj:∀{ps:List Pt},∀p∈ps,dp p<=wG ps
 |[],p,h=>by simp at h
 |q::ps,p,h=>by
  simp only[wG];rcases zch.mp h with rfl|h
  ·lia
  ·have:=kj p h;lia
theorem iD:∀p,0<oc p:=λp=>by cases p<;>simp only[oc]<;>lia
theorem sy:∀ps:List Pt,ps.length<=nq ps
 |[]=>zcI _
 |p::ps=>by
  have:=sy ps;have:=iD p;simp only[nq,zbq];lia
structure Wr where
 ms:Nat->List Str
 sd:Nat->Str
 wd:Nat->Str
def m7(W:Wr)(l:Lf)(i j:Nat):Prop:=(hold l (W.ms i)=true/\i=j)∨(take l (W.sd i) (W.wd i)=true/\j=i+1)
inductive yP(R:Nat->Nat->Prop):Nat->Nat->Prop
 |nil {i:Nat}:yP R i i
 |snoc {i k j:Nat}:yP R i k->R k j->yP R i j
mutual
def eK(W:Wr):Pt->Nat->Nat->Prop
 |.lf l,i,j=>m7 W l i j
 |.many p,i,j=>yP (eK W p) i j
 |.seq ps,i,j=>iZ W ps i j
 |.alt ps,i,j=>qg W ps i j
def iZ(W:Wr):List Pt->Nat->Nat->Prop
 |[],i,j=>i=j
 |p::ps,i,j=>∃k,eK W p i k/\iZ W ps k j
def qg(W:Wr):List Pt->Nat->Nat->Prop
 |[],_,_=>False
 |p::ps,i,j=>eK W p i j∨qg W ps i j
end
theorem kh{W:Wr}{i j:Nat}:∀{ps:List Pt},qg W ps i j↔∃p∈ps,eK W p i j
 |[]=>by simp[qg]
 |p::ps=>by simp only[qg,kh (ps:=ps),zch,exists_eq_or_imp]
abbrev Ed:=Nat×Pt×Nat
abbrev Lc:=Nat->Nat->Prop
def Cl(W:Wr)(F:Lc)(E:List Ed):Prop:=∀e∈E,∀i j,F e.1 i->eK W e.2.1 i j->F e.2.2 j
noncomputable def eM(m:Mv):Ed:=(m.1,.lf m.2.1,m.2.2)
theorem eE{W:Wr}:eK W (.lf .stay) i j↔i=j:=by
 simp[eK,m7,hold,take]
theorem Dj{W:Wr}:m7 W .stay i j↔i=j:=by
 simp[m7,hold,take]
structure gY(p:Pt)(n:Nat)(E:List Ed):Prop where
 two:2<=n
 G9:∀e∈E,e.1<n/\e.2.2<n
 snd:∀W,∃F:Lc,F 0 0/\Cl W F E/\∀j,F 1 j->eK W p 0 j
 cmp:∀W (F:Lc),Cl W F E->F 0 0->∀j,eK W p 0 j->F 1 j
theorem gY.start(p:Pt):gY p 2 [(0,p,1)]:=by
 refine⟨zcI _,by simp,λW=>⟨λx i=>(x=0/\i=0)∨(x=1/\eK W p 0 i),.inl ⟨rfl,rfl⟩,λe l i j h1 h2=>?_,λj h=>?_⟩,λW F h m j a=>h (0,p,1) (by simp) 0 j m a⟩
 ·obtain rfl:=zaO.mp l;rcases h1 with⟨_,rfl⟩|⟨h,_⟩
  ·exact .inr ⟨rfl,h2⟩
  ·cases h
 ·rcases h with⟨h,_⟩|h
  ·cases h
  ·exact h.2
theorem gY.FP{p:Pt}{E i:List Ed}(h:gY p n E)(g:∀e,e∈i↔e∈E):gY p n i:=
 ⟨h.two,λe a=>h.G9 e ((g e).mp a),λW=>let⟨F,h1,h2,h3⟩:=h.snd W;⟨F,h1,λe a=>h2 e ((g e).mp a),h3⟩,λW F j=>h.cmp W F λe a=>j e ((g e).mpr a)⟩
theorem gY.cut{p:Pt}{k:Nat}{e:Ed}{E C:List Ed}(h:gY p n (e::E))(u:∀c∈C,c.1<n+k/\c.2.2<n+k)(t:∀(W:Wr)(F:Lc),(∀i j,F e.1 i->eK W e.2.1 i j->F e.2.2 j)->∃m:Lc,(∀x,x<n->m x=F x)/\Cl W m C)(a:∀(W:Wr)(F:Lc),Cl W F C->∀i j,F e.1 i->eK W e.2.1 i j->F e.2.2 j):gY p (n+k) (C++E):=by
 have h2:=h.two;refine⟨by lia,λc a=>?_,λW=>?_,λW F q=>h.cmp W F λc o=>?_⟩
 ·rcases zbI.mp a with g|g
  ·exact u c g
  ·have:=h.G9 c (zay _ g);lia
 ·obtain⟨F,H,s,G⟩:=h.snd W;obtain⟨m,l,y⟩:=t W F (s e (by simp));refine⟨m,by rw[l 0 (by lia)];exact H,λc a=>?_,λj v=>G j (by rw[<-l 1 (by lia)];exact v)⟩;rcases zbI.mp a with g|g
  ·exact y c g
  ·have:=h.G9 c (zay _ g);rw[l _ this.1,l _ this.2];exact s c (zay _ g)
 ·rcases zch.mp o with rfl|g
  ·exact a W F λc a=>q c (zaz _ a)
  ·exact q c (zas _ g)
theorem gY.alt{p:Pt}{a b:Nat}{ps:List Pt}{E:List Ed}(h:gY p n ((a,.alt ps,b)::E)):gY p n (ps.map (λq=>(a,q,b))++E):=by
 have o:=h.G9 (a,.alt ps,b) (by simp);refine h.cut (k:=0) (λc l=>?_) (λW F m=>⟨F,λ_ _=>rfl,λc l i j h1 h2=>?_⟩) (λW F m i j h1 h2=>?_)
 ·obtain⟨q,_,rfl⟩:=zcu.mp l;exact o
 ·obtain⟨q,e,rfl⟩:=zcu.mp l;exact m i j h1 (by simp only[eK];exact kh.mpr ⟨q,e,h2⟩)
 ·simp only[eK] at h2;obtain⟨q,e,h2⟩:=kh.mp h2;exact m (a,q,b) (zcu.mpr ⟨q,e,rfl⟩) i j h1 h2
theorem gY.many{p q:Pt}{a b:Nat}{E:List Ed}(h:gY p n ((a,.many q,b)::E)):gY p (n+1) ([(a,.lf .stay,n),(n,q,n),(n,.lf .stay,b)]++E):=by
 have v:a<n/\b<n:=h.G9 (a,.many q,b) (by simp);refine h.cut (k:=1) (λc e=>?_) (λW F l=>⟨λx j=>if x=n then∃i,F a i/\yP (eK W q) i j else F x j,λx u=>?_,λc e i j h1 h2=>?_⟩) (λW F l i j h1 h2=>?_)
 ·simp only[zch,zbA,or_false] at e;rcases e with rfl|rfl|rfl<;>dsimp only<;>lia
 ·funext j;exact yIn (by lia)
 ·simp only[zch,zbA,or_false] at e;rcases e with rfl|rfl|rfl
  ·dsimp only at h1 h2⊢;rw[yIn (by lia)] at h1;rw[yIp rfl];rw[eE] at h2;subst h2;exact⟨i,h1,.nil⟩
  ·dsimp only at h1 h2⊢;rw[yIp rfl] at h1⊢;obtain⟨k,o,m⟩:=h1;exact⟨k,o,m.snoc h2⟩
  ·dsimp only at h1 h2⊢;rw[yIp rfl] at h1;rw[yIn (by lia)];rw[eE] at h2;subst h2;obtain⟨k,o,m⟩:=h1;exact l k i o (by simp only[eK];exact m)
 ·simp only[eK] at h2;have t:=l (a,.lf .stay,n) (by simp) i i h1 (eE.mpr rfl);have key:∀j,yP (eK W q) i j->F n j:=λj s=>by
   induction s with
   |nil=>exact t
   |snoc _ g ih=>exact l (n,q,n) (by simp) _ _ ih g
  exact l (n,.lf .stay,b) (by simp) j j (key j h2) (eE.mpr rfl)
theorem gY.nil{p:Pt}{a b:Nat}{E:List Ed}(h:gY p n ((a,.seq [],b)::E)):gY p n ([(a,.lf .stay,b)]++E):=by
 have m:a<n/\b<n:=h.G9 (a,.seq [],b) (by simp);refine h.cut (k:=0) (λc e=>?_) (λW F l=>⟨F,λ_ _=>rfl,λc e i j h1 h2=>?_⟩) (λW F l i j h1 h2=>?_)
 ·obtain rfl:=zaO.mp e;exact m
 ·obtain rfl:=zaO.mp e;exact l i j h1 (by simp only[eK,iZ];exact eE.mp h2)
 ·simp only[eK,iZ] at h2;exact l (a,.lf .stay,b) (by simp) i j h1 (eE.mpr h2)
noncomputable def chain(a:Nat):List Pt->Nat->Nat->List Ed
 |[],_,_=>[]
 |[p],_,b=>[(a,p,b)]
 |p::q::ps,n,b=>(a,p,n)::chain n (q::ps) (n+1) b
theorem gY.seq{p:Pt}:∀(ps:List Pt)(q:Pt){n a b:Nat}{E:List Ed},gY p n ((a,.seq (q::ps),b)::E)->gY p (n+ps.length) (chain a (q::ps) n b++E)
 |[],q,n,a,b,E,h=>by
  have t:a<n/\b<n:=h.G9 (a,.seq [q],b) (by simp);refine h.cut (k:=0) (λc l=>?_) (λW F m=>⟨F,λ_ _=>rfl,λc l i j h1 h2=>?_⟩) (λW F m i j h1 h2=>?_)
  ·obtain rfl:=zaO.mp l;exact t
  ·obtain rfl:=zaO.mp l;exact m i j h1 (by simp only[eK,iZ];exact⟨j,h2,rfl⟩)
  ·simp only[eK,iZ] at h2;obtain⟨k,h2,rfl⟩:=h2;exact m (a,q,b) (by simp[chain]) i k h1 h2
 |q2::ps,q,n,a,b,E,h=>by
  have t:a<n/\b<n:=h.G9 (a,.seq (q::q2::ps),b) (by simp);have h1:gY p (n+1) ([(a,q,n),(n,.seq (q2::ps),b)]++E):=by
   refine h.cut (k:=1) (λc l=>?_) (λW F m=>⟨λx j=>if x=n then∃i,F a i/\eK W q i j else F x j,λx u=>?_,λc l i j h1 h2=>?_⟩) (λW F m i j h1 h2=>?_)
   ·simp only[zch,zbA,or_false] at l;rcases l with rfl|rfl<;>dsimp only<;>lia
   ·funext j;exact yIn (by lia)
   ·simp only[zch,zbA,or_false] at l;rcases l with rfl|rfl
    ·dsimp only at h1 h2⊢;rw[yIn (by lia)] at h1;rw[yIp rfl];exact⟨i,h1,h2⟩
    ·dsimp only at h1 h2⊢;rw[yIp rfl] at h1;rw[yIn (by lia)];obtain⟨k,o,s⟩:=h1;simp only[eK] at h2;exact m k j o (by simp only[eK];rw[iZ];exact⟨i,s,h2⟩)
   ·simp only[eK] at h2;rw[iZ] at h2;obtain⟨k,o,s⟩:=h2;exact m (n,.seq (q2::ps),b) (by simp) k j (m (a,q,n) (by simp) i k h1 o) (by simp only[eK];exact s)
  have h2:gY p (n+1) ((n,.seq (q2::ps),b)::((a,q,n)::E)):=h1.FP λe=>by
   simp only[zch,zbw,zbR];exact or_left_comm
  have o:=gY.seq ps q2 h2;have e:n+(q2::ps).length=n+1+ps.length:=by rw[zbq];lia
  rw[e];refine o.FP λc=>?_;show c∈(a,q,n)::chain n (q2::ps) (n+1) b++E↔_;simp only[zch,zbI,zbw];exact or_left_comm
def ClM(W:Wr)(F:Lc)(a:List Mv):Prop:=∀m∈a,∀i j,F m.1 i->m7 W m.2.1 i j->F m.2.2 j
inductive Rc(W:Wr)(mv:List Mv):Nat->Nat->Prop
 |base:Rc W mv 0 0
 |go {m:Mv}{i j:Nat}:m∈mv->Rc W mv m.1 i->m7 W m.2.1 i j->Rc W mv m.2.2 j
theorem Rc.sub{W:Wr}{a:List Mv}{F:Lc}(h0:F 0 0)(h:ClM W F a){x:Nat}(r:Rc W a x i):F x i:=by
 induction r with
 |base=>exact h0
 |go hm _ hf ih=>exact h _ hm _ _ ih hf
theorem Ml{W:Wr}{p:Pt}{a:List Mv}(h:gY p n (a.map eM))(j:Nat):Rc W a 1 j↔eK W p 0 j:=by
 constructor
 ·intro r;obtain⟨F,h1,h2,q⟩:=h.snd W;refine q j (r.sub h1 λm l i j t s=>h2 (eM m) (zcu.mpr ⟨m,l,rfl⟩) i j t (by simp only[eM,eK];exact s))
 ·intro g;refine h.cmp W (Rc W a) (λe o i j h1 h2=>?_) .base j g;obtain⟨m,l,rfl⟩:=zcu.mp o;simp only[eM,eK] at h2;exact .go l h1 h2
open PySem L2 M
theorem aW:∀(n:Nat)(l:List Nat),l.Nodup->(∀x∈l,x<n)->l.length<=n
 |0,[],_,_=>zcI _
 |0,x::_,_,h=>absurd (h x (by simp)) (by lia)
 |n+1,l,h1,h2=>by
  have:=aW n (l.erase n) (h1.erase n) λx e=>by
   have a:=(List.Nodup.mem_erase_iff h1).mp e;have:=h2 x a.2;have:=a.1;lia
  have i:l.length - 1<=(l.erase n).length:=by
   rw[List.length_erase];split<;>lia
  lia
theorem oK{ks:List Nat}{k:Nat}(h:ks.Nodup)(i:k ∉ ks):(ks++[k]).Nodup:=by
 rw[zbf];refine⟨h,by simp,λa l b j=>?_⟩;rw[zaO.mp j];intro e;exact i (e▸l)
inductive Reach(mv:List Mv)(ms:List Str)(st:List Nat):Nat->Prop
 |base {x:Nat}:x∈st->Reach mv ms st x
 |go {m:Mv}:Reach mv ms st m.1->m∈mv->hold m.2.1 ms=true->Reach mv ms st m.2.2
def Bc(n:Nat)(m:Mv):Prop:=m.1<n/\nI m.2.1/\m.2.2<n
theorem Reach.lt{i:List Mv}{st:List Nat}(e:∀m∈i,Bc n m)(a:∀s∈st,s<n){x:Nat}(h:Reach i ms st x):x<n:=by
 induction h with
 |base h=>exact a _ h
 |go _ h _ _=>exact(e _ h).2.2
theorem Reach.closed{a:List Mv}{st ks:List Nat}(h1:∀s∈st,s∈ks)(h2:∀m∈a,m.1∈ks->hold m.2.1 ms=true->m.2.2∈ks){x:Nat}(h:Reach a ms st x):x∈ks:=by
 induction h with
 |base h=>exact h1 _ h
 |go _ h g ih=>exact h2 _ h ih g
def Oo(a:List Mv)(st:List Nat)(s w:Str)(x:Nat):Prop:=∃m∈a,m.1∈st/\take m.2.1 s w=true/\m.2.2=x
def Bf(W:Wr)(a:List Mv)(n x:Nat):Prop:=(n=0/\x=0)∨∃k m,n=k+1/\m∈a/\Rc W a m.1 k/\take m.2.1 (W.sd k) (W.wd k)=true/\m.2.2=x
theorem jZ{W:Wr}{e:List Mv}{st:List Nat}(h:∀x,x∈st↔Bf W e n x)(x:Nat):Reach e (W.ms n) st x↔Rc W e x n:=by
 constructor
 ·intro r
  induction r with
  |base g=>
   rcases(h _).mp g with⟨rfl,rfl⟩|⟨k,m,rfl,a,r,l,rfl⟩
   ·exact .base
   ·exact .go a r (.inr ⟨l,rfl⟩)
  |go _ a q ih=>exact .go a ih (.inl ⟨q,rfl⟩)
 ·intro r;generalize o:n=n' at r
  induction r with
  |base=>subst o;exact .base ((h _).mpr (.inl ⟨rfl,rfl⟩))
  |@go m i j a r hf ih=>
   rcases hf with⟨q,rfl⟩|⟨l,rfl⟩
   ·subst o;exact .go (ih rfl) a q
   ·exact .base ((h _).mpr (.inr ⟨i,m,o,a,r,l,rfl⟩))
theorem Dg{W:Wr}{a:List Mv}{st:List Nat}(h:∀x,x∈st↔Rc W a x n)(x:Nat):Oo a st (W.sd n) (W.wd n) x↔Bf W a (n+1) x:=by
 constructor
 ·rintro⟨m,i,h1,h2,rfl⟩;exact .inr ⟨n,m,rfl,i,(h _).mp h1,h2,rfl⟩
 ·rintro(⟨h1,_⟩|⟨k,m,e,i,r,j,rfl⟩)
  ·cases h1
  ·obtain rfl:n=k:=by lia
   exact⟨m,i,(h _).mpr r,j,rfl⟩
noncomputable def Wr.put(W:Wr)(n:Nat)(ms:List Str)(s w:Str):Wr:=⟨λi=>if i=n then ms else W.ms i,λi=>if i=n then s else W.sd i,λi=>if i=n then w else W.wd i⟩
theorem sub_len{α:Type}[DecidableEq α]:∀(l L:List α),l.Nodup->(∀x∈l,x∈L)->l.length<=L.length
 |[],_,_,_=>zcJ _
 |a::l,L,h1,h2=>by
  rw[zbL] at h1;have i:=h2 a (by simp);have:=sub_len l (L.erase a) h1.2 λx h=>(List.mem_erase_of_ne (λe:x=a=>h1.1 (e▸h))).mpr (h2 x (zay _ h));rw[zal i] at this;have:=zao i;rw[zbq];lia
open PySem L2 M M6
noncomputable abbrev GP:List Str:=["joint"]
noncomputable abbrev l7:=GP
theorem Pa:aA GP l7 (ah (top 11)):=L2.bR
noncomputable abbrev GX:List Str:=["span","fresh","one","joint","other","firsts","lasts"]
noncomputable abbrev pT:=GX.take 2
theorem qt:aA GX pT (ah (top 12)):=L2.bR
noncomputable def eD(e:Ed):D:=.tup [.int e.1,tD e.2.1,.int e.2.2]
noncomputable def vc:Pt->Bool
 |.lf _=>true
 |_=>false
noncomputable def ns:Pt->Nat
 |.many _=>1
 |.seq ps=>ps.length - 1
 |_=>0
noncomputable def gH(a n b:Nat):Pt->List Ed
 |.lf _=>[]
 |.alt ps=>ps.map λq=>(a,q,b)
 |.many q=>[(a,.lf .stay,n),(n,q,n),(n,.lf .stay,b)]
 |.seq []=>[(a,.lf .stay,b)]
 |.seq (q::ps)=>chain a (q::ps) n b
noncomputable def zH(n k:Nat):List D:=(zcM k).map λi:Nat=>D.int ((n:Int)+i)
theorem El(n k:Nat):zH n (k+1)=.int n::zH (n+1) k:=by
 unfold zH;rw[List.range_succ_eq_map,zci,zct];refine congr (congrArg _ (by simp)) (zaF λi _=>?_);simp only[Function.comp];congr 1;lia
theorem qU:∀(ps:List Pt)(q:Pt)(a n b:Nat),(t6 (.int a::zH n ps.length) (nR (q::ps)) (zH n ps.length++[.int b])).map D.tup=(chain a (q::ps) n b).map eD
 |[],q,a,n,b=>rfl
 |q2::ps,q,a,n,b=>by
  have e:=qU ps q2 n (n+1) b;rw[zbq,El,chain,zci,<-e,nR];unfold t6;rw[zbw,zaN,zaN,zci,zci];rfl
mutual
theorem gh:∀p:Pt,b8 (tD p)=true
 |.lf l=>by cases l<;>simp[tD,lD,b8,bL]
 |.many p=>by simp[tD,b8,bL,gh p]
 |.seq ps=>by simp[tD,b8,bL,jP ps]
 |.alt ps=>by simp[tD,b8,bL,jP ps]
theorem jP:∀ps:List Pt,bL (nR ps)=true
 |[]=>by simp[nR,bL]
 |p::ps=>by simp[nR,bL,gh p,jP ps]
end
theorem sW(e:Ed):b8 (eD e)=true:=by simp[eD,b8,bL,gh]
theorem dF{α:Type}{f:α->D}:∀{l:List α},(∀x∈l,b8 (f x)=true)->bL (l.map f)=true
 |[],_=>rfl
 |x::l,h=>by simp only[zci,bL,h x (by simp),dF λy a=>h y (zay _ a),zco]
theorem gg(ps:List Pt):(nR ps).length=ps.length:=by rw[cP,zbJ]
def Ds:AN:=λa S Q=>∃p:Pt,a=[tD p]/\vc p=false/\Q (.dat (.int (ns p))) S
theorem QE(T:Txt K mg C fi)(F:Src K mg "new_stands" l7 (top 11)):Def P w K mg base 1 "new_stands" l7 (av K Ds):=by
 refine cJ F Pa (λm S Q h=>?_) (λf n A outer s H E a=>?_)
 ·obtain⟨p,rfl,_⟩:=h;rfl
 ·refine⟨_,(Tj (TJ (Tw (TR a) (Tq (Tg 0)) Tz (aG _)) (To (Tv Tp)) TL) (To (Tv (M.oB (Tw (TR a) (Tq (Tg 0)) Tz (aG _)) (TN (M.MQ rfl) T.max (Th (Tt UH (TN TZ T.len (Th (Tq (Tg 0)) Tr)) Tp) (Tn Tp))) Tp)))),λm S Q h=>?_⟩;obtain⟨p,rfl,i,q⟩:=h;have j:aK GP [tD p]=[some (tD p)]:=rfl;rw[j];cases p with
  |lf l=>cases i
  |many p=>
   push_cast[tD,aq,bP,cX];rw[yIp (by decide)];exact q
  |seq ps=>
   push_cast[tD,aq,bP,cX];rw[yIn (by decide),yIp (by decide)];refine⟨ps.length,by simp[fX,gg],_,_,rfl,?_⟩;have e:(if(0:Int)> (ps.length:Int) - 1 then(0:Int) else(ps.length:Int) - 1)=((ns (.seq ps):Nat):Int):=by
    simp only[ns];split<;>lia
   rw[e];exact aY rfl q
  |alt ps=>
   push_cast[tD,aq,bP,cX];rw[yIn (by decide),yIn (by decide)];exact q
def Ky:AN:=λe S Q=>∃(p:Pt)(a n b:Nat),e=[eD (a,p,b),.int n]/\vc p=false/\n<=1000/\oc p<=100/\Q (.new (.lst ((gH a n b p).map eD))) S
theorem QI(T:Txt K mg C fi)(F:Src K mg "cut" pT (top 12))(i:Def P w K mg base 1 "new_stands" l7 (av K Ds)):Def P w K mg base 2 "cut" pT (av K Ky):=by
 refine cJ F qt (λO S Q h=>?_) (λf U A outer s H E o=>?_)
 ·obtain⟨p,a,n,b,rfl,_⟩:=h;rfl
 ·refine⟨_,(Tj (Tu 2 qt.nd (Tq (Tg 0))) (Tj (Tu 3 qt.nd (Tq (Tg 0))) (Tj (Tu 4 qt.nd (Tq (Tg 0))) (Tj (TJ (Tw (TR o) (Tq (Tg 3)) Tz (aG _)) (To (Tv (Uc ["part","one","other"] [none,some 2,some 4] (TX (Tq (Tg 3))) (λ_ _ _ _=>UA) (λ_ _ _ _=>(TF (Th (Tg 1) (Th (Tg 0) (Tn (Tg 2))))))))) TL) (Tj (TJ (Tw (TR o) (Tq (Tg 3)) Tz (aG _)) (To (Tv (TQ (Th (TF (Th (Tg 2) (Th T.sf (Tn (Tg 1))))) (Th (TF (Th (Tg 1) (Th (Tq (Tg 3)) (Tn (Tg 1))))) (Th (TF (Th (Tg 1) (Th T.sf (Tn (Tg 4))))) Tr)))))) TL) (Tj (TJ (Uh (Ua (Tq (Tg 3)))) (To (Tv (TQ (Th (TF (Th (Tg 2) (Th T.sf (Tn (Tg 4))))) Tr)))) TL) (Tj (Tu 5 qt.nd (Tt TV (TQ (Tn (Tg 2))) (M.oz rfl (by rfl) T.list (by rfl) T.range (Th (Tg 1) (Th (Tt TV (Tg 1) (TM i o (Tn (Tg 3)))) Tr))))) (Tj (Tu 6 qt.nd (Tt TV (M.fS M.zW (Tg 5) (M.gA Tp) M.j4) (TQ (Tn (Tg 4))))) (To (Tv (M.se rfl (by rfl) T.list (by rfl) T.zip (Th (Tg 5) (Th (Tq (Tg 3)) (Tn (Tg 6))))))))))))))),λO S Q h=>?_⟩;obtain⟨p,a,n,b,rfl,v,X,t,q⟩:=h;have L:aK GX [eD (a,p,b),.int n]=[some (eD (a,p,b)),some (.int n),none,none,none,none,none]:=rfl;rw[L];push_cast[eD,aq,bP,cX,at2];cases p with
  |lf l=>cases v
  |many p=>
   push_cast[tD,aq,bP,cX];rw[yIn (by decide),yIp (by decide)];refine⟨sz rfl,sz rfl,sz rfl,sz rfl,d9 ?_ q⟩;simp[b8,bL,gh]
  |alt ps=>
   push_cast[tD,aq,bP,cX];rw[yIp (by decide)];push_cast[cL,cI,aq,cX,bT];refine comp_map (δ:=[none,some (.int a),some (.int b)]) (λx=>.tup [.int a,x,.int b]) trivial _ [] _ rfl (λx W Q q=>?_) (by rw[gg,yaf];have:=sy ps;simp only[oc] at t;simp;lia) ?_
   ·push_cast[true_and];exact⟨sz rfl,q⟩
   ·have e:(nR ps).map (λx=>D.tup [.int a,x,.int b])=(gH a n b (.alt ps)).map eD:=by
     rw[cP,zct,gH,zct];rfl
    rw[zbR,e];exact d9 (dF λe _=>sW e) q
  |seq ps=>
   push_cast[tD,aq,bP,cX];rw[yIn (by decide),yIn (by decide)];cases ps with
   |nil=>
    rw[yIp (by rfl)];exact⟨sz rfl,sz rfl,d9 (by simp[b8,bL]) q⟩
   |cons m ps=>
    rw[yIn (by simp[nR])];have u:ps.length<100:=by have:=sy (m::ps);simp only[oc,zbq] at t this;lia
    push_cast[yM];refine⟨sz rfl,.seq (m::ps),rfl,rfl,?_⟩;have G:ns (.seq (m::ps))=ps.length:=by simp[ns]
    have j:(zH n ps.length).length=ps.length:=by simp[zH]
    rw[G];refine⟨_,rfl,by lia,by lia,by lia,by lia,?_⟩;rw[show((n:Int)+(ps.length:Int) - n).toNat=ps.length by lia,show(zcM ps.length).map (λk:Nat=>D.int ((n:Int)+k))=zH n ps.length from rfl];refine⟨by rw[j,yaf];simp;lia,?_⟩;simp only[xM,zX,Co,dO];have I:cutD ([D.int a]++zH n ps.length) (some 1) none=zH n ps.length:=by
     unfold cutD;rw[show HT.lz ([D.int a]++zH n ps.length).length 0 (some 1)=1 by simp[HT.lz]];simp[HT.lz]
    rw[I];refine⟨sz rfl,?_⟩;show Cr (.lst (zH n ps.length)) (.lst [.int b]) S _;rw[vO];refine⟨by rw[j,yaf];simp;lia,?_⟩;push_cast[F9,aq,cX];refine⟨_,rfl,_,rfl,_,rfl,by simp[j,gg],by simp[j,gg],by simp[gg],by simp[gg];lia,?_⟩;have y:=qU ps m a n b;rw[show[D.int (a:Int)]++zH n ps.length=.int a::zH n ps.length from rfl,y];exact d9 (dF λe _=>sW e) q
open PySem L2 M M6
noncomputable abbrev A4:List Str:=["pattern","many","moves","spans","narrower","span"]
noncomputable abbrev kT:=A4.take 1
theorem iw:aA A4 kT (ah (top 10)):=L2.bR
noncomputable abbrev GQ:List Str:=["pattern","laid"]
noncomputable abbrev pQ:=GQ.take 1
theorem Kz:aA GQ pQ (ah (top 18)):=L2.bR
noncomputable def vD(m:Mv):D:=.tup [.int m.1,lD m.2.1,.int m.2.2]
theorem J9(m:Mv):eD (eM m)=vD m:=rfl
noncomputable def mD(n b:Nat)(es:List Nat)(a:List Mv):D:=.tup [.int n,.int b,.tup (nL es),.tup (a.map vD)]
noncomputable def ws(E:List Ed):Nat:=(E.map λe=>oc e.2.1).sum
noncomputable def vs(E:List Ed):Nat:=(E.map λe=>oc e.2.1 - 1).sum
theorem Bj(A B:List Ed):ws (A++B)=ws A+ws B:=by simp[ws]
theorem Bk(A B:List Ed):vs (A++B)=vs A+vs B:=by simp[vs]
theorem i8(e:Ed)(B:List Ed):ws (e::B)=oc e.2.1+ws B:=by simp[ws]
theorem jN(e:Ed)(B:List Ed):vs (e::B)=(oc e.2.1 - 1)+vs B:=by simp[vs]
theorem wM:∀E:List Ed,E.length<=ws E
 |[]=>zcJ _
 |e::E=>by
  have:=wM E;have:=iD e.2.1;rw[i8,zbq];lia
theorem F5{a b:Nat}:∀ps:List Pt,ws (ps.map λq=>(a,q,b))=nq ps/\vs (ps.map λq=>(a,q,b))+ps.length=nq ps
 |[]=>⟨rfl,rfl⟩
 |p::ps=>by
  obtain⟨h1,h2⟩:=F5 (a:=a) (b:=b) ps;have:=iD p;rw[zci,i8,jN,zbq,nq];dsimp only;lia
theorem vH:∀(ps:List Pt)(q:Pt)(a n b:Nat),ws (chain a (q::ps) n b)=nq (q::ps)/\vs (chain a (q::ps) n b)+ps.length+1=nq (q::ps)
 |[],q,a,n,b=>by
  have:=iD q;simp only[chain,i8,jN,nq];simp[ws,vs];lia
 |q2::ps,q,a,n,b=>by
  obtain⟨h1,h2⟩:=vH ps q2 n (n+1) b;have:=iD q;rw[chain,i8,jN,nq,zbq];dsimp only;lia
theorem qV:∀(ps:List Pt)(q:Pt)(a n b:Nat),∀e∈chain a (q::ps) n b,e.2.1∈q::ps
 |[],q,a,n,b,e,h=>by
  rw[chain,zaO] at h;subst h;simp
 |q2::ps,q,a,n,b,e,h=>by
  rw[chain] at h;rcases zch.mp h with rfl|h
  ·simp
  ·exact zay _ (qV ps q2 n (n+1) b e h)
theorem FN(a n b:Nat)(p:Pt)(e:vc p=false):ws (gH a n b p)<=oc p/\ns p+vs (gH a n b p)<=oc p - 1:=by
 cases p with
 |lf _=>cases e
 |many q=>
  have:=iD q;simp only[gH,i8,jN,ns,oc];simp[ws,vs];lia
 |alt ps=>
  obtain⟨h1,h2⟩:=F5 (a:=a) (b:=b) ps;simp only[gH,ns,oc];lia
 |seq ps=>
  cases ps with
  |nil=>simp[gH,ws,vs,ns,oc]
  |cons q ps=>
   obtain⟨h1,h2⟩:=vH ps q a n b;simp only[gH,ns,oc,zbq];lia
theorem NX(a n b:Nat)(p:Pt)(m:vc p=false)(i:fK p):∀e∈gH a n b p,fK e.2.1/\dp e.2.1<dp p:=by
 intro e j;cases p with
 |lf _=>cases m
 |many q=>
  simp only[gH,zch,zbA,or_false] at j;simp only[fK] at i;rcases j with rfl|rfl|rfl
  ·exact⟨by simp[fK,nI],by simp[dp]⟩
  ·exact⟨i,by simp[dp]⟩
  ·exact⟨by simp[fK,nI],by simp[dp]⟩
 |alt ps=>
  obtain⟨q,l,rfl⟩:=zcu.mp j;simp only[fK] at i;have:=kj q l;exact⟨iC i q l,by simp only[dp];lia⟩
 |seq ps=>
  simp only[fK] at i;cases ps with
  |nil=>
   simp only[gH,zaO] at j;subst j;exact⟨by simp[fK,nI],by simp[dp]⟩
  |cons q ps=>
   have h:=qV ps q a n b e j;have:=kj e.2.1 h;exact⟨iC i _ h,by simp only[dp];lia⟩
theorem gY.step{p q:Pt}{a b:Nat}{E:List Ed}(h:gY p n ((a,q,b)::E))(e:vc q=false):gY p (n+ns q) (gH a n b q++E):=by
 cases q with
 |lf _=>cases e
 |many q=>exact h.many
 |alt ps=>exact h.alt
 |seq ps=>
  cases ps with
  |nil=>exact h.nil
  |cons q ps=>
   have:=gY.seq ps q h;simpa[ns,gH] using this
theorem Jh{l:Lf}(h:nI l){Q:AK}(q:Q (.dat (.bl true)) S):vU (lD l) (.int 0) S λr e=>tV false r.d (.tup [.str "stay",.str "step",.str "at",.str "off"]) e Q:=by
 have key:∀x:Str,x∈(["stay","step","at","off"]:List Str)->tV false (.str x) (.tup [.str "stay",.str "step",.str "at",.str "off"]) S Q:=λx a=>by
  refine eZ (n:=0) (ss:=["stay","step","at","off"]) (by simp only[zch,zbA,or_false] at a;rcases a with rfl|rfl|rfl|rfl<;>decide+kernel) (by decide) (by decide+kernel) ?_;have:B5 (.str x) ["stay","step","at","off"]=true:=by simp only[zch,zbA,or_false] at a;rcases a with rfl|rfl|rfl|rfl<;>decide+kernel
  rw[this];exact q
 cases l with
 |stay=>exact⟨_,bP,key _ (by simp)⟩
 |step b x=>exact⟨_,bP,key _ (by simp)⟩
 |mk b m=>exact⟨_,bP,key _ (by cases b<;>simp[MY])⟩
theorem Jg{p:Pt}(h:vc p=false){Q:AK}(q:Q (.dat (.bl false)) S):vU (tD p) (.int 0) S λr e=>tV false r.d (.tup [.str "stay",.str "step",.str "at",.str "off"]) e Q:=by
 have key:∀x:Str,x∈(["many","then","either"]:List Str)->tV false (.str x) (.tup [.str "stay",.str "step",.str "at",.str "off"]) S Q:=λx a=>by
  refine eZ (n:=0) (ss:=["stay","step","at","off"]) (by simp only[zch,zbA,or_false] at a;rcases a with rfl|rfl|rfl<;>decide+kernel) (by decide) (by decide+kernel) ?_;have:B5 (.str x) ["stay","step","at","off"]=false:=by simp only[zch,zbA,or_false] at a;rcases a with rfl|rfl|rfl<;>decide+kernel
  rw[this];exact q
 cases p with
 |lf _=>cases h
 |many p=>exact⟨_,bP,key _ (by simp)⟩
 |seq ps=>exact⟨_,bP,key _ (by simp)⟩
 |alt ps=>exact⟨_,bP,key _ (by simp)⟩
theorem gu{T:aL}{d:D}{Q:AK}(h:b8 d=true)(q:Q (.dat d) S):UI S (S++T) (.dat d) Q:=
 ⟨_,zS h,λk o a e=>.inl (by rw[zae a] at e;exact e),by rw[List.take_left];exact q⟩
abbrev LS:=Nat×List Mv×List Ed×List Ed
noncomputable def stp:LS->Option LS
 |(_,_,[],[])=>none
 |(n,mv,[],e::NR)=>some (n,mv,e::NR,[])
 |(n,mv,(a,.lf l,b)::R,NR)=>some (n,mv++[(a,l,b)],R,NR)
 |(n,mv,(a,q,b)::R,NR)=>some (n+ns q,mv,R,NR++gH a n b q)
noncomputable def runs(s:LS):Nat->Option LS
 |0=>some s
 |k+1=>(runs s k).bind stp
def Ry(p:Pt)(n:Nat)(a:List Mv)(R e:List Ed):Prop:=∃k,runs (2,[],[(0,p,1)],[]) k=some (n,a,R,e)
theorem nX{s t:LS}{k:Nat}(h:runs s k=some t)(a:stp t=none):∀j,runs s (k+1+j)=none
 |0=>by show(runs s k).bind stp=none;rw[h];exact a
 |j+1=>by show(runs s (k+1+j)).bind stp=none;rw[nX h a j];rfl
theorem Ry.go{p:Pt}{s t:LS}(h:Ry p s.1 s.2.1 s.2.2.1 s.2.2.2)(e:stp s=some t):Ry p t.1 t.2.1 t.2.2.1 t.2.2.2:=by
 obtain⟨k,a⟩:=h;refine⟨k+1,?_⟩;show(runs _ k).bind stp=_;rw[a];exact e
theorem Ry.turn{p:Pt}{i:List Mv}{a:List Ed}(h:Ry p n i [] a):Ry p n i a []:=by
 cases a with
 |nil=>exact h
 |cons e a=>exact Ry.go (s:=(n,i,[],e::a)) h rfl
theorem Ry.cut{p q:Pt}{a b:Nat}{e:List Mv}{R i:List Ed}(h:Ry p n e ((a,q,b)::R) i)(j:vc q=false):Ry p (n+ns q) e R (i++gH a n b q):=by
 refine Ry.go (s:=(n,e,(a,q,b)::R,i)) (t:=(n+ns q,e,R,i++gH a n b q)) h ?_;cases q with
 |lf _=>cases j
 |_=>rfl
theorem Ry.uniq{p:Pt}{m:Nat}{o j:List Mv}(h:Ry p n o [] [])(h':Ry p m j [] []):n=m/\o=j:=by
 obtain⟨k,l⟩:=h;obtain⟨i,a⟩:=h';have e:k=i:=by
  rcases zbj k i with z|z|z
  ·have:=nX l rfl (i - k - 1);rw[show k+1+(i - k - 1)=i by lia,a] at this;cases this
  ·exact z
  ·have:=nX a rfl (k - i - 1);rw[show i+1+(k - i - 1)=k by lia,l] at this;cases this
 subst e;rw[l] at a;injection a with e;injection e with e1 e2;injection e2 with e2 e3;exact⟨e1,e2⟩
def Dy:AN:=λe S Q=>∃p:Pt,e=[tD p]/\fK p/\oc p<=50/\∀(n:Nat)(a:List Mv),Ry p n a [] []->gY p n (a.map eM)->n<=oc p+1->a.length<=oc p->(∀m∈a,nI m.2.1)->Q (.dat (.tup [.int n,.lst (a.map vD)])) S
theorem NP(T:Txt K mg C fi)(F:Src K mg "laid_out" kT (top 10))(o:Def P w K mg base 1 "new_stands" l7 (av K Ds))(ab:Def P w K mg base 2 "cut" pT (av K Ky)):Def P w K mg base 3 "laid_out" kT (av K Dy):=by
 refine cJ F iw (λds S Q h=>?_) (λf cdv A outer s H E I=>?_)
 ·obtain⟨p,rfl,_⟩:=h;rfl
 ·refine⟨_,(Tj (Tu 1 iw.nd Tp) (Tj (Tu 2 iw.nd (T6 (TQ Tr))) (Tj (Tu 3 iw.nd (TQ (Th (TF (Th T.uH (Th (Tg 0) (Tn T.EK)))) Tr))) (Tj (M.fR PassesOwn.never (Ua (Tg 3)) (Tj (Tu 4 iw.nd (T6 (TQ Tr))) (Tj (T4 PassesOwn.never rfl (TX (Tg 3)) (TH 5 iw.nd) (To (TJ (Tw (Uk I) (Tq (Tq (Tg 5))) T.BB rfl) (To (T9 (Us PySem.F.plainAttrs_list PySem.F.slot_list_append PySem.F.type_list_append UC (Tg 2) (Tn (Tg 5))))) (Tj (T9 (Us PySem.F.plainAttrs_list PySem.F.slot_list_extend PySem.F.type_list_extend M.oS (Tg 4) (Th (TM ab I (Th (Tg 5) (Tn (Tg 1)))) Tr))) (To (M.Bx (i:=1) iw.nd rfl (Or.inl rfl) (TM o I (Th (Tq (Tg 5)) Tr)))))))) (To (Tu 3 iw.nd (Tg 4)))))) (To (Tv (M.fre (TF (Th (Tg 1) (Tn (Tg 2))))))))))),λds S Q h=>?_⟩;obtain⟨p,rfl,hp,ho,q⟩:=h;have e0:aK A4 [tD p]=[some (tD p),none,none,none,none,none]:=rfl;rw[e0];push_cast[cA];refine⟨sz rfl,sz rfl,sz rfl,?_⟩;have cX:∀(a:MO)(T:aL),(S++some a::T)[S.length]? =some (some a):=λa T=>by simp
  have u:∀(a:MO)(T:aL)(k:Nat),(S++some a::T)[S.length+1+k]? =T[k]?:=λa T k=>by
   rw[zab (by lia),show S.length+1+k - S.length=k+1 by lia,zam]
  have O6:∀(a:MO)(b:Option MO)(T:aL),(S++some a::T).set S.length b=S++b::T:=λa b T=>by rw[zau _ _ (zcI _)];simp
  have RD:∀(a:MO)(T:aL)(x y:Option MO),(S++some a::(T++[x])).set (S.length+1+T.length) y=S++some a::(T++[y]):=λa T x y=>by
   rw[zau _ _ (by lia),show S.length+1+T.length - S.length=T.length+1 by lia,List.set_cons_succ,zau _ _ (zcI _)];simp
  obtain⟨W,hW⟩:∃W:Nat->bx->aL->Prop,W=λU O S2=>∃(n:Nat)(j:List Mv)(E:List Ed)(d:D)(v4 v:Option D)(T:aL),O=[some (tD p),some (.int n),some (.loc S.length),some d,v4,v]/\S2=S++some (.lst (j.map vD))::T/\(d=.lst (E.map eD)∨∃k,d=.loc (S.length+1+k)/\T[k]? =some (some (.lst (E.map eD))))/\Ry p n j E []/\
    gY p n (j.map eM++E)/\n+vs E<=oc p+1/\j.length+ws E<=oc p/\(∀m∈j,nI m.2.1)/\∀e∈E,fK e.2.1/\dp e.2.1<U:=⟨_,rfl⟩
  have hop:=iD p;refine⟨W,⟨dp p+1,by rw[hW];exact⟨2,[],[(0,p,1)],_,none,none,[],rfl,rfl,.inl rfl,⟨0,rfl⟩,gY.start p,by simp[vs];lia,by simp[ws],by simp,λe Z=>by rw[zaO.mp Z];exact⟨hp,by simp⟩⟩⟩,?_⟩;intro U O S2 hw;rw[hW] at hw;obtain⟨n,j,E,d,v4,v,T,rfl,rfl,hd,hR,hB,hv,X,hlf,hE⟩:=hw;have Nt:aS (S++some (.lst (j.map vD))::T) d=.lst (E.map eD):=by
   rcases hd with rfl|⟨k,rfl,hk⟩
   ·rfl
   ·simp only[aS,u,hk];rfl
  push_cast[true_and];refine⟨!E.isEmpty,by rw[Nt];simp[dY],ee (λhw=>?_) (λhw=>?_)⟩
  ·obtain⟨N,hN⟩:∃N:bx->aL->Prop,N=λO S2=>∃(n:Nat)(j:List Mv)(E:List Ed)(d:D)(v4 v:Option D)(T:aL),O=[some (tD p),some (.int n),some (.loc S.length),some d,v4,v]/\S2=S++some (.lst (j.map vD))::T/\(d=.lst (E.map eD)∨∃k,d=.loc (S.length+1+k)/\T[k]? =some (some (.lst (E.map eD))))/\Ry p n j E []/\
     gY p n (j.map eM++E)/\n+vs E<=oc p+1/\j.length+ws E<=oc p/\(∀m∈j,nI m.2.1)/\∀e∈E,fK e.2.1/\dp e.2.1<U - 1:=⟨_,rfl⟩
   have hmu:0<U:=by
    cases E with
    |nil=>simp at hw
    |cons e E=>have:=(hE e (by simp)).2;lia
   refine⟨N,?_,?_⟩
   ·rw[hN,hW];rintro δ' S3 h;exact⟨U - 1,by lia,h⟩
   ·push_cast[cA,dW,cI];refine⟨zcJ _,?_⟩;rw[zbc,show zcH (S++some (MO.lst (j.map vD))::T)=S.length+1+T.length by simp;lia];have Y:∀Q':List D->(aL->Prop)->aL->Prop,(∀Pr:aL->Prop,(∀(a:MO)(x:Option MO),Pr (S++some a::(T++[x])))->Q' (E.map eD) Pr (S++some (.lst (j.map vD))::(T++[some (.lst [])])))->bT (S++some (.lst (j.map vD))::(T++[some (.lst [])])) Q' d:=λQ' h=>by
     rcases hd with rfl|⟨k,rfl,hk⟩
     ·exact h _ λ_ _=>trivial
     ·have hkT:k<T.length:=(zad.mp hk).1;refine⟨_,by rw[u,zae hkT];exact hk,h _ λa x=>by rw[u,zae hkT];exact hk⟩
    refine Y _ λPr hPr=>?_;refine bf (λrest O S3=>∃(n:Nat)(j:List Mv)(R t:List Ed)(v:Option D),rest=R.map eD/\O=[some (tD p),some (.int n),some (.loc S.length),some d,some (.loc (S.length+1+T.length)),v]/\S3=S++some (.lst (j.map vD))::(T++[some (.lst (t.map eD))])/\Ry p n j R t/\gY p n (j.map eM++(R++t))/\n+vs R+vs t<=oc p+1/\j.length+ws R+ws t<=oc p/\(∀m∈j,nI m.2.1)/\(∀e∈R,fK e.2.1/\dp e.2.1<U)/\∀e∈t,fK e.2.1/\dp e.2.1<U - 1) ?_ ?_ _ _ _ ⟨n,j,E,[],v,rfl,rfl,rfl,hR,by rw[zbK];exact hB,by simp[vs] at hv⊢;exact hv,by simp[ws] at X⊢;exact X,hlf,hE,by simp⟩
    ·rintro O S3 ⟨n,j,R,t,v,I,rfl,rfl,g0,g1,g2,g3,g4,g5,g6⟩;have:R=[]:=by cases R with
      |nil=>rfl
      |cons _ _=>simp at I
     subst this;refine⟨hPr _ _,?_⟩;push_cast[true_and];rw[hN];refine⟨n,j,t,_,_,_,_,rfl,rfl,  .inr ⟨T.length,rfl,by simp⟩,g0.turn,g1,by simpa[vs] using g2,by simpa[ws] using g3,g4,g6⟩
    ·rintro x rest O S3 N' ⟨n,j,R,t,v,I,rfl,rfl,g0,g1,g2,g3,g4,g5,g6⟩ hN';cases R with
     |nil=>simp at I
     |cons r R=>
      rw[zci] at I;injection I with e1 e2;subst e1;subst e2;obtain⟨G,ok2⟩:=g5 r (by simp);refine⟨hPr _ _,?_⟩;push_cast[true_and];rw[show eD r=.tup [.int r.1,tD r.2.1,.int r.2.2] from rfl];push_cast[aq,K32.cX];have hwr:=i8 r R;have hvr:=jN r R;cases L:vc r.2.1 with
      |true=>
       obtain⟨a,pr,b⟩:=r;cases pr with
       |lf l=>
        simp only[fK] at G;refine Jh G ⟨_,rfl,?_⟩;rw[yIp rfl];push_cast[wJ];refine⟨by simp only[aS,cX];rfl,S.length,_,_,rfl,rfl,cX _ _,?_,?_⟩
        ·rw[zbJ,yaf];lia
        ·rw[O6,show j.map vD++[D.tup [.int a,tD (.lf l),.int b]]=(j++[(a,l,b)]).map vD by rw[zbS];rfl];refine hN' _ _ ⟨n,j++[(a,l,b)],R,t,_,rfl,rfl,rfl,Ry.go (s:=(n,j,(a,.lf l,b)::R,t)) g0 rfl,?_,?_,?_,?_,λe Z=>g5 e (zay _ Z),g6⟩
         ·refine g1.FP λe=>?_;simp only[zbS,zbI,zch,zci,zcr,zbA,or_false,zbw];rw[show eM (a,l,b)=(a,.lf l,b) from rfl];constructor
          ·rintro((h|h)|h|h)
           ·exact .inl h
           ·exact .inr (.inl h)
           ·exact .inr (.inr (.inl h))
           ·exact .inr (.inr (.inr h))
          ·rintro(h|h|h|h)
           ·exact .inl (.inl h)
           ·exact .inl (.inr h)
           ·exact .inr (.inl h)
           ·exact .inr (.inr h)
         ·lia
         ·simp only[oc] at hwr;rw[zaM];show j.length+1+_+_<=_;lia
         ·intro m hm;rcases zbI.mp hm with h|h
          ·exact g4 m h
          ·rw[zaO.mp h];exact G
       |_=>cases L
      |false=>
       refine Jg L ⟨_,rfl,?_⟩;rw[yIn (by decide)];have ow:=iD r.2.1;push_cast[wJ,QW];refine⟨by simp only[aS,u];simp;rfl,r.2.1,r.1,n,r.2.2,rfl,L,by lia,by lia,?_⟩;refine⟨_,t.map eD,_,_,rfl,rfl,by rw[u];simp,.inl rfl,?_,?_⟩
       ·have h1:=wM t;have h2:=wM (gH r.1 n r.2.2 r.2.1);have h3:=(FN r.1 n r.2.2 r.2.1 L).1;rw[zbJ,zbJ,yaf];lia
       ·rw[RD,<-zbS];refine⟨_,rfl,r.2.1,rfl,L,_,_,rfl,rfl,?_⟩;have c1:=FN r.1 n r.2.2 r.2.1 L;have c2:=NX r.1 n r.2.2 r.2.1 L G;refine hN' _ _ ⟨n+ns r.2.1,j,R,t++gH r.1 n r.2.2 r.2.1,_,rfl,by push_cast;rfl,rfl,g0.cut L,?_,by rw[Bk];lia,by rw[Bj];lia,g4,λe Z=>g5 e (zay _ Z),λe Z=>?_⟩
        ·have h1:gY p n ((r.1,r.2.1,r.2.2)::(j.map eM++(R++t))):=g1.FP λe=>by
          simp only[zbI,zch,zbw];exact or_left_comm
         refine(h1.step L).FP λe=>?_;simp only[zbI];constructor
         ·rintro(h|h|h|h)
          ·exact .inr (.inl h)
          ·exact .inr (.inr (.inl h))
          ·exact .inr (.inr (.inr h))
          ·exact .inl h
         ·rintro(h|h|h|h)
          ·exact .inr (.inr (.inr h))
          ·exact .inl h
          ·exact .inr (.inl h)
          ·exact .inr (.inr (.inl h))
        ·rcases zbI.mp Z with h|h
         ·exact g6 e h
         ·have:=c2 e h;exact⟨this.1,by lia⟩
  ·have:E=[]:=by simpa using hw
   subst this;rw[zbK] at hB;push_cast[Oh];refine⟨sz rfl,S.length,_,_,rfl,cX _ _,?_⟩;rw[O6];have es:([D.int (n:Int),D.loc S.length]:List D).map (sb S.length (.lst (j.map vD)))=[.int n,.lst (j.map vD)]:=by simp[sb]
   rw[es];refine gu ?_ (q n j hR hB (by simpa[vs] using hv) (by simpa[ws] using X) hlf);have:bL (j.map vD)=true:=dF λm _=>by rw[<-J9];exact sW _
   simp only[b8,bL,this,zco]
theorem lB(h:fU x=true):(PyData.str x).canLay0=true:=by
 have:=eN (n:=0) (d:=.str x) h (by decide);unfold fit PySem.SeqAt.shaped at this;simp only[zbF] at this;exact this.2.1
theorem Fb{l:Lf}(h:nI l):bG (py (lD l))=true/\(py (lD l)).depth<=1/\b8 (lD l)=true:=by
 cases l with
 |stay=>exact⟨by simp only[lD,py,fj,bG,cj,zcp];exact lB (by decide+kernel),by decide,rfl⟩
 |step b x=>
  refine⟨?_,by simp[lD,py,fj,PyData.depth,PyData.depthAll],rfl⟩;simp only[lD,py,fj,bG,cj,zcp,zbF];exact⟨lB (by decide+kernel),lB (by cases b<;>decide+kernel),lB (yW h)⟩
 |mk b m=>
  refine⟨?_,by simp[lD,py,fj,PyData.depth,PyData.depthAll],rfl⟩;simp only[lD,py,fj,bG,cj,zcp,zbF];exact⟨lB (by cases b<;>decide+kernel),lB (oQ h)⟩
theorem nu{m:Mv}(h:nI m.2.1):dj (vD m):=by
 obtain⟨h1,h2,a⟩:=Fb h;refine⟨by simp only[vD,b8,bL,a,zco],?_,?_,_,rfl⟩
 ·simp only[vD,py,fj,bG,cj,h1,zco]
 ·simp only[vD,py,fj,PyData.depth,PyData.depthAll];lia
theorem Na(l k:Lf):bO (py (lD l)) (py (lD k))=true:=by cases l<;>cases k<;>simp[lD,py,fj,bO,dQ]
theorem x8(m k:Mv):bO (py (vD m)) (py (vD k))=true:=by simp only[vD,py,fj,bO,dQ,Na,zco]
theorem EW(m:Mv):∃p r,py (vD m)=PyData.tuple (.int p::r):=⟨_,_,rfl⟩
theorem DH{a:Bool}(h:side a=side b):a=b:=by
 cases a<;>cases b<;>first|rfl|exact absurd h (by decide)
theorem IM{a:Bool}(h:MY a=MY b):a=b:=by
 cases a<;>cases b<;>first|rfl|exact absurd h (by decide)
theorem IV{l k:Lf}(h:py (lD l)=py (lD k)):(∀ms,hold l ms=hold k ms)/\∀s w,take l s w=take k s w:=by
 cases l<;>cases k<;>simp only[lD,py,fj,zci,zcr,PyData.tuple.injEq,zcP.injEq,PyData.str.injEq,and_true,reduceCtorEq,and_false,List.nil_eq,List.cons_ne_nil] at h
 all_goals first
  |exact⟨λ_=>rfl,λ_ _=>rfl⟩
  |(obtain⟨_,h1,rfl⟩:=h;rw[DH h1];exact⟨λ_=>rfl,λ_ _=>rfl⟩)
  |(obtain⟨h1,rfl⟩:=h;rw[IM h1];exact⟨λ_=>rfl,λ_ _=>rfl⟩)
  |exact absurd h (by decide)
  |exact h.elim
theorem IK{m k:Mv}(h:py (vD m)=py (vD k)):m.1=k.1/\m.2.2=k.2.2/\∀W i j,m7 W m.2.1 i j↔m7 W k.2.1 i j:=by
 simp only[vD,py,fj,PyData.tuple.injEq,zcP.injEq,PyData.int.injEq,and_true] at h;obtain⟨h1,h2,l⟩:=h;obtain⟨e,a⟩:=IV h2;exact⟨by lia,by lia,λW i j=>by unfold m7;rw[e,a]⟩
theorem gY.same{p:Pt}{o a:List Mv}(h:gY p n (o.map eM))(h1:∀m∈a,m∈o)(h2:∀m∈o,∃m'∈a,py (vD m')=py (vD m)):gY p n (a.map eM):=by
 have sub:∀e∈a.map eM,e∈o.map eM:=λe l=>by
  obtain⟨m,s,rfl⟩:=zcu.mp l;exact zcu.mpr ⟨m,h1 m s,rfl⟩
 refine⟨h.two,λe l=>h.G9 e (sub e l),λW=>?_,λW F y=>h.cmp W F λe l i j u t=>?_⟩
 ·obtain⟨F,G,E,C⟩:=h.snd W;exact⟨F,G,λe l=>E e (sub e l),C⟩
 ·obtain⟨m,s,rfl⟩:=zcu.mp l;obtain⟨m',q,e⟩:=h2 m s;obtain⟨k1,x,v⟩:=IK e;have:=y (eM m') (zcu.mpr ⟨m',q,rfl⟩) i j;simp only[eM,eK] at this u t⊢;rw[k1,x] at this;exact this u ((v W i j).mpr t)
theorem ED{b:Nat}{es:List Nat}{a:List Mv}:b8 (mD n b es a)=true:=by
 have:bL (a.map vD)=true:=dF λm _=>by rw[<-J9];exact sW _
 simp only[mD,b8,bL,cQ,this,zco]
noncomputable def pm(a:List Mv):List yam:=a.map λm=>py (vD m)
def OA(p:Pt)(n:Nat)(e:List Mv):Prop:=(∃a,Ry p n a [] []/\∀y,y∈pm e↔y∈pm a)/\(pm e).Nodup/\(pm e).Pairwise λx y=>fH y x=false
def Kv:AN:=λe S Q=>∃p:Pt,e=[tD p]/\fK p/\oc p<=50/\∀(n:Nat)(a:List Mv),OA p n a->gY p n (a.map eM)->n<=oc p+1->a.length<=oc p->(∀m∈a,nI m.2.1)->Q (.dat (mD n 0 [1] a)) S
theorem QF(T:Txt K mg C fi)(F:Src K mg "machine_of" pQ (top 18))(a:Def P w K mg base 3 "laid_out" kT (av K Dy)):Def P w K mg base 4 "machine_of" pQ (av K Kv):=by
 refine cJ F Kz (λds S Q h=>?_) (λf cdv A outer s H E L=>?_)
 ·obtain⟨p,rfl,_⟩:=h;rfl
 ·refine⟨_,(Tj (Tu 1 Kz.nd (TM a L (Tn (Tg 0)))) (To (Tv (TF (Th (Tq (Tg 1)) (Th T.uH (Th (TF (Tn T.EK)) (Th (Ub M.lJ T.tuple (Th (M.fy L rfl (by rfl) T.sorted (by rfl) T.set (Tq (Tg 1))) Tr)) Tr)))))))),λds S Q h=>?_⟩;obtain⟨p,rfl,Y,Z,q⟩:=h;have e0:aK GQ [tD p]=[some (tD p),none]:=rfl;rw[e0];push_cast[true_and];refine⟨p,rfl,Y,Z,λn I h0 h1 h2 h3 O=>?_⟩;push_cast[jh,aq,bP,cX];refine⟨sz rfl,_,.inr rfl,λk x=>?_,λk x l hl=>?_,by rw[zbJ];lia,λU k1 u t W=>?_⟩
  ·obtain⟨m,j,rfl⟩:=zcu.mp x;exact⟨nu (O m j),EW m⟩
  ·obtain⟨m,_,rfl⟩:=zcu.mp x;obtain⟨o,_,rfl⟩:=zcu.mp hl;exact x8 m o
  ·obtain⟨i,G,rfl⟩:=oq k1;refine⟨_,rfl,?_⟩;push_cast[true_and];refine⟨sz rfl,aY (ED (es:=[1]) (b:=0)) (q n i ⟨⟨I,h0,λy=>by have:=u y;rw[zct,zct] at this;exact this⟩,by rw[zct] at t;exact t,zbg.mpr (zbg.mp W)⟩ (h1.same G λm j=>?_) h2 ?_ λm j=>O m (G m j))⟩
   ·obtain⟨d,hd,e⟩:=zcu.mp ((u (py (vD m))).mpr (zcu.mpr ⟨vD m,zcu.mpr ⟨m,j,rfl⟩,rfl⟩));obtain⟨o,v,rfl⟩:=zcu.mp hd;exact⟨o,v,e⟩
   ·have:=@sub_len yam (λ_ _=>Classical.propDecidable _) ((i.map vD).map py) ((I.map vD).map py) t λy X=>(u y).mp X;simp only[zbJ] at this;lia
open PySem L2 M M6
noncomputable abbrev uv:Stmt:=top 40
noncomputable abbrev AX:List Str:=["_law_ds","_law_at","_law_deep","_law_way","_law_number","_law_part_here","_law_parts","_law_k"]
noncomputable abbrev dM:=AX.take 3
theorem eO:aA AX dM (ah uv):=L2.bR
noncomputable abbrev AW:List Str:=["_law_cell","_law_deep"]
noncomputable abbrev kO:=AW
theorem LH:aA AW kO (ah (top 41)):=L2.bR
noncomputable def cap:Nat->Nat
 |0=>1
 |1=>3
 |2=>10
 |_=>21
theorem JO(k:Nat):1<=cap k:=by unfold cap;split<;>lia
theorem jy{ys:List Nat}{a:Nat}(h:ys[i]? =some a):fJ (nL ys) (i:Int)=some (.int (a:Int)):=cE (by rw[nL,zba,h];rfl)
theorem KL{ys:List Nat}{a:Nat}{Q:AK}(h:0<ys.length)(q:∀y∈ys,Q (.dat (.int (y:Int))) S):vU (.lst (nL ys)) (.int ((a:Int) % (ys.length:Int))) S Q:=by
 rw[show((a:Int) % (ys.length:Int))=((a % ys.length:Nat):Int) by lia];have e:=zcN a h;exact⟨_,jy (zak e),q _ (zby e)⟩
theorem uJ:∀(ps:List Pt)(p:Pt),nq (ps++[p])=nq ps+oc p
 |[],p=>by simp[nq]
 |q::ps,p=>by rw[zbw,nq,nq,uJ ps p];lia
theorem vn:∀(ps:List Pt)(p:Pt),wG (ps++[p])=max (wG ps) (dp p)
 |[],p=>by simp[wG]
 |q::ps,p=>by rw[zbw,wG,wG,vn ps p];lia
theorem qE:∀(ps:List Pt)(p:Pt),jq ps->fK p->jq (ps++[p])
 |[],p,_,h=>by simp[jq,h]
 |q::ps,p,g,h=>by
  rw[zbw,jq];rw[jq] at g;exact⟨g.1,qE ps p g.2 h⟩
def rM(k:Nat):AN:=λh S Q=>∃(e:List Nat)(a:Nat),h=[.lst (nL e),.int a,.int k]/\0<e.length/\e.length<=1000/\∀(p:Pt)(i:Nat),fK p->dp p<=k->oc p<=cap k->Q (.dat (.tup [tD p,.int i])) S
theorem Aq(T:Txt K mg C fi)(F:Src K mg "_law_part" dM uv)(t:Def P w K mg base 2 "_law_leaf" gO (av K rO))(k:Nat)(hk:k<=3)(i:Def P w K mg base (k+2) "_law_part" dM (av K (λds S Q=>∃j,j+1=k/\rM j ds S Q))):Def P w K mg base (k+3) "_law_part" dM (av K (rM k)):=by
 refine cJ F eO (λds S Q h=>?_) (λf cdv A outer s H E U=>?_)
 ·obtain⟨v,a,rfl,_⟩:=h;rfl
 ·refine⟨_,(Tj (Tu 3 eO.nd (Tt T8 (TY (Tg 0) (Tt T8 (Tg 1) (TN TZ T.len (Tn (Tg 0))))) (TY (TQ (Th Tp (Th Tp (Tn Tp)))) (TN (M.ER rfl) T.min (Th (Tg 2) (Tn Tp)))))) (Tj (Tu 4 eO.nd (TY (Tg 0) (Tt T8 (Tt TV (Tg 1) Tp) (TN TZ T.len (Tn (Tg 0)))))) (Tj (TJ (Tw Ux (Tg 3) Tp (aG _)) (To (Tv (TF (Th (UJ t (U.mono (by lia)) (by rfl) (Th (Tg 3) (Tn (Tg 4)))) (Th (Tt TV (Tg 1) Tp) Tr))))) TL) (Tj (TJ (Tw (TR U) (Tg 3) Tp (aG _)) (Tj (M.lG (UJ i (U.mono (by lia)) (by rfl) (Th (Tg 0) (Th (Tt TV (Tg 1) Tp) (Th (Tt UH (Tg 2) Tp) Tr)))) (Ui (n:=2) rfl (TU (TH 5 eO.nd) (TU (TH 1 eO.nd) Uj)))) (To (Tv (TF (Th (TF (Th Tz (Tn (Tg 5)))) (Tn (Tg 1))))))) TL) (Tj (Tu 1 eO.nd (Tt TV (Tg 1) Tp)) (Tj (Tu 6 eO.nd (T6 (TQ Tr))) (Tj (T4 PassesOwn.never rfl (Uy (by rfl) T.range (Th (Tt T8 (Tg 4) (TY (TQ (Th Tp (Th Tp (Th Tp (Tn Tp))))) (TN (M.ER rfl) T.min (Th (Tg 2) (Tn Tp))))) Tr)) (TH 7 eO.nd) (Tj (M.lG (UJ i (U.mono (by lia)) (by rfl) (Th (Tg 0) (Th (Tg 1) (Th (Tt UH (Tg 2) Tp) Tr)))) (Ui (n:=2) rfl (TU (TH 5 eO.nd) (TU (TH 1 eO.nd) Uj)))) (To (T9 (Us PySem.F.plainAttrs_list PySem.F.slot_list_append PySem.F.type_list_append UC (Tg 6) (Tn (Tg 5))))))) (To (Tv (TF (Th (TF (Th (TY (TQ (Th Tz (Tn Tz))) (Tt T8 (Tg 3) Tp)) (Th (Ub M.lJ T.tuple (Tn (Tg 6))) Tr))) (Tn (Tg 1))))))))))))),λds S Q h=>?_⟩;obtain⟨v,a,rfl,u,I,q⟩:=h;have e0:aK AX [.lst (nL v),.int a,.int k]=[some (.lst (nL v)),some (.int a),some (.int k),none,none,none,none,none]:=rfl;rw[e0];refine wZ λN h=>?_;push_cast[Ge];refine⟨v.length,by simp[fX,nL],by lia,KL u λO _=>?_⟩;have em:(if(2:Int)<(k:Int) then(2:Int) else(k:Int))=((min k 2:Nat):Int):=by split<;>lia
  push_cast[em];refine⟨sz rfl,?_⟩;obtain⟨b,hb,hb0,hb1⟩:∃b:Nat,fJ [D.int 5,D.int 8,D.int 9] ((min k 2:Nat):Int)=some (.int (b:Int))/\(k=0->b=5)/\5<=b/\b<=9:=by
   rcases(by lia:k=0∨k=1∨k=2∨k=3) with rfl|rfl|rfl|rfl
   ·exact⟨5,bP,λ_=>rfl,by lia,by lia⟩
   ·exact⟨8,cX,λh=>by lia,by lia,by lia⟩
   ·exact⟨9,at2,λh=>by lia,by lia,by lia⟩
   ·exact⟨9,at2,λh=>by lia,by lia,by lia⟩
  refine⟨_,hb,?_⟩;push_cast[true_and];refine⟨by lia,h _ _ ?_⟩;clear h;rw[show((O:Int) % (b:Int))=((O % b:Nat):Int) by lia];have hw:=zcN O (show 0<b by lia);generalize O % b=wy at hw⊢;refine wZ λN h=>?_;push_cast[true_and];refine⟨v.length,by simp[fX,nL],by lia,?_⟩;rw[show((a:Int)+1)=((a+1:Nat):Int) by lia];refine KL u λG _=>h _ _ ?_;clear h;by_cases h:wy<5
  ·refine gG (λQ q=>?_) ?_
   ·push_cast[true_and];exact qT (by lia) q
   push_cast[true_and];refine⟨wy,G,rfl,h,λl y=>⟨sz rfl,aY ?_ ?_⟩⟩
   ·have:=(Fb y).2.2;simp only[lF,b8,bL,this,zco]
   ·exact q (.lf l) (a+2) (by simp only[fK];exact y) (by simp[dp]) (by simp only[oc];exact JO k)
  ·refine b6 (λQ q=>?_) ?_
   ·push_cast[true_and];exact qF (by lia) q
   have hk0:k≠0:=λe=>by have:=hb0 e;lia
   obtain⟨j,rfl⟩:∃j,k=j+1:=⟨k - 1,by lia⟩
   have ab:cap j+2<=cap (j+1):=by
    rcases(by lia:j=0∨j=1∨j=2) with rfl|rfl|rfl<;>simp[cap]
   by_cases h7:wy=7
   ·refine gG (λQ q=>?_) ?_
    ·push_cast[true_and];exact qT (by lia) q
    push_cast[true_and];refine⟨j,rfl,v,a+1,?_,u,I,λp a' k1 k2 k3=>?_⟩
    ·simp only[zcP.injEq,D.int.injEq,and_true,true_and];lia
    ·push_cast[rA,iN,rB];refine⟨_,rfl,rfl,_,_,rfl,_,_,rfl,rfl,sz rfl,sz rfl,aY ?_ ?_⟩
     ·simp only[b8,bL,gh,zco]
     ·exact q (.many p) a' (by simp only[fK];exact k1) (by simp only[dp];lia) (by simp only[oc];lia)
   ·refine b6 (λQ q=>?_) ?_
    ·push_cast[true_and];exact qF (by lia) q
    push_cast[cA,dW,o6,Ge];have em4:(if(3:Int)<((j+1:Nat):Int) then(3:Int) else((j+1:Nat):Int))=((j+1:Nat):Int):=by rw[yIn (by lia)]
    rw[em4];obtain⟨c,hc,Z,hc1⟩:∃c:Nat,fJ [D.int 1,D.int 3,D.int 4,D.int 3] ((j+1:Nat):Int)=some (.int (c:Int))/\0<c/\c<=4/\(c - 1)*cap j+1<=cap (j+1):=by
     rcases(by lia:j=0∨j=1∨j=2) with rfl|rfl|rfl
     ·exact⟨3,cX,by lia,by lia,by decide⟩
     ·exact⟨4,at2,by lia,by lia,by decide⟩
     ·exact⟨3,yI,by lia,by lia,by decide⟩
    have hm:=zcN G Z;refine⟨sz rfl,sz rfl,⟨_,hc,?_⟩⟩;simp only[Gi,lF];refine⟨by lia,_,rfl,by lia,by lia,?_⟩;rw[show((G:Int) % (c:Int)).toNat=G % c by lia];generalize G % c=m at hm⊢;refine bf (λrest W S'=>∃(o:List Pt)(a:Nat)(Y X:Option D),W=[some (.lst (nL v)),some (.int a),some (.int ((j+1:Nat):Int)),some (.int wy),some (.int G),Y,some (.loc S.length),X]/\S'=S++[some (.lst (nR o))]/\o.length+rest.length=m/\jq o/\wG o<=j/\nq o<=o.length*cap j) ?_ ?_ _ _ _
     ⟨[],a+2,none,none,rfl,rfl,by simp[cW],trivial,zcJ _,zcJ _⟩
    ·rintro W S' ⟨o,a,Y,X,rfl,rfl,y,h1,h2,h3⟩;refine⟨trivial,?_⟩;push_cast[pN];refine⟨sz rfl,by decide,?_⟩;rw[show((wy:Int) % 2)=((wy % 2:Nat):Int) by lia];have L:nq o+1<=cap (j+1):=by
      have:o.length*cap j<=(c - 1)*cap j:=Nat.mul_le_mul_right _ (by simp at y;lia);lia
     refine pick (by show wy % 2<2;lia) λe he=>?_;have es:aS (S++[some (.lst (nR o))]) (.loc S.length)=.lst (nR o):=by simp[aS,MO.d]
     rw[es];simp only[zch,zbA,or_false] at he;rcases he with rfl|rfl
     ·refine⟨sz rfl,sz rfl,gu ?_ (q (.seq o) a (by simp only[fK];exact h1) (by simp only[dp];lia) (by simp only[oc];exact L))⟩;simp only[lF,b8,bL,jP,zco]
     ·refine⟨sz rfl,sz rfl,gu ?_ (q (.alt o) a (by simp only[fK];exact h1) (by simp only[dp];lia) (by simp only[oc];exact L))⟩;simp only[lF,b8,bL,jP,zco]
    ·rintro x rest W S' N' ⟨o,a,Y,X,rfl,rfl,y,h1,h2,h3⟩ hN';refine⟨trivial,?_⟩;push_cast[rA,iN,rB,wJ];refine⟨j,rfl,v,a,?_,u,I,λp a' k1 k2 k3=>?_⟩
     ·simp only[zcP.injEq,D.int.injEq,and_true,true_and];lia
     ·refine⟨_,rfl,rfl,_,_,rfl,_,_,rfl,rfl,by simp[aS,MO.d,Fi],S.length,nR o,_,rfl,rfl,by simp,by rw[gg,yaf];simp at y;lia,?_⟩;rw[zau _ _ (zcI _),zcB];refine hN' _ _ ⟨o++[p],a',_,_,rfl,?_,by simp at y⊢;lia,qE o p h1 k1,by rw[vn];lia,?_⟩
      ·rw[List.set_cons_zero,cP,cP,zbS];rfl
      ·rw[uJ,zaM,Nat.add_mul];show _<=_+1*cap j;lia
theorem Ju{k:Nat}(F:Src K mg "_law_part" dM uv)(h:∀ds S Q,¬sp ds S Q):Def P w K mg base (k+1) "_law_part" dM (av K sp):=
 F.def eO (λvs H Q E z=>by obtain⟨_,_,_,_,_,_,q,_⟩:=z;exact(h _ _ _ q).elim) λf a A outer s H vs Q E e z=>by obtain⟨_,_,_,_,_,_,q,_⟩:=z;exact(h _ _ _ q).elim
theorem FH(T:Txt K mg C fi)(F:Src K mg "_law_part" dM uv)(a:Def P w K mg base 2 "_law_leaf" gO (av K rO)):∀k,k<=3->Def P w K mg base (k+3) "_law_part" dM (av K (rM k))
 |0,h=>Aq T F a 0 h (Ju F λi S Q ⟨j,e,_⟩=>by lia)
 |k+1,h=>Aq T F a (k+1) h ((FH T F a k (by lia)).imp λvs H Q E z=>by
   obtain⟨w,i,S,l,ok,rep,⟨j,e,q⟩,bk⟩:=z;obtain rfl:j=k:=by lia
   exact⟨w,i,S,l,ok,rep,q,bk⟩)
def Dr:AN:=λa S Q=>∃z:Int,a=[.int z,.int 3]/\∀p:Pt,fK p->dp p<=3->oc p<=21->Q (.dat (tD p)) S
theorem NH(T:Txt K mg C fi)(F:Src K mg "_law_pattern" kO (top 41))(a:Def P w K mg base 1 "_law_draws" fc (av K ng))(e:Def P w K mg base 6 "_law_part" dM (av K (rM 3))):Def P w K mg base 7 "_law_pattern" kO (av K Dr):=by
 refine cJ F LH (λy S Q h=>?_) (λf G A outer s H E i=>?_)
 ·obtain⟨z,rfl,_⟩:=h;rfl
 ·refine⟨_,(To (Tv (Tq (TM e i (Th (TM a i (Th (Tg 0) (Th (Tt Ug (TQ (Tn Tp)) Tp) Tr))) (Th Tp (Tn (Tg 1)))))))),λy S Q h=>?_⟩;obtain⟨z,rfl,q⟩:=h;have x:aK AW [.int z,.int 3]=[some (.int z),some (.int 3)]:=rfl;rw[x];push_cast[vS];have v:(zcb (50:Int).toNat [D.int 720]).flatten=nL (zcb 50 720):=rfl;refine⟨sz rfl,by decide,by decide,by decide,z,zcb 50 720,?_,λn t=>by rw[List.eq_of_mem_replicate t];lia,by simp,λl j u=>?_⟩
  ·simp only[MO.d,v]
  ·refine⟨l,0,rfl,by rw[j];simp,by rw[j];simp,λp I k1 o m=>?_⟩;push_cast[aq,bP];exact aY (gh p) (q p k1 o m)
open PySem L2 M M6
noncomputable abbrev wc:List Str:=["_law_machine","_law_stands","_law_marks_here","_law_found","_law_at","_law_one","_law_leaf_here","_law_other"]
noncomputable abbrev iP:=wc.take 3
theorem gm:aA wc iP (ah (top 44)):=L2.bR
noncomputable abbrev GU:List Str:=["_law_machine","_law_stands","_law_side","_law_word","_law_found","_law_one","_law_leaf_here","_law_other"]
noncomputable abbrev pR:=GU.take 4
theorem uu:aA GU pR (ah (top 45)):=L2.bR
theorem C4{ns:List Nat}(h:ns.length<=100):nQ 1 (.lst (nL ns))=true/\nQ 1 (.tup (nL ns))=true:=by
 have:(nL ns).all (nQ 0)=true:=by
  rw[zbu];intro x a;obtain⟨k,_,rfl⟩:=zcu.mp a;rfl
 simp only[nQ,this,zcp,decide_eq_true_eq];rw[nL,zbJ];exact⟨h,h⟩
theorem yj{k:Nat}:∀ns:List Nat,inD (.int (k:Int)) (nL ns)=decide (k∈ns)
 |[]=>rfl
 |n::ns=>by
  have a:=yj (k:=k) ns;unfold inD nL at a⊢;rw[zci,zcj,a];have e:PyData.eqv (py (.int (n:Int))) (py (.int (k:Int)))=decide (k=n):=by
   simp only[py,PyData.eqv];by_cases h:k=n
   ·subst h;simp
   ·rw[yDf h];simp;lia
  rw[e];by_cases h1:k=n<;>by_cases h2:k∈ns<;>simp[h1,h2]
theorem lT{y:D}{k:Nat}{ns:List Nat}{Q:AK}(e:aS S y=.lst (nL ns)∨aS S y=.tup (nL ns))(a:ns.length<=100)(q:Q (.dat (.bl (neg != decide (k∈ns)))) S):tV neg (.int (k:Int)) y S Q:=by
 unfold tV;rcases e with e|e<;>rw[e]
 ·exact⟨eN (n:=0) (d:=.int (k:Int)) rfl (by decide),eN (C4 a).1 (by decide),by rw[show aS S (.int (k:Int))=.int k from rfl,yj];exact q⟩
 ·exact⟨eN (n:=0) (d:=.int (k:Int)) rfl (by decide),eN (C4 a).2 (by decide),by rw[show aS S (.int (k:Int))=.int k from rfl,yj];exact q⟩
theorem Nn{y:D}{ns:List Nat}{a:Nat}{Q:AK}(e:aS S y=.lst (nL ns))(h:ns[i]? =some a)(q:Q (.dat (.int a)) S):vU y (.int (i:Int)) S Q:=by
 unfold vU;rw[e];exact⟨_,jy h,q⟩
theorem sJ{i j:Str}{Q:AK}:Hj (.str i) (.str j) S Q=Q (.dat (.bl (!decide (i=j)))) S:=rfl
theorem FA{i j:Bool}{Q:AK}:J0 (.bl i) (.bl j) S Q=Q (.dat (.bl (decide (i=j)))) S:=rfl
def ze:AN:=λj S Q=>∃(n b:Nat)(i:List Nat)(e:List Mv)(a:List Nat)(ms:List Str),j=[mD n b i e,.lst (nL a),.lst (ms.map D.str)]/\n<=60/\(∀m∈e,Bc n m)/\e.length<=60/\(∀s∈a,s<n)/\a.Nodup/\texts ms/\
 ∀h:List Nat,h.Nodup->(∀x,x∈h↔Reach e ms a x)->Q (.new (.lst (nL h))) S
theorem Jy(T:Txt K mg C fi)(F:Src K mg "_law_still" iP (top 44)):Def P w K mg base 1 "_law_still" iP (av K ze):=by
 refine cJ F gm (λds S Q h=>?_) (λf cdv A outer s H E G=>?_)
 ·obtain⟨n,b,X,t,y,ms,rfl,_⟩:=h;rfl
 ·refine⟨_,(Tj (Tu 3 gm.nd (T6 (Ub UK T.list (Tn (Tg 1))))) (Tj (Tu 4 gm.nd Tp) (Tj (M.fR PassesOwn.never (Tw Ux (Tg 4) (TN TZ T.len (Tn (Tg 3))) (aG _)) (Tj (T4 PassesOwn.never rfl (TX (Tq (Tg 0))) (Ui (n:=3) rfl (TU (TH 5 gm.nd) (TU (TH 6 gm.nd) (TU (TH 7 gm.nd) Uj)))) (To (TJ (Ud (UD (Tw (TR G) (Tg 5) (TY (Tg 3) (Tg 4)) (aG _)) (UD (Tw (UL G) (Tg 7) (Tg 3) rfl) (UW (Tw (Uz G) (Tq (Tg 6)) Tz (aG _)))))) (To (TJ (Ud (Ue (Tw (TR G) (Tq (Tg 6)) Tz (aG _)) (Ul (Tw (TR G) (T5 (Uk G) (Tq (Tg 6)) (Tg 2) rfl) (T5 (TR G) (Tq (Tg 6)) Tz (aG _)) (aG _))))) (To (T9 (Us PySem.F.plainAttrs_list PySem.F.slot_list_append PySem.F.type_list_append UC (Tg 3) (Tn (Tg 7))))) TL)) TL))) (To (Tu 4 gm.nd (Tt TV (Tg 4) Tp))))) (To (Tv (Tg 3)))))),λds S Q h=>?_⟩;obtain⟨n,b,X,t,y,ms,rfl,n6,hmv,hl,hst,hsn,hms,q⟩:=h;have e0:aK wc [mD n b X t,.lst (nL y),.lst (ms.map D.str)]=[some (mD n b X t),some (.lst (nL y)),some (.lst (ms.map D.str)),none,none,none,none,none]:=rfl;rw[e0];push_cast[cA,ji];have yI:∀a:MO,(S++[some a])[S.length]? =some (some a):=λa=>by simp
  have LC:∀a c:MO,(S++[some a]).set S.length (some c)=S++[some c]:=λa c=>by rw[zau _ _ (zcI _)];simp
  have w9:∀ds:List D,aS (S++[some (.lst ds)]) (.loc S.length)=.lst ds:=λa=>by simp only[aS,yI];rfl
  obtain⟨W,hW⟩:∃W:Nat->bx->aL->Prop,W=λμ Y S2=>∃(i:Nat)(j:List Nat)(v u I:Option D),Y=[some (mD n b X t),some (.lst (nL y)),some (.lst (ms.map D.str)),some (.loc S.length),some (.int i),v,u,I]/\S2=S++[some (.lst (nL j))]/\μ=n - i/\i<=j.length/\
      j.Nodup/\(∀s∈y,s∈j)/\(∀k∈j,Reach t ms y k)/\(∀m∈t,m.1∈j.take i->hold m.2.1 ms=true->m.2.2∈j):=⟨_,rfl⟩
  refine⟨W,⟨n - 0,by rw[hW];exact⟨0,y,none,none,none,rfl,rfl,rfl,zcJ _,hsn,λs hs=>hs,λk Z=>.base Z,λm hm h1=>by simp at h1⟩⟩,?_⟩;intro μ Y S2 hw;rw[hW] at hw;obtain⟨i,j,v,u,I,rfl,rfl,rfl,hi,hn,h1,h2,h3⟩:=hw;have hlt:∀k∈j,k<n:=λk Z=>(h2 k Z).lt hmv hst;have hkl:=aW n j hn hlt;push_cast[true_and];refine⟨j.length,by rw[w9];simp[fX,nL],ee (λhw=>?_) (λhw=>?_)⟩
  ·have hw:i<j.length:=by have:=of_decide_eq_true hw;lia
   obtain⟨a,ea⟩:∃a,j[i]? =some a:=⟨_,zak hw⟩
   obtain⟨N,hN⟩:∃N:bx->aL->Prop,N=λY S2=>∃(o:List Nat)(v u I:Option D),Y=[some (mD n b X t),some (.lst (nL y)),some (.lst (ms.map D.str)),some (.loc S.length),some (.int ((i+1:Nat):Int)),v,u,I]/\S2=S++[some (.lst (nL o))]/\i+1<=o.length/\
      o.Nodup/\(∀s∈y,s∈o)/\(∀k∈o,Reach t ms y k)/\(∀m∈t,m.1∈o.take (i+1)->hold m.2.1 ms=true->m.2.2∈o):=⟨_,rfl⟩
   refine⟨N,?_,?_⟩
   ·rw[hN,hW];rintro δ' S3 ⟨o,w5,w6,w7,g1,g2,g3,g4⟩;exact⟨n - (i+1),by lia,i+1,o,w5,w6,w7,g1,g2,rfl,g3,g4⟩
   ·push_cast[dW,cI,mD,aq,K32.yI,bT];refine bf (λrest Y S3=>∃(qm L:List Mv)(ex:List Nat)(v u I:Option D),rest=L.map vD/\qm++L=t/\Y=[some (mD n b X t),some (.lst (nL y)),some (.lst (ms.map D.str)),some (.loc S.length),some (.int i),v,u,I]/\S3=S++[some (.lst (nL (j++ex)))]/\(j++ex).Nodup/\(∀k∈j++ex,Reach t ms y k)/\(∀m∈qm,m.1=a->hold m.2.1 ms=true->m.2.2∈j++ex)) ?_ ?_ _ _ _ ⟨[],t,[],v,u,I,rfl,rfl,rfl,by rw[zbK],by rw[zbK];exact hn,by rw[zbK];exact h2,by simp⟩
    ·rintro Y S3 ⟨qm,L,ex,v,u,I,G,he,rfl,rfl,g1,g2,g3⟩;have:L=[]:=by cases L with
      |nil=>rfl
      |cons _ _=>simp at G
     subst this;rw[zbK] at he;subst he;refine⟨trivial,?_⟩;push_cast[true_and];rw[hN];refine⟨j++ex,_,_,_,rfl,rfl,by rw[zaM];lia,g1,λs hs=>zaz _ (h1 s hs),g2,λm hm k1 k2=>?_⟩;rw[List.take_append_of_le_length (by lia),List.take_succ,ea] at k1;rcases zbI.mp k1 with h|h
     ·exact zaz _ (h3 m hm h k2)
     ·exact g3 m hm (by simpa using h) k2
    ·rintro x rest Y S3 N' ⟨qm,L,ex,v,u,I,G,he,rfl,rfl,g1,g2,g3⟩ hN';cases L with
     |nil=>simp at G
     |cons r L=>
      rw[zci] at G;injection G with e1 e2;subst e1;subst e2;have hrm:r∈t:=by rw[<-he];simp
      have ok:=hmv r hrm;have he':(qm++[r])++L=t:=by rw[zbc];exact he
      have ab:=aW n _ g1 λk Z=>(g2 k Z).lt hmv hst;have l:(r.1=a->hold r.2.1 ms=true->r.2.2∈j++ex)->∀v u I,N' [some (mD n b X t),some (.lst (nL y)),some (.lst (ms.map D.str)),some (.loc S.length),some (.int i),v,u,I] (S++[some (.lst (nL (j++ex)))]):=λhh v u I=>
       hN' _ _ ⟨qm++[r],L,ex,_,_,_,rfl,he',rfl,rfl,g1,g2,λm hm=>by
        rcases zbI.mp hm with h|h
        ·exact g3 m h
        ·rw[zaO.mp h];exact hh⟩
      have O:r.1=a->hold r.2.1 ms=true->r.2.2 ∉ j++ex->∀v u,wJ "list" nG (dR 3) (jz (dR 7) kH) [some (mD n b X t),some (.lst (nL y)),some (.lst (ms.map D.str)),some (.loc S.length),some (.int i),v,u,some (.int r.2.2)] (S++[some (.lst (nL (j++ex)))]) λx S1=>N' [some (mD n b X t),some (.lst (nL y)),some (.lst (ms.map D.str)),some (.loc S.length),some (.int i),v,u,some (.int r.2.2)] S1:=λk1 k2 k3 v u=>by
       push_cast[wJ];refine⟨by rw[w9];rfl,S.length,_,_,rfl,rfl,yI _,by rw[nL,zbJ,yaf];lia,?_⟩;rw[LC,show nL (j++ex)++[D.int (r.2.2:Int)]=nL (j++(ex++[r.2.2])) by simp[nL]];refine hN' _ _ ⟨qm++[r],L,ex++[r.2.2],_,_,_,rfl,he',rfl,rfl,?_,λk Z=>?_,λm hm e1 e2=>?_⟩
       ·rw[<-zbc];exact oK g1 k3
       ·rw[<-zbc] at Z;rcases zbI.mp Z with h|h
        ·exact g2 k h
        ·rw[zaO.mp h];exact .go (k1▸g2 a (zaz _ (zaB ea))) hrm k2
       ·rw[<-zbc];rcases zbI.mp hm with h|h
        ·exact zaz _ (g3 m h e1 e2)
        ·rw[zaO.mp h];simp
      refine⟨trivial,_,rfl,rfl,_,_,rfl,_,_,rfl,_,_,rfl,rfl,?_⟩;push_cast[true_and];refine Nn (w9 _) (show(j++ex)[i]? =some a by rw[zae hw];exact ea) ?_;show J0 (D.int (r.1:Int)) (D.int (a:Int)) _ _;rw[Al];refine⟨_,rfl,ee (λc1=>?_) (λc1=>l (λe=>absurd (yDt (by rw[e])) c1) _ _ _)⟩;have c1:r.1=a:=by have:=of_decide_eq_true c1;lia
      refine lT (.inl (w9 _)) (by lia) ⟨_,rfl,ee (λc2=>?_) (λc2=>l (λ_ _=>Decidable.byContradiction λh=>c2 (by rw[yDf h];rfl)) _ _ _)⟩;have c2:r.2.2 ∉ j++ex:=by simpa using c2
      have U:=ok.2.1;cases hlf:r.2.1 with
      |stay=>
       rw[hlf] at l O U;push_cast[lD,aq,K32.bP,K32.cX,sJ];rw[yIp (by decide),yIp (by decide)];exact O c1 rfl c2 _ _
      |step c x=>
       rw[hlf] at l O U;push_cast[lD,aq,K32.bP,K32.cX,sJ];rw[yIn (by decide)];exact l (λ_ h=>by cases h) _ _ _
      |mk c m=>
       rw[hlf] at l O U;push_cast[lD,aq,K32.bP,K32.cX,sJ];rw[yIp (by cases c<;>decide),yIn (by cases c<;>decide)];refine lR (n:=0) (ss:=ms) (oQ U) (by decide) (zbu.mpr hms.2) ?_ (by have:=hms.1;lia);rw[kc];show J0 (.bl _) (.bl _) _ _;rw[FA];refine⟨_,rfl,ee (λc3=>O c1 ?_ c2 _ _) (λc3=>l (λ_ h=>absurd ?_ c3) _ _ _)⟩
       ·simp only[hold];cases c<;>cases hd:decide (m∈ms)<;>rw[hd] at c3<;>first|rfl|(exact absurd c3 (by decide))
       ·simp only[hold] at h;cases c<;>cases hd:decide (m∈ms)<;>rw[hd] at h<;>first|decide|(exact absurd h (by decide))
  ·have hw:i=j.length:=by
    have:¬((i:Int)<(j.length:Int)):=λh=>hw (yDt h);lia
   subst hw;rw[zbv] at h3;refine rX (n:=S.length) (zcI _) (cQ j) (yI _) (by simp) (q j hn λx=>⟨h2 x,λhx=>hx.closed h1 h3⟩)
def Kw:AN:=λj S Q=>∃(n b:Nat)(i:List Nat)(e:List Mv)(a:List Nat)(sd wd:Str),j=[mD n b i e,.lst (nL a),.str sd,.str wd]/\n<=60/\(∀m∈e,Bc n m)/\e.length<=60/\(∀s∈a,s<n)/\a.length<=60/\fU wd=true/\
 ∀h:List Nat,h.Nodup->(∀x,x∈h↔Oo e a sd wd x)->Q (.new (.lst (nL h))) S
theorem QG(T:Txt K mg C fi)(F:Src K mg "_law_by" pR (top 45)):Def P w K mg base 1 "_law_by" pR (av K Kw):=by
 refine cJ F uu (λds S Q h=>?_) (λf cdv A outer s H E t=>?_)
 ·obtain⟨n,b,W,o,j,sd,wd,rfl,_⟩:=h;rfl
 ·refine⟨_,(Tj (Tu 4 uu.nd (T6 (TQ Tr))) (Tj (T4 PassesOwn.never rfl (TX (Tq (Tg 0))) (Ui (n:=3) rfl (TU (TH 5 uu.nd) (TU (TH 6 uu.nd) (TU (TH 7 uu.nd) Uj)))) (To (TJ (Ud (UD (Tw (Uk t) (Tg 5) (Tg 1) rfl) (UD (Tw (TR t) (Tq (Tg 6)) Tz (aG _)) (UD (Tw (TR t) (Tq (Tg 6)) (Tg 2) (aG _)) (UW (Tw (Uk t) (Tq (Tg 6)) (TF (Th Tz (Tn (Tg 3)))) rfl)))))) (To (TJ (Tw (UL t) (Tg 7) (Tg 4) rfl) (To (T9 (Us PySem.F.plainAttrs_list PySem.F.slot_list_append PySem.F.type_list_append UC (Tg 4) (Tn (Tg 7))))) TL)) TL))) (To (Tv (Tg 4))))),λds S Q h=>?_⟩;obtain⟨n,b,W,o,j,sd,wd,rfl,n6,hmv,hl,hst,hsl,hwd,q⟩:=h;have e0:aK GU [mD n b W o,.lst (nL j),.str sd,.str wd]=[some (mD n b W o),some (.lst (nL j)),some (.str sd),some (.str wd),none,none,none,none]:=rfl;rw[e0];push_cast[cA,dW,cI,mD,aq,K32.yI,bT];have X:∀a:MO,(S++[some a])[S.length]? =some (some a):=λa=>by simp
  have Bu:∀a c:MO,(S++[some a]).set S.length (some c)=S++[some c]:=λa c=>by rw[zau _ _ (zcI _)];simp
  have ur:∀ds:List D,aS (S++[some (.lst ds)]) (.loc S.length)=.lst ds:=λa=>by simp only[aS,X];rfl
  refine⟨zcJ _,bf (λrest δ S3=>∃(L l:List Mv)(i:List Nat)(v u Y:Option D),rest=l.map vD/\L++l=o/\δ=[some (mD n b W o),some (.lst (nL j)),some (.str sd),some (.str wd),some (.loc S.length),v,u,Y]/\S3=S++[some (.lst (nL i))]/\i.Nodup/\(∀k∈i,k<n)/\∀x,x∈i↔∃m∈L,m.1∈j/\take m.2.1 sd wd=true/\m.2.2=x) ?_ ?_ _ _ _ ⟨[],o,[],none,none,none,rfl,rfl,rfl,rfl,.nil,by simp,by simp⟩⟩
  ·rintro δ S3 ⟨L,l,i,v,u,Y,t,he,rfl,rfl,hn,G,Z⟩;have:l=[]:=by cases l with
    |nil=>rfl
    |cons _ _=>simp at t
   subst this;rw[zbK] at he;subst he;refine⟨trivial,?_⟩;push_cast[true_and];exact rX (n:=S.length) (zcI _) (cQ i) (X _) (by simp) (q i hn Z)
  ·rintro x rest δ S3 N' ⟨L,l,i,v,u,Y,t,he,rfl,rfl,hn,G,Z⟩ hN';cases l with
   |nil=>simp at t
   |cons r l=>
    rw[zci] at t;injection t with e1 e2;subst e1;subst e2;have hrm:r∈o:=by rw[<-he];simp
    have ok:=hmv r hrm;have he':(L++[r])++l=o:=by rw[zbc];exact he
    have hkl:=aW n i hn G;have e:((r.1∈j/\take r.2.1 sd wd=true)->r.2.2∈i)->∀v u Y,N' [some (mD n b W o),some (.lst (nL j)),some (.str sd),some (.str wd),some (.loc S.length),v,u,Y] (S++[some (.lst (nL i))]):=λhh v u Y=>
     hN' _ _ ⟨L++[r],l,i,_,_,_,rfl,he',rfl,rfl,hn,G,λx=>⟨λh=>by
       obtain⟨m,h1,h2⟩:=(Z x).mp h;exact⟨m,zaz _ h1,h2⟩,λ⟨m,h1,h2,h3,U⟩=>by
       rcases zbI.mp h1 with h|h
       ·exact(Z x).mpr ⟨m,h,h2,h3,U⟩
       ·rw[zaO.mp h] at h2 h3 U;rw[<-U];exact hh ⟨h2,h3⟩⟩⟩
    have I:r.1∈j->take r.2.1 sd wd=true->r.2.2 ∉ i->∀v u,wJ "list" nG (dR 4) (jz (dR 7) kH) [some (mD n b W o),some (.lst (nL j)),some (.str sd),some (.str wd),some (.loc S.length),v,u,some (.int r.2.2)] (S++[some (.lst (nL i))]) λx S1=>N' [some (mD n b W o),some (.lst (nL j)),some (.str sd),some (.str wd),some (.loc S.length),v,u,some (.int r.2.2)] S1:=λk1 k2 k3 v u=>by
     push_cast[wJ];refine⟨by rw[ur];rfl,S.length,_,_,rfl,rfl,X _,by rw[nL,zbJ,yaf];lia,?_⟩;rw[Bu,show nL i++[D.int (r.2.2:Int)]=nL (i++[r.2.2]) by simp[nL]];refine hN' _ _ ⟨L++[r],l,i++[r.2.2],_,_,_,rfl,he',rfl,rfl,oK hn k3,λk hk=>?_,λx=>⟨λh=>?_,λ⟨m,h1,h2,h3,U⟩=>?_⟩⟩
     ·rcases zbI.mp hk with h|h
      ·exact G k h
      ·rw[zaO.mp h];exact ok.2.2
     ·rcases zbI.mp h with h|h
      ·obtain⟨m,h1,h2⟩:=(Z x).mp h;exact⟨m,zaz _ h1,h2⟩
      ·exact⟨r,by simp,k1,k2,(zaO.mp h).symm⟩
     ·rcases zbI.mp h1 with h|h
      ·exact zaz _ ((Z x).mpr ⟨m,h,h2,h3,U⟩)
      ·rw[zaO.mp h] at U;rw[<-U];simp
    refine⟨trivial,_,rfl,rfl,_,_,rfl,_,_,rfl,_,_,rfl,rfl,?_⟩;push_cast[true_and];refine lT (.inl rfl) (by lia) ⟨_,rfl,ee (λc1=>?_) (λc1=>e (λh=>absurd (by rw[yDt h.1];rfl) c1) _ _ _)⟩;have c1:r.1∈j:=by simpa using c1
    have y:=ok.2.1;cases O:r.2.1 with
    |stay=>
     rw[O] at e I y;push_cast[lD,aq,K32.bP,K32.cX,K32.at2];rw[yIn (by decide)];exact e (λh=>by cases h.2) _ _ _
    |mk c m=>
     rw[O] at e I y;push_cast[lD,aq,K32.bP,K32.cX,K32.at2];rw[yIn (by cases c<;>decide)];exact e (λh=>by cases h.2) _ _ _
    |step c x=>
     rw[O] at e I y;push_cast[lD,aq,K32.bP,K32.cX,K32.at2];rw[yIp (by decide)];refine ee (λc2=>?_) (λc2=>e (λh=>absurd ?_ c2) _ _ _)
     ·refine⟨sz rfl,eZ (n:=0) (ss:=["*",wd]) (yW y) (by decide) (by simp only[zck,List.all_nil,hwd,zcp];decide+kernel) ⟨_,rfl,ee (λc3=>?_) (λc3=>e (λh=>absurd ?_ c3) _ _ _)⟩ (by simp)⟩
      ·have ht:take (.step c x) sd wd=true:=by
        simp only[B5,zcj,List.any_nil,zcm,KY,zcc] at c3;simp only[take,c2,zcn];rw[Bool.or_comm];exact c3
       refine lT (.inl (ur _)) (by lia) ⟨_,rfl,ee (λc4=>?_) (λc4=>e (λ_=>Decidable.byContradiction λh=>c4 (by rw[yDf h];rfl)) _ _ _)⟩;exact I c1 ht (by simpa using c4) _ _
      ·have h:=h.2;simp only[take,zbF] at h;simp only[B5,zcj,List.any_nil,zcm,KY,zcc];rw[Bool.or_comm];exact h.2
     ·have h:=h.2;simp only[take,zbF] at h;exact h.1
open PySem PySem.Spec L2 M M6 PyProof.Rows
noncomputable abbrev uw:Stmt:=inClass (top 29) 0
noncomputable abbrev A5:List Str:=["self"]
noncomputable abbrev jk:=A5
theorem LN:aA A5 jk (ah uw):=L2.bR
noncomputable abbrev DX:Stmt:=inClass (top 29) 1
noncomputable abbrev AV:List Str:=["self","name","marks"]
noncomputable abbrev kM:=AV
theorem LG:aA AV kM (ah DX):=L2.bR
noncomputable abbrev DW:Stmt:=inClass (top 29) 3
noncomputable abbrev AU:List Str:=["self","one","word","other"]
noncomputable abbrev kL:=AU
theorem LF:aA AU kL (ah DW):=L2.bR
noncomputable abbrev Mb:Stmt:=inClass (top 29) 8
noncomputable abbrev GN:List Str:=["self","knot"]
noncomputable abbrev pP:=GN
theorem O9:aA GN pP (ah Mb):=L2.bR
noncomputable abbrev Mg:Stmt:=inClass (top 29) 9
noncomputable abbrev GV:List Str:=["self","one","word","other"]
noncomputable abbrev pS:=GV
theorem Pb:aA GV pS (ah Mg):=L2.bR
noncomputable abbrev DZ:Stmt:=inClass (top 29) 13
noncomputable abbrev AY:List Str:=["self","name"]
noncomputable abbrev jj:=AY
theorem LI:aA AY jj (ah DZ):=L2.bR
noncomputable abbrev D5:Stmt:=inClass (top 29) 14
noncomputable abbrev A3:List Str:=["self","name","marks"]
noncomputable abbrev kR:=A3
theorem LM:aA A3 kR (ah D5):=L2.bR
noncomputable abbrev zC:Stmt:=inClass (top 29) 15
noncomputable abbrev tT:List Str:=["self","one","word","other"]
noncomputable abbrev kQ:=tT
theorem LL:aA tT kQ (ah zC):=L2.bR
abbrev J8(a b:Str):Prop:=a.cps.toList<b.cps.toList
theorem rQ(a:Str):¬J8 a a:=List.lt_irrefl _
theorem LA{a b:Str}(h:¬J8 a b)(g:¬J8 b a):a=b:=by
 have e:a.cps.toList=b.cps.toList:=List.le_antisymm (List.not_lt.mp g) (List.not_lt.mp h);obtain⟨a⟩:=a;obtain⟨b⟩:=b;have e:a.toList=b.toList:=e;rw[Array.toList_inj.mp e]
def SU(l:List Str):Prop:=l.Pairwise J8
theorem zG:∀(l:List Str)(p:Str),risingS p l=true->(p::l).Pairwise λa b=>¬J8 b a
 |[],p,_=>List.pairwise_singleton ..
 |x::r,p,h=>by
  have h:(!ltCps x.cps.toList p.cps.toList&&risingS x r)=true:=h;rw[zbF] at h;have j:=zG r x h.2;have m:¬J8 x p:=by
   have:=h.1;rw[ltCps_eq] at this;simpa using this
  refine zaQ.mpr ⟨λy e=>?_,j⟩;rcases zch.mp e with rfl|e
  ·exact m
  ·intro i;have h2:¬J8 y x:=(zaQ.mp j).1 y e;exact m (List.lt_of_le_of_lt (List.not_lt.mp h2) i)
theorem Br{l:List Str}(h:sortedS l=true):l.Pairwise λa b=>¬J8 b a:=by
 cases l with
 |nil=>exact .nil
 |cons x r=>exact zG r x h
theorem Kq{l:List Str}(e:l.Nodup)(h:sortedS l=true):SU l:=by
 have h2:l.Pairwise λa b=>a≠b:=e;refine((Br h).and h2).imp λ{a b} ⟨h1,h2⟩=>?_;by_cases c:J8 a b
 ·exact c
 ·exact absurd (LA c h1) h2
theorem Kr:∀{l m:List Str},SU l->SU m->(∀y,y∈l↔y∈m)->l=m
 |[],[],_,_,_=>rfl
 |[],y::m,_,_,h=>by have:=(h y).mpr (by simp);simp at this
 |x::l,[],_,_,h=>by have:=(h x).mp (by simp);simp at this
 |x::l,y::m,hl,hm,h=>by
  have h1:=zaQ.mp hl;have h2:=zaQ.mp hm;have e:x=y:=by
   have a:=(h x).mp (by simp);have b:=(h y).mpr (by simp);rcases zch.mp a with a|a
   ·exact a
   ·rcases zch.mp b with b|b
    ·exact b.symm
    ·exact absurd (List.lt_trans (h1.1 y b) (h2.1 x a)) (rQ x)
  subst e;rw[Kr (m:=m) h1.2 h2.2 λz=>?_];have:=h z;simp only[zch] at this;constructor
  ·intro hz;rcases this.mp (.inr hz) with e|e
   ·subst e;exact absurd (h1.1 z hz) (rQ z)
   ·exact e
  ·intro hz;rcases this.mpr (.inr hz) with e|e
   ·subst e;exact absurd (h2.1 z hz) (rQ z)
   ·exact e
theorem Hz{l m n:List Str}(a:n.Nodup)(h1:l.Perm n)(h2:m.Perm n)(s1:sortedS l=true)(e:sortedS m=true):l=m:=
 Kr (Kq (h1.nodup_iff.mpr a) s1) (Kq (h2.nodup_iff.mpr a) e) λy=>h1.mem_iff.trans h2.mem_iff.symm
noncomputable abbrev T3(t:Str×Str×Str):D:=.tup [.str t.1,.str t.2.1,.str t.2.2]
theorem qA(t:Str×Str×Str):py (T3 t)=.tuple [.str t.1,.str t.2.1,.str t.2.2]:=by simp[T3,py,fj]
theorem Ey{a b:Str×Str×Str}(h:py (T3 a)=py (T3 b)):a=b:=by
 obtain⟨n,m,l⟩:=a;obtain⟨j,i,e⟩:=b;simp only[qA,PyData.tuple.injEq,zcP.injEq,PyData.str.injEq] at h;rw[h.1,h.2.1,h.2.2.1]
noncomputable def pU(t:Str×Str×Str):Bool:=fU t.1&&fU t.2.1&&fU t.2.2
theorem good3{t:Str×Str×Str}(h:pU t=true):dj (T3 t):=by
 unfold pU at h;rw[zbF,zbF] at h;refine⟨by simp[T3,b8,bL],?_,?_,_,rfl⟩
 ·rw[qA];simp[bG,cj,PyData.canLay0,oF h.1.1,oF h.1.2,oF h.2]
 ·rw[qA];simp[PyData.depth,PyData.depthAll]
theorem Ss(a b:Str×Str×Str):bO (py (T3 a)) (py (T3 b))=true:=by
 rw[qA,qA];simp[bO,dQ]
theorem DG(h:∀t∈ts,pU t=true):K8 (ts.map T3):=
 ⟨λk a=>by obtain⟨t,e,rfl⟩:=zcu.mp a;exact good3 (h t e),λk a=>by obtain⟨t,_,rfl⟩:=zcu.mp a;exact⟨_,_,qA t⟩,λk a l i=>by obtain⟨t,_,rfl⟩:=zcu.mp a;obtain⟨u,_,rfl⟩:=zcu.mp i;exact Ss t u⟩
theorem Qn(ts:List (Str×Str×Str))(t:Str×Str×Str):Ft (ts.map T3) (T3 t)=decide (t∈ts):=by
 unfold Ft;rw[zcs];by_cases h:t∈ts
 ·rw[yDt h];exact zbC.mpr ⟨t,h,by simp⟩
 ·rw[yDf h];refine zaZ.mpr λx a z=>h ?_;have:py (T3 x)=py (T3 t):=of_decide_eq_true z;rw[<-Ey this];exact a
theorem put3{t:Str×Str×Str}(h:t ∉ ts):putN (ts.map T3) (T3 t)=(ts++[t]).map T3:=by
 have:=Qn ts t;rw[yDf h] at this;unfold putN;unfold Ft at this;rw[this,yIn (by decide),zbS];rfl
theorem Lk{ks:List D}(a:ks.Perm (ts.map T3)):∃us:List (Str×Str×Str),us.Perm ts/\ks=us.map T3:=eU a
abbrev Kn:=Str×List Str
abbrev Ti:=Str×Str×Str
noncomputable abbrev fl:List Str:=["marked","tied","near"]
noncomputable def ic(ks:List Kn):List Key:=ks.map λk=>.inr k.1
noncomputable def Hf(ms:List Str):List (Key×D):=ms.map λm=>(.inr m,.bl true)
noncomputable def Hg(ms:List Str):D:=.dct (m9 (Hf ms)).1 (m9 (Hf ms)).2
structure cM(C:Addr)(W:yak)(b L:Nat)(S:aL)(n m t e:Nat)(ns:List Nat)(ks:List Kn)(ts:List Ti):Prop where
 at_:S[n]? =some (some (.ins C fl [.loc m,.loc t,.loc e]))
 BP:S[m]? =some (some (.dct (ic ks) (ks.map λk=>Hg k.2)))
 ti:S[t]? =some (some (nO W (ts.map T3)))
 ne:S[e]? =some (some (.dct (ic ks) (ns.map D.loc)))
 len:ns.length=ks.length
 me:m≠e
 tn:t ∉ ns
 near:∀i∈ns,∃js,S[i]? =some (some (nO W js))/\(∀j∈js,dj j)/\js.length<=L
 lo:b<=m/\b<=t/\b<=e/\∀i∈ns,b<=i
 G7:∀t∈ts,pU t=true
 Rk:∀k∈ks,fU k.1=true/\∀m∈k.2,fU m=true
 kb:ks.length<64
 mb:∀k∈ks,k.2.length<64
def gW(C:Addr)(W:yak)(b:Nat)(S:aL)(n:Nat)(ks:List Kn)(ts:List Ti):Prop:=∃m t e ns,cM C W b (2*ts.length) S n m t e ns ks ts
noncomputable abbrev nms(ks:List Kn):List Str:=ks.map (·.1)
theorem qI{o:Option MO}(h:S[n]? =some o):n<S.length:=by
 rcases zcA n S.length with z|z
 ·exact z
 ·rw[zat z] at h;cases h
theorem jA{o o':Option MO}(h:S[n]? =some o):(S.set n o')[n]? =some o':=by
 rw[zbd,yIp rfl,yIp (qI h)]
theorem iL{o:Option MO}{X:aL}(h:S[n]? =some o):(S++X)[n]? =some o:=by
 rw[zae (qI h)];exact h
theorem AB{o:Option MO}:(S++[o])[S.length]? =some o:=by
 rw[zab (zcI _),zcB];rfl
theorem jB{k:Nat}{o x y:Option MO}(a:k≠n)(h:S[k]? =some o):((S++[x]).set n y)[k]? =some o:=by
 rw[zaA (Ne.symm a)];exact iL h
theorem ni{k:Nat}{x y:Option MO}(a:k≠n)(h:k<S.length):((S++[x]).set n y)[k]? =S[k]?:=by
 rw[zaA (Ne.symm a),zae h]
theorem rS{k:Nat}{x y:Option MO}(a:k≠n)(h:k=S.length):((S++[x]).set n y)[k]? =some x:=by
 rw[zaA (Ne.symm a),h];exact AB
theorem yo{ks a:List Str}{e:List D}{f:Str}{o:MO}{v:AE}{j:k9}(h:δ[i]? =some (some (.loc n)))(s:S[n]? =some (some (.ins C ks ds)))(q:ks.length<1000)(l:∀Q:AK,Q (.dat (.loc S.length)) (S++[some o])->v δ S Q)(m:putD f (.loc S.length) ks ds=(a,e))(nx:j.nx δ ((S++[some o]).set n (some (.ins C a e)))):KC C (dR i) v f j δ S:=by
 refine l _ ⟨_,h,n,ks,ds,rfl,iL s,q,?_⟩;show j.nx δ ((S++[some o]).set n (some (.ins C (putD f (.loc S.length) ks ds).1 (putD f (.loc S.length) ks ds).2)));rw[m];exact nx
section
variable {W:yak}{b L:Nat}{t e:Nat}{ns:List Nat}{ks:List Kn}{ts:List Ti}
theorem jT{n:Nat}{o:MO}(h:S[n]? =some (some o)):aS S (.loc n)=o.d:=by simp only[aS,h]
theorem vg(X:cM C W b L S n m t e ns ks ts){Q:AK}(a:δ[i]? =some (some (.loc n)))(q:Q (.dat (.loc m)) S):JZ C (dR i) "marked" δ S Q:=⟨_,a,n,_,_,_,rfl,X.at_,rfl,q⟩
theorem Fw(X:cM C W b L S n m t e ns ks ts){Q:AK}(a:δ[i]? =some (some (.loc n)))(q:Q (.dat (.loc t)) S):JZ C (dR i) "tied" δ S Q:=⟨_,a,n,_,_,_,rfl,X.at_,rfl,q⟩
theorem K2(X:cM C W b L S n m t e ns ks ts){Q:AK}(a:δ[i]? =some (some (.loc n)))(q:Q (.dat (.loc e)) S):JZ C (dR i) "near" δ S Q:=⟨_,a,n,_,_,_,rfl,X.at_,rfl,q⟩
theorem Fq(ks:List Kn)(x:Str):kB (ic ks) (.inr x)=decide (x∈nms ks):=by
 unfold kB ic;rw[zcs];by_cases h:x∈nms ks
 ·rw[yDt h];obtain⟨k,a,rfl⟩:=zcu.mp h;exact zbC.mpr ⟨k,a,by simp⟩
 ·rw[yDf h];refine zaZ.mpr λk a z=>h ?_;have z:(Sum.inr k.1:Key)=.inr x:=of_decide_eq_true z;injection z with z;exact zcu.mpr ⟨k,a,z⟩
theorem Qj(X:cM C W b L S n m t e ns ks ts){Q:AK}(q:Q (.dat (.bl (neg != decide (x∈nms ks)))) S):yO neg (.str x) (.loc m) S Q:=by
 unfold yO;rw[jT X.BP];refine⟨.inr x,rfl,?_⟩;rw[Fq];exact q
theorem ym:∀{ks:List Kn}{ds:List D}{x:Str},ds.length=ks.length->x∈nms ks->∃(i:Nat)(d:D),kE (ic ks) ds (.inr x)=some d/\ds[i]? =some d/\∃k:Kn,ks[i]? =some k/\k.1=x
 |[],_,x,_,h=>by simp at h
 |k::ks,[],x,hl,_=>by simp at hl
 |k::ks,d::ds,x,hl,h=>by
  unfold kE ic;rw[zci,zaN,zbN];by_cases e:k.1=x
  ·refine⟨0,d,?_,rfl,k,rfl,e⟩;rw[yDt (show(Sum.inr k.1:Key)=.inr x by rw[e])];rfl
  ·have j:x∈nms ks:=by
    rcases zch.mp (show x∈k.1::nms ks from h) with z|z
    ·exact absurd z.symm e
    ·exact z
   obtain⟨i,n,h1,h2,a,m,l⟩:=ym (ks:=ks) (ds:=ds) (by simpa using hl) j;refine⟨i+1,n,?_,by simpa using h2,a,by simpa using m,l⟩;rw[yDf (λz=>e (by injection z))];exact h1
theorem Ez{d:D}(h:x ∉ nms ks):pG (ic ks) ds (.inr x) d=.dct (ic (ks++[(x,ms)])) (ds++[d]):=by
 have:=Fq ks x;rw[yDf h] at this;unfold kB at this;unfold pG;rw[this,yIn (by decide)];unfold ic;rw[zbS];rfl
end
theorem dH{m:Str}{t:AA}{Q:AK}(a:δ[i]? =some (some (.loc n)))(j:S[n]? =some (some (.ins C fl ds)))(e:m ∉ fl)(h:t δ S λes l=>sp (.loc n::es) l Q):Gf C m sp (dR i) t δ S Q:=⟨_,a,n,_,_,rfl,j,e,h⟩
def wW(C:Addr)(W:yak):AN:=λi S Q=>∃n x b a h,i=[.loc n,.str x]/\(∃L m t e ns,cM C W b L S n m t e ns a h)/\x∈nms a/\Q (.dat .bB) S
theorem NI(T:Txt K mg C fi)(F:tQ K C "need_knot" "Web.need_knot" jj DZ):i6 P w K mg base 1 C "need_knot" jj (wW C w):=by
 refine pF F LI (λu S Q h=>?_) (λf v A outer s H E l=>?_)
 ·obtain⟨n,x,b,i,a,rfl,_⟩:=h;rfl
 ·refine⟨_,(To (TJ (Tw (M.uL l) (Tg 1) (Um (Tg 0) T.cl T.n_marked) rfl) (To M.eT) TL)),λu S Q h=>?_⟩;obtain⟨n,x,b,i,a,rfl,⟨L,m,t,e,ns,X⟩,j,q⟩:=h;have o:aK AY [.loc n,.str x]=[some (.loc n),some (.str x)]:=rfl;rw[o];push_cast[true_and];refine vg X rfl (Qj X ⟨_,rfl,?_⟩);rw[yDt j,yIn (by decide)];exact q
def Kx(C:Addr)(W:yak):AN:=λi S Q=>∃n x b h a,i=[.loc n,.str x.1,.str x.2.1,.str x.2.2]/\(∃L m t e ns,cM C W b L S n m t e ns h a)/\pU x=true/\Q (.dat (.bl (decide (x∈a)))) S
theorem QH(T:Txt K mg C fi)(F:tQ K C "has_tie" "Web.has_tie" pS Mg):i6 P w K mg base 1 C "has_tie" pS (Kx C w):=by
 refine pF F Pb (λu S Q h=>?_) (λf v A outer s H E l=>?_)
 ·obtain⟨n,x,b,i,a,rfl,_⟩:=h;rfl
 ·refine⟨_,(To (Tv (T5 (M.P5 l) (TF (Th (Tg 1) (Th (Tg 2) (Tn (Tg 3))))) (Um (Tg 0) T.cl T.n_tied) rfl))),λu S Q h=>?_⟩;obtain⟨n,x,b,i,a,rfl,⟨L,m,t,e,ns,X⟩,j,q⟩:=h;have o:aK GV [.loc n,.str x.1,.str x.2.1,.str x.2.2]=[some (.loc n),some (.str x.1),some (.str x.2.1),some (.str x.2.2)]:=rfl;rw[o];push_cast[true_and];refine⟨ySz 3,Fw X rfl ⟨t,_,rfl,X.ti,good3 j,(DG X.G7).good,?_⟩⟩;rw[Qn,show(false != decide (x∈a))=decide (x∈a) by cases decide (x∈a)<;>rfl];exact q
def Dz(C:Addr)(W:yak):AN:=λe S Q=>∃n,e=[.loc n]/\S.length=n+1/\S[n]? =some (some (.ins C [] []))/\∀a,gW C W n a n [] []->(∀k,k<n->a[k]? =S[k]?)->n<=a.length->Q (.dat .bB) a
theorem NQ(T:Txt K mg C fi)(F:GZ K "__init__" "Web.__init__" uw f fd):dX P w K mg base nJ 1 f fd jk (av K (Dz C w)):=by
 refine SW F LN (λI S Q h=>?_) (λf L A outer s H E U=>?_)
 ·obtain⟨n,rfl,_⟩:=h;rfl
 ·refine⟨_,(Tj (M.oj (Tg 0) (T6 M.fT) T.cl T.n_marked) (Tj (M.oj (Tg 0) (T6 M.iB) T.cl T.n_tied) (To (M.oj (Tg 0) (T6 M.fT) T.cl T.n_near)))),λI S Q h=>?_⟩;obtain⟨n,rfl,u,t,q⟩:=h;have G:aK A5 [.loc n]=[some (.loc n)]:=rfl;rw[G];push_cast[true_and];have y:∀a c:D,putD "tied" c ["marked"] [a]=((["marked","tied"]:List Str),[a,c]):=λa c=>by
   unfold putD;rw[yIn (by decide+kernel)];rfl
  have p3:∀a c d:D,putD "near" d ["marked","tied"] [a,c]=((["marked","tied","near"]:List Str),[a,c,d]):=λa c d=>by
   unfold putD;rw[yIn (by decide+kernel)];unfold putD;rw[yIn (by decide+kernel)];rfl
  refine yo (o:=.dct [] []) rfl t (by decide) (λ_ q=>q) rfl ?_;generalize j:(S++[some (MO.dct [] [])]).set n _=S1;have m:S1.length=n+2:=by rw[<-j,zbP,zaM];simp;lia
  have x:S1[n]? =some (some (.ins C ["marked"] [.loc S.length])):=by rw[<-j];exact jA (iL t)
  simp only[qe];refine yo (o:=nO w []) rfl x (by decide) (λ_ q=>q) (y _ _) ?_;generalize i:(S1++[some (nO w [])]).set n _=S2;have l:S2.length=n+3:=by rw[<-i,zbP,zaM];simp;lia
  have v:S2[n]? =some (some (.ins C ["marked","tied"] [.loc S.length,.loc S1.length])):=by rw[<-i];exact jA (iL x)
  try simp only[qe]
  refine yo (o:=.dct [] []) rfl v (by decide) (λ_ q=>q) (p3 _ _ _) ?_;generalize e:(S2++[some (MO.dct [] [])]).set n _=S3;have O:S3.length=n+4:=by rw[<-e,zbP,zaM];simp;lia
  refine q S3 ⟨n+1,n+2,n+3,[],⟨?_,?_,?_,?_,rfl,by lia,by simp,by simp,⟨by lia,by lia,by lia,by simp⟩,by simp,by simp,by decide,by simp⟩⟩ (λk W=>?_) (by lia)
  ·rw[<-e];have:=jA (o':=some (.ins C ["marked","tied","near"] [.loc S.length,.loc S1.length,.loc S2.length])) (iL (X:=[some (.dct [] [])]) v);rw[this,u,m,l]
  ·rw[<-e];refine jB (by lia) ?_;rw[<-i];refine jB (by lia) ?_;rw[<-j];exact rS (by lia) u.symm
  ·rw[<-e];refine jB (by lia) ?_;rw[<-i];exact rS (by lia) m.symm
  ·rw[<-e];exact rS (by lia) l.symm
  ·rw[<-e,ni (by lia) (by lia),<-i,ni (by lia) (by lia),<-j,ni (by lia) (by lia)]
def Dv(C:Addr)(W:yak):AN:=λi S Q=>∃n x ms b a h,i=[.loc n,.str x,.lst (ms.map D.str)]/\gW C W b S n a h/\x ∉ nms a/\a.length<63/\ms.length<64/\fU x=true/\(∀m∈ms,fU m=true)/\
 ∀e,gW C W b e n (a++[(x,ms)]) h->(∀k,k<b->e[k]? =S[k]?)->S.length<=e.length->Q (.dat .bB) e
theorem iE{a c:Nat}{o u:MO}(h1:S[a]? =some (some o))(h2:S[c]? =some (some u))(h:o≠u):a≠c:=λz=>by
 subst z;rw[h1] at h2;exact h (by simpa using h2)
theorem cM.dist{C:Addr}{W:yak}{b L:Nat}{t e:Nat}{ns:List Nat}{ks:List Kn}{ts:List Ti}(X:cM C W b L S n m t e ns ks ts):n≠m/\n≠t/\n≠e/\m≠t/\e≠t/\n ∉ ns/\m ∉ ns/\e ∉ ns:=by
 refine⟨iE X.at_ X.BP (by intro z;cases z),iE X.at_ X.ti (by intro z;simp[nO] at z),iE X.at_ X.ne (by intro z;cases z),iE X.BP X.ti (by intro z;simp[nO] at z),iE X.ne X.ti (by intro z;simp[nO] at z),λh=>?_,λh=>?_,λh=>?_⟩
 ·obtain⟨a,h1,_⟩:=X.near _ h;exact iE X.at_ h1 (by intro z;simp[nO] at z) rfl
 ·obtain⟨a,h1,_⟩:=X.near _ h;exact iE X.BP h1 (by intro z;simp[nO] at z) rfl
 ·obtain⟨a,h1,_⟩:=X.near _ h;exact iE X.ne h1 (by intro z;simp[nO] at z) rfl
theorem sF{W:yak}{a b:AE}{m:k9}(h:a δ S λl j=>b δ j λe i=>∃n ks,l.d=.loc n/\i[n]? =some (some (nO W ks))/\dj e.d/\(∀k∈ks,dj k)/\ks.length<1000/\m.nx δ (i.set n (some (nO W (putN ks e.d))))):
  AF W a b (aC (.bl true)) m δ S:=by
 have mono:∀(Q o:AK),(∀r S,Q r S->o r S)->True:=λ_ _ _=>trivial;refine cast (congrArg (λz=>a δ S z) ?_) h;funext l j;refine congrArg (λz=>b δ j z) ?_;funext e i;refine propext ⟨?_,?_⟩
 ·rintro⟨n,ks,h1,h2⟩;exact⟨n,ks,rfl,h1,h2⟩
 ·rintro⟨n,ks,_,h1,h2⟩;exact⟨n,ks,h1,h2⟩
theorem pC{a b:AE}{Q:AK}(h:a δ S λj l=>b δ l λi e=>∃ks ds k d,aS e j.d=.dct ks ds/\keyOf i.d=some k/\kE ks ds k=some d/\Q (.dat d) e):e8 a b δ S Q:=h
theorem EY{ks:List D}{k j:D}(h:j∈putN ks k):j∈ks∨j=k:=by
 unfold putN at h;split at h
 ·exact .inl h
 ·rcases zbI.mp h with h|h
  ·exact .inl h
  ·exact .inr (by simpa using h)
theorem Fc(ks:List D)(k:D):(putN ks k).length<=ks.length+1:=by
 unfold putN;split
 ·lia
 ·rw[zaM];simp
theorem cM.uN{C:Addr}{W:yak}{b L:Nat}{t e:Nat}{ns:List Nat}{ks:List Kn}{ts:List Ti}{l:List D}{k:D}(X:cM C W b L S n m t e ns ks ts)(hi:i∈ns)(u:S[i]? =some (some (nO W l)))(x:∀j∈l,dj j)(G:l.length<=L)(v:dj k):
  cM C W b (L+1) (S.set i (some (nO W (putN l k)))) n m t e ns ks ts:=by
 obtain⟨U,Q,P,O,I,F,E,y⟩:=X.dist;have ne:∀{a:Nat},a ∉ ns->i≠a:=λh z=>h (z▸hi);refine⟨by rw[zaA (ne F)];exact X.at_,by rw[zaA (ne E)];exact X.BP,by rw[zaA (ne X.tn)];exact X.ti,by rw[zaA (ne y)];exact X.ne,X.len,X.me,X.tn,λs q=>?_,X.lo,X.G7,X.Rk,X.kb,X.mb⟩;by_cases z:i=s
 ·subst z;refine⟨putN l k,jA u,λj h=>?_,zcw (Fc l k) (by lia)⟩;rcases EY h with h|h
  ·exact x j h
  ·rw[h];exact v
 ·obtain⟨o,h1,h2,H⟩:=X.near s q;exact⟨o,by rw[zaA z];exact h1,h2,by lia⟩
theorem cM.mono{C:Addr}{W:yak}{b L a:Nat}{t e:Nat}{ns:List Nat}{ks:List Kn}{ts:List Ti}(X:cM C W b L S n m t e ns ks ts)(h:L<=a):cM C W b a S n m t e ns ks ts:=
 ⟨X.at_,X.BP,X.ti,X.ne,X.len,X.me,X.tn,λi l=>by obtain⟨j,h1,h2,o⟩:=X.near i l;exact⟨j,h1,h2,by lia⟩,X.lo,X.G7,X.Rk,X.kb,X.mb⟩
theorem cM.uO{C:Addr}{W:yak}{b L:Nat}{t e:Nat}{ns:List Nat}{ks:List Kn}{ts:List Ti}(X:cM C W b L S n m t e ns ks ts)(o:x∈nms ks):
  ∃i h,kE (ic ks) (ns.map D.loc) (.inr x)=some (.loc i)/\i∈ns/\S[i]? =some (some (nO W h))/\(∀j∈h,dj j)/\h.length<=L:=by
 obtain⟨i,d,h1,h2,_⟩:=ym (ds:=ns.map D.loc) (by rw[zbJ];exact X.len) o;rw[zba] at h2;cases z:ns[i]? with
 |none=>rw[z] at h2;cases h2
 |some a=>
  rw[z] at h2;have:D.loc a=d:=by simpa using h2
  subst this;have l:=zaB z;obtain⟨h,g⟩:=X.near a l;exact⟨a,h,h1,l,g⟩
theorem NN(T:Txt K mg C fi)(F:tQ K C "lay_knot" "Web.lay_knot" kR D5):i6 P w K mg base 1 C "lay_knot" kR (Dv C w):=by
 refine pF F LM (λds S Q h=>?_) (λf cdv A outer s H E v=>?_)
 ·obtain⟨n,x,ms,b,o,U,rfl,_⟩:=h;rfl
 ·refine⟨_,(Tj (M.iz (di v) (Um (Tg 0) T.cl T.n_marked) (Tg 1) (Ub (M.sE v) T.dict (Th (Uc ["mark"] [none] (TX (Tg 2)) (λ_ _ _ _=>UA) (λ_ _ _ _=>(TF (Th (Tg 0) (Tn T7))))) Tr)) rfl) (To (M.iz (di v) (Um (Tg 0) T.cl T.n_near) (Tg 1) (T6 M.iB) rfl))),λds S Q h=>?_⟩;obtain⟨n,x,ms,b,o,U,rfl,⟨m,t,e,ns,X⟩,L,hkl,G,Y,u,q⟩:=h;have e0:aK A3 [.loc n,.str x,.lst (ms.map D.str)]=[some (.loc n),some (.str x),some (.lst (ms.map D.str))]:=rfl;rw[e0];push_cast[true_and];obtain⟨O,d2,d3,d4,d5,d6,d7,d8⟩:=X.dist;refine⟨_,rfl,?_⟩;show gV (λ_=>True) (bW 0) vQ _ (ms.map D.str) [] _ S _;refine comp_map (δ:=qW [none] [some (.loc n),some (.str x),some (.lst (ms.map D.str))]) (λd=>.tup [d,.bl true]) trivial (ms.map D.str) [] _ rfl (λy hy Q' W=>⟨_,rfl,ySz 2,W⟩) (by rw[zbJ,yaf];simp;lia) ?_;refine⟨_,Hf ms,rfl,?_,by unfold Hf;rw[zbJ];lia,?_⟩
  ·show D.lst _=D.lst _;rw[zbR,zct];unfold Hf;rw[zct];rfl
  refine vg X rfl ⟨_,rfl,m,_,_,.inr x,rfl,rfl,X.BP,by rw[zbJ];lia,?_⟩;dsimp only;rw[show(R.new (MO.dct (m9 (Hf ms)).fst (m9 (Hf ms)).snd)).d=Hg ms from rfl,Ez (ms:=ms) L];generalize I:S.set m _=S1;have Z:S1.length=S.length:=by rw[<-I,zbP]
  have l:∀k,k≠m->S1[k]? =S[k]?:=λk a=>by rw[<-I,zaA (Ne.symm a)]
  have m1:S1[m]? =some (some (.dct (ic (o++[(x,ms)])) ((o.map λk=>Hg k.2)++[Hg ms]))):=by rw[<-I];exact jA X.BP
  have bS:b<=S.length:=by have:=qI X.BP;have:=X.lo.1;lia
  refine⟨_,rfl,n,_,_,_,rfl,iL (by rw[l n O];exact X.at_),rfl,_,rfl,e,_,_,.inr x,rfl,rfl,iL (by rw[l e (Ne.symm X.me)];exact X.ne),by rw[zbJ,X.len];lia,?_⟩;show Q (.dat .bB) ((S1++[some (nO w [])]).set e (some (pG (ic o) (ns.map D.loc) (.inr x) (.loc S1.length))));rw[Ez (ms:=ms) L];have el:=qI X.ne;have tl:=qI X.ti;have ml:=qI X.BP;refine q _ ⟨m,t,e,ns++[S1.length],⟨?_,?_,?_,?_,by rw[zaM,zaM,X.len];rfl,X.me,?_,?_,⟨X.lo.1,X.lo.2.1,X.lo.2.2.1,?_⟩,X.G7,?_,by rw[zaM];simp;lia,λk a=>?_⟩⟩ (λk a=>?_) ?_
  ·exact jB d3 (by rw[l n O];exact X.at_)
  ·refine jB X.me ?_;rw[m1,zbS];rfl
  ·exact jB (Ne.symm d5) (by rw[l t (Ne.symm d4)];exact X.ti)
  ·rw[zbS];exact jA (iL (by rw[l e (Ne.symm X.me)];exact X.ne))
  ·intro h;rcases zbI.mp h with h|h
   ·exact X.tn h
   ·have:t=S1.length:=by simpa using h
    lia
  ·intro i j;rcases zbI.mp j with j|j
   ·obtain⟨js,g1,g2,g3⟩:=X.near i j;exact⟨js,jB (λz=>d8 (z▸j)) (by rw[l i (λz=>d7 (z▸j))];exact g1),g2,g3⟩
   ·have:i=S1.length:=by simpa using j
    subst this;exact⟨[],rS (by lia) rfl,by simp,by simp⟩
  ·intro i j;rcases zbI.mp j with j|j
   ·exact X.lo.2.2.2 i j
   ·have:i=S1.length:=by simpa using j
    lia
  ·intro k a;rcases zbI.mp a with a|a
   ·exact X.Rk k a
   ·have:k=(x,ms):=by simpa using a
    subst this;exact⟨Y,u⟩
  ·rcases zbI.mp a with a|a
   ·exact X.mb k a
   ·have:k=(x,ms):=by simpa using a
    subst this;exact G
  ·have:=X.lo;rw[ni (by lia) (by lia),l k (by lia)]
  ·rw[zbP,zaM,Z];lia
def Du(C:Addr)(W:yak):AN:=λi S Q=>∃n x b e a,i=[.loc n,.str x.1,.str x.2.1,.str x.2.2]/\gW C W b S n e a/\x.1∈nms e/\x.2.2∈nms e/\x ∉ a/\a.length<=300/\pU x=true/\
 ∀h,gW C W b h n e (a++[x])->(∀k,k<b->h[k]? =S[k]?)->h.length=S.length->Q (.dat .bB) h
theorem NL(T:Txt K mg C fi)(F:tQ K C "lay_tie" "Web.lay_tie" kQ zC):i6 P w K mg base 1 C "lay_tie" kQ (Du C w):=by
 refine pF F LL (λds S Q h=>?_) (λf cdv A outer s H E u=>?_)
 ·obtain⟨n,x,b,ks,G,rfl,_⟩:=h;rfl
 ·refine⟨_,(Tj (M.jb u (Um (Tg 0) T.cl T.n_tied) (TF (Th (Tg 1) (Th (Tg 2) (Tn (Tg 3))))) T7 rfl) (Tj (M.jb u (Uo (di u) (Um (Tg 0) T.cl T.n_near) (Tg 1) (λ_ _=>rfl)) (TF (Th Tz (Th (Tg 2) (Tn (Tg 3))))) T7 rfl) (To (M.jb u (Uo (di u) (Um (Tg 0) T.cl T.n_near) (Tg 3) (λ_ _=>rfl)) (TF (Th Tz (Th (Tg 2) (Tn (Tg 1))))) T7 rfl)))),λds S Q h=>?_⟩;obtain⟨n,x,b,ks,G,rfl,⟨m,t,e,ns,X⟩,hx1,hx2,hx,hkl,W,q⟩:=h;have e0:aK tT [.loc n,.str x.1,.str x.2.1,.str x.2.2]=[some (.loc n),some (.str x.1),some (.str x.2.1),some (.str x.2.2)]:=rfl;rw[e0];push_cast[true_and];obtain⟨d1,d2,d3,d4,d5,d6,d7,d8⟩:=X.dist;have hw:(lV nJ P w K mg base tT "Web.lay_tie" (ah zC) f cdv A outer s H E).w=w:=rfl;have a:=W;unfold pU at a;rw[zbF,zbF] at a;refine sF (Fw X rfl ?_);refine⟨_,rfl,_,rfl,_,rfl,ySz 3,t,G.map T3,rfl,X.ti,good3 W,(DG X.G7).good,by rw[zbJ];lia,?_⟩;dsimp only;rw[hw,show(R.dat (D.tup [(R.dat (D.str x.1)).d,(R.dat (D.str x.2.1)).d,(R.dat (D.str x.2.2)).d])).d=T3 x from rfl,put3 hx];generalize e1:S.set t _=S1;have j:∀k,k≠t->S1[k]? =S[k]?:=λk I=>by rw[<-e1,zaA (Ne.symm I)]
  have U:cM C w b (2*G.length) S1 n m t e ns ks (G++[x]):=by
   refine⟨by rw[j n d2];exact X.at_,by rw[j m d4];exact X.BP,by rw[<-e1];exact jA X.ti,by rw[j e d5];exact X.ne,X.len,X.me,X.tn,λi hi=>?_,X.lo,λy o=>?_,X.Rk,X.kb,X.mb⟩
   ·obtain⟨Y,g1,O,L⟩:=X.near i hi;exact⟨Y,by rw[j i (λz=>X.tn (z▸hi))];exact g1,O,L⟩
   ·rcases zbI.mp o with o|o
    ·exact X.G7 y o
    ·have:y=x:=by simpa using o
     subst this;exact W
  obtain⟨i,Y,g1,O,L,g4,g5⟩:=U.uO hx1;simp only[qe];refine sF (pC (K2 U rfl ?_));refine⟨_,rfl,_,_,_,_,jT U.ne,rfl,g1,⟨_,rfl,_,rfl,ySz 3,i,Y,rfl,L,good3 (t:=("on",x.2.1,x.2.2)) ?_,g4,by lia,?_⟩⟩
  ·unfold pU;rw[zbF,zbF];exact⟨⟨show fU "on"=true by decide+kernel,a.1.2⟩,a.2⟩
  have v:=U.uN (k:=T3 ("on",x.2.1,x.2.2)) O L g4 g5 (good3 (by unfold pU;rw[zbF,zbF];exact⟨⟨show fU "on"=true by decide+kernel,a.1.2⟩,a.2⟩));dsimp only;rw[show(R.dat (D.tup [(R.dat (D.str "on")).d,(R.dat (D.str x.2.1)).d,(R.dat (D.str x.2.2)).d])).d=T3 ("on",x.2.1,x.2.2) from rfl];generalize e2:S1.set i _=S2 at v;have o2:∀k,k≠i->S2[k]? =S1[k]?:=λk I=>by rw[<-e2,zaA (Ne.symm I)]
  obtain⟨Z,l,k1,k2,k3,k4,k5⟩:=v.uO hx2;have gb:pU ("back",x.2.1,x.1)=true:=by unfold pU;rw[zbF,zbF];exact⟨⟨show fU "back"=true by decide+kernel,a.1.2⟩,a.1.1⟩
  refine sF (pC (K2 v rfl ?_));refine⟨_,rfl,_,_,_,_,jT v.ne,rfl,k1,⟨_,rfl,_,rfl,ySz 3,Z,l,rfl,k3,good3 (t:=("back",x.2.1,x.1)) gb,k4,by lia,?_⟩⟩;have X3:=v.uN (k:=T3 ("back",x.2.1,x.1)) k2 k3 k4 k5 (good3 gb);show Q (.dat .bB) (S2.set Z (some (nO w (putN l (T3 ("back",x.2.1,x.1))))));refine q _ ⟨m,t,e,ns,X3.mono (by rw[zaM];simp;lia)⟩ (λk I=>?_) ?_
  ·have:=X.lo;have b1:=X.lo.2.2.2 i O;have b2:=X.lo.2.2.2 Z k2;rw[zaA (by lia),o2 k (by lia),j k (by lia)]
  ·rw[zbP,<-e2,zbP,<-e1,zbP]
def Dq(C:Addr)(W:yak):AN:=λi S Q=>∃n x ms b a h,i=[.loc n,.str x,.lst (ms.map D.str)]/\gW C W b S n a h/\x ∉ nms a/\a.length<40/\ms.length<64/\fU x=true/\(∀m∈ms,fU m=true)/\
 ∀e,gW C W b e n (a++[(x,ms)]) h->(∀k,k<b->e[k]? =S[k]?)->S.length<=e.length->Q (.dat .bB) e
theorem NG(T:Txt K mg C fi)(F:tQ K C "put_knot" "Web.put_knot" kM DX)(a:i6 P w K mg base 1 C "lay_knot" kR (Dv C w)):i6 P w K mg base 2 C "put_knot" kM (Dq C w):=by
 refine pF F LG (λL S Q h=>?_) (λf O A outer s H E v=>?_)
 ·obtain⟨n,x,ms,b,i,o,rfl,_⟩:=h;rfl
 ·refine⟨_,(Tj (TJ (Tw (M.P6 v) (Tg 1) (Um (Tg 0) T.cl T.n_marked) rfl) (To M.eT) TL) (Tj (TJ (Tw M.MT (TN TZ T.len (Th (Um (Tg 0) T.cl T.n_marked) Tr)) T.p7 (aG _)) (To M.eT) TL) (To (T9 (Ut (Tg 0) T.cl a (v.mono (by decide)) (Th (Tg 1) (Tn (Tg 2)))))))),λL S Q h=>?_⟩;obtain⟨n,x,ms,b,i,o,rfl,⟨m,t,e,ns,X⟩,u,G,l,y,j,q⟩:=h;have I:aK AV [.loc n,.str x,.lst (ms.map D.str)]=[some (.loc n),some (.str x),some (.lst (ms.map D.str))]:=rfl;rw[I];push_cast[true_and];refine vg X rfl (Qj X ⟨_,rfl,?_⟩);rw[yDf u,yIn (by decide)];refine vg X rfl ⟨i.length,?_,?_⟩
  ·rw[lF,jT X.BP];show some (ic i).length=_;unfold ic;rw[zbJ]
  rw[yDf (by lia),yIn (by decide)];exact dH rfl X.at_ (by decide+kernel) ⟨_,rfl,_,rfl,n,x,ms,b,i,o,rfl,⟨m,t,e,ns,X⟩,u,by lia,l,y,j,q⟩
def Dp(C:Addr)(W:yak):AN:=λi S Q=>∃n x b e a,i=[.loc n,.str x.1,.str x.2.1,.str x.2.2]/\gW C W b S n e a/\x.1∈nms e/\x.2.2∈nms e/\x ∉ a/\a.length<300/\pU x=true/\
 ∀h,gW C W b h n e (a++[x])->(∀k,k<b->h[k]? =S[k]?)->h.length=S.length->Q (.dat .bB) h
theorem NF(T:Txt K mg C fi)(F:tQ K C "put_tie" "Web.put_tie" kL DW)(a:i6 P w K mg base 1 C "need_knot" jj (wW C w))(j:i6 P w K mg base 1 C "has_tie" pS (Kx C w))(i:i6 P w K mg base 1 C "lay_tie" kQ (Du C w)):i6 P w K mg base 2 C "put_tie" kL (Dp C w):=by
 refine pF F LF (λU S Q h=>?_) (λf W A outer s H E y=>?_)
 ·obtain⟨n,x,b,o,l,rfl,_⟩:=h;rfl
 ·refine⟨_,(Tj (T9 (Ut (Tg 0) T.cl a (y.mono (by decide)) (Tn (Tg 1)))) (Tj (T9 (Ut (Tg 0) T.cl a (y.mono (by decide)) (Tn (Tg 3)))) (Tj (TJ (Ua (Ut (Tg 0) T.cl j (y.mono (by decide)) (Th (Tg 1) (Th (Tg 2) (Tn (Tg 3)))))) (To M.eT) TL) (Tj (TJ (Tw M.MT (TN M.MR T.len (Th (Um (Tg 0) T.cl T.n_tied) Tr)) T.sj (aG _)) (To M.eT) TL) (To (T9 (Ut (Tg 0) T.cl i (y.mono (by decide)) (Th (Tg 1) (Th (Tg 2) (Tn (Tg 3))))))))))),λU S Q h=>?_⟩;obtain⟨n,x,b,o,l,rfl,⟨m,t,e,ns,X⟩,v,u,I,L,G,q⟩:=h;have O:aK AU [.loc n,.str x.1,.str x.2.1,.str x.2.2]=[some (.loc n),some (.str x.1),some (.str x.2.1),some (.str x.2.2)]:=rfl;rw[O];push_cast[true_and];refine dH rfl X.at_ (by decide+kernel) ⟨_,rfl,n,x.1,b,o,l,rfl,⟨_,m,t,e,ns,X⟩,v,?_⟩;refine dH rfl X.at_ (by decide+kernel) ⟨_,rfl,n,x.2.2,b,o,l,rfl,⟨_,m,t,e,ns,X⟩,u,?_⟩;refine dH rfl X.at_ (by decide+kernel) ⟨_,rfl,_,rfl,_,rfl,n,x,b,o,l,rfl,⟨_,m,t,e,ns,X⟩,G,?_⟩;refine⟨false,by rw[yDf I];rfl,?_⟩;rw[yIn (by decide)];refine Fw X rfl ⟨t,l.map T3,rfl,X.ti,by rw[zbJ];lia,?_⟩;refine⟨_,_,rfl,rfl,trivial,_,rfl,?_⟩;rw[zbJ,yDf (by lia),yIn (by decide)];exact dH rfl X.at_ (by decide+kernel) ⟨_,rfl,_,rfl,_,rfl,n,x,b,o,l,rfl,⟨m,t,e,ns,X⟩,v,u,I,by lia,G,q⟩
noncomputable def Ks(l:List Str):List Str:=open Classical in if h:∃s:List Str,s.Perm l/\sortedS s=true then h.choose else []
theorem Lx{l s:List Str}(i:l.Nodup)(e:s.Perm l)(a:sortedS s=true):s=Ks l:=by
 have h:∃s:List Str,s.Perm l/\sortedS s=true:=⟨s,e,a⟩
 unfold Ks;rw[dif_pos h];exact Hz i e h.choose_spec.1 a h.choose_spec.2
noncomputable def mk1(a:List Str)(m:Str):List Str:=if m∈a then a else a++[m]
noncomputable def wF(ms:List Str):List Str:=ms.foldl mk1 []
theorem vt(a:List Str)(m:Str):kB (a.map Sum.inr) (.inr m)=decide (m∈a):=by
 unfold kB;rw[zcs];by_cases h:m∈a
 ·rw[yDt h];exact zbC.mpr ⟨m,h,by simp⟩
 ·rw[yDf h];refine zaZ.mpr λk e z=>h ?_;have z:(Sum.inr k:Key)=.inr m:=of_decide_eq_true z;injection z with z;rw[<-z];exact e
theorem oO:∀(ms a:List Str)(ds:List D),∃es,(Hf ms).foldl vq (a.map Sum.inr,ds)=((ms.foldl mk1 a).map Sum.inr,es)
 |[],a,ds=>⟨ds,rfl⟩
 |m::ms,a,ds=>by
  show∃es,(Hf ms).foldl vq (vq (a.map Sum.inr,ds) (.inr m,.bl true))=_;rw[zbQ];unfold vq mk1;rw[vt];by_cases h:m∈a
  ·rw[yDt h,yIp rfl,yIp h];exact oO ms a _
  ·rw[yDf h,yIn (by decide),yIn h];have:=oO ms (a++[m]) (ds++[.bl true]);rw[zbS] at this;exact this
theorem MZ(ms:List Str):∃es,Hg ms=.dct ((wF ms).map Sum.inr) es:=by
 obtain⟨es,h⟩:=oO ms [] [];refine⟨es,?_⟩;unfold Hg m9 wF;have h:(Hf ms).foldl vq ([],[])=_:=h;rw[h]
theorem sL:∀(ms a:List Str),a.Nodup->(ms.foldl mk1 a).Nodup/\∀y∈ms.foldl mk1 a,y∈a∨y∈ms
 |[],a,h=>⟨h,λy i=>.inl i⟩
 |m::ms,a,h=>by
  rw[zbQ];by_cases j:m∈a
  ·have e:mk1 a m=a:=yIp j;rw[e];obtain⟨h1,h2⟩:=sL ms a h;exact⟨h1,λy i=>(h2 y i).imp id (zay _)⟩
  ·have e:mk1 a m=a++[m]:=yIn j;rw[e];obtain⟨h1,h2⟩:=sL ms (a++[m]) (zbf.mpr ⟨h,by simp,λx l y i z=>by
    have:y=m:=by simpa using i
    exact j (by rw[<-this,<-z];exact l)⟩)
   refine⟨h1,λy i=>?_⟩;rcases h2 y i with z|z
   ·rcases zbI.mp z with z|z
    ·exact .inl z
    ·have n:y=m:=by simpa using z
     exact .inr (by rw[n];simp)
   ·exact .inr (zay _ z)
theorem lN(ms:List Str):(wF ms).Nodup:=(sL ms [] .nil).1
theorem sM{y:Str}(h:y∈wF ms):y∈ms:=((sL ms [] .nil).2 y h).resolve_left (by simp)
theorem sG{k j:Kn}:∀{ks:List Kn},(nms ks).Nodup->k∈ks->j∈ks->k.1=j.1->k=j
 |[],_,h,_,_=>by simp at h
 |a::ks,i,h,h',e=>by
  have i:(a.1::nms ks).Nodup:=i;rw[zbL] at i;rcases zch.mp h with z|g
  ·rcases zch.mp h' with l|m
   ·rw[z,l]
   ·exact absurd (show a.1∈nms ks from zcu.mpr ⟨j,m,by rw[<-e,z]⟩) i.1
  ·rcases zch.mp h' with l|m
   ·exact absurd (show a.1∈nms ks from zcu.mpr ⟨k,g,by rw[e,l]⟩) i.1
   ·exact sG i.2 g m e
noncomputable def aP(ks:List Kn)(x:Str):List Str:=((ks.find? λk=>decide (k.1=x)).map (·.2)).getD []
theorem b9{x:Str}:∀{ks:List Kn},x∈nms ks->(x,aP ks x)∈ks
 |[],h=>by simp at h
 |k::ks,h=>by
  unfold aP;rw[zbN];by_cases e:k.1=x
  ·rw[yDt e];subst e;exact zaL ..
  ·rw[yDf e];rcases zch.mp (show x∈k.1::nms ks from h) with z|z
   ·exact absurd z.symm e
   ·exact zay _ (b9 (ks:=ks) z)
def Ku(C:Addr)(W:yak):AN:=λi S Q=>∃n b a h k,i=[.loc n,.str k.1]/\(∃L m t e ns,cM C W b L S n m t e ns a h)/\(nms a).Nodup/\k∈a/\((Ks (wF k.2)).Perm (wF k.2)->Q (.new (.lst ((Ks (wF k.2)).map D.str))) S)
theorem QD(T:Txt K mg C fi)(F:tQ K C "marks" "Web.marks" pP Mb)(a:i6 P w K mg base 1 C "need_knot" jj (wW C w)):i6 P w K mg base 2 C "marks" pP (Ku C w):=by
 refine pF F O9 (λds S Q h=>?_) (λf cdv A outer s H E u=>?_)
 ·obtain⟨n,b,o,x,k,rfl,_⟩:=h;rfl
 ·refine⟨_,(Tj (T9 (Ut (Tg 0) T.cl a (u.mono (by decide)) (Tn (Tg 1)))) (To (Tv (TN (M.EN u) T.sorted (Th (Uo (di u) (Um (Tg 0) T.cl T.n_marked) (Tg 1) (λ_ _=>rfl)) Tr))))),λds S Q h=>?_⟩;obtain⟨n,b,o,x,k,rfl,⟨L,m,t,e,ns,X⟩,W,v,q⟩:=h;have e0:aK GN [.loc n,.str k.1]=[some (.loc n),some (.str k.1)]:=rfl;rw[e0];push_cast[true_and];have l:k.1∈nms o:=zcu.mpr ⟨k,v,rfl⟩;refine dH rfl X.at_ (by decide+kernel) ⟨_,rfl,n,k.1,b,o,x,rfl,⟨_,m,t,e,ns,X⟩,l,?_⟩;obtain⟨i,d,h1,h2,j,I,Y⟩:=ym (ds:=o.map λk=>Hg k.2) (by rw[zbJ]) l;have ek:j=k:=sG W (zaB I) v Y;subst ek;have ed:d=Hg j.2:=by
   rw[zba,I] at h2;simpa using h2.symm
  subst ed;obtain⟨Z,em⟩:=MZ j.2;refine pC (vg X rfl ⟨_,rfl,_,_,_,_,jT X.BP,rfl,h1,⟨_,Z,wF j.2,rfl,?_,Nat.lt_of_le_of_lt (L2.lK (lN _) λy O=>sM O) (X.mb j v),λss G U=>?_⟩⟩)
  ·rw[show(R.dat (Hg j.2)).d=Hg j.2 from rfl,em];rfl
  ·have e:=Lx (lN _) G U;subst e;exact q G
open PySem L2 M M6
noncomputable abbrev wA:List Str:=["leaf","marks"]
noncomputable abbrev iW:=wA
theorem HR:aA wA iW (ah (top 4)):=L2.bR
noncomputable abbrev vZ:List Str:=["leaf","side","word"]
noncomputable abbrev iO:=vZ
theorem HL:aA vZ iO (ah (top 5)):=L2.bR
noncomputable abbrev Lb:List Str:=["many","moves","near","one","leaf","other"]
noncomputable abbrev vW:=Lb.take 2
theorem DP:aA Lb vW (ah (top 13)):=L2.bR
noncomputable abbrev AZ:List Str:=["machine"]
noncomputable abbrev kP:=AZ
theorem LJ:aA AZ kP (ah (top 20)):=L2.bR
noncomputable abbrev A6:List Str:=["near","stands","marks","found","waiting","stand","leaf","other"]
noncomputable abbrev kU:=A6.take 3
theorem lC:aA A6 kU (ah (top 14)):=L2.bR
noncomputable abbrev A8:List Str:=["near","stands","side","word","found","stand","leaf","other"]
noncomputable abbrev kX:=A8.take 4
theorem nW:aA A8 kX (ah (top 15)):=L2.bR
noncomputable def pq(ks:List Nat):List Key:=ks.map λk:Nat=>Sum.inl (k:Int)
noncomputable def o9(ks:List Nat):List D:=ks.map λ_=>D.bl true
noncomputable def fO(ks:List Nat):MO:=.dct (pq ks) (o9 ks)
theorem Qy(ks:List Nat):(fO ks).d=.dct (pq ks) (o9 ks):=rfl
noncomputable def ins(ks:List Nat)(k:Nat):List Nat:=if k∈ks then ks else ks++[k]
theorem sN{ks:List Nat}{k x:Nat}:x∈ins ks k↔x∈ks∨x=k:=by
 unfold ins;split
 ·next h=>exact⟨.inl,λa=>a.elim id λe=>e▸h⟩
 ·simp
theorem lM{ks:List Nat}{k:Nat}(h:ks.Nodup):(ins ks k).Nodup:=by
 unfold ins;split
 ·exact h
 ·next hk=>
  rw[zbf];refine⟨h,by simp,λa j b i=>?_⟩;rw[zaO.mp i];intro e;exact hk (e▸j)
theorem Ab{ks:List Nat}{k:Nat}:kB (pq ks) (.inl (k:Int))=decide (k∈ks):=by
 unfold kB pq;rw[zcs];by_cases h:k∈ks
 ·rw[yDt h,zbC];exact⟨k,h,by simp⟩
 ·rw[yDf h,zaZ];intro j a;simp;intro e;exact h (by rw[<-show j=k by lia];exact a)
theorem FL(ks:List Nat)(k:Nat):vq (pq ks,o9 ks) (.inl (k:Int),.bl true)=(pq (ins ks k),o9 (ins ks k)):=by
 unfold vq;dsimp only;rw[Ab];by_cases h:k∈ks
 ·rw[yIp (yDt h)];have e:ins ks k=ks:=yIp h;rw[e];congr 1;unfold pq o9;rw[List.zip_map',zct];refine zaF λj _=>?_;show(if _ then _ else _)=_;split<;>rfl
 ·rw[yIn (by simpa using h)];have e:ins ks k=ks++[k]:=yIn h;rw[e];unfold pq o9;simp
theorem EA(ks:List Nat)(k:Nat):pG (pq ks) (o9 ks) (.inl (k:Int)) (.bl true)=fO (ins ks k):=by
 have:=sY (pq ks,o9 ks) (.inl (k:Int),.bl true);rw[FL] at this;exact this
noncomputable def gF(ks st:List Nat):List Nat:=st.foldl ins ks
theorem As:∀(st ks:List Nat),(st.map λs:Nat=>((Sum.inl (s:Int):Key),D.bl true)).foldl vq (pq ks,o9 ks)=(pq (gF ks st),o9 (gF ks st))
 |[],ks=>rfl
 |s::st,ks=>by
  rw[zci,zbQ,FL];exact As st (ins ks s)
theorem oR{x:Nat}:∀(st ks:List Nat),x∈gF ks st↔x∈ks∨x∈st
 |[],ks=>by simp[gF]
 |s::st,ks=>by
  show x∈gF (ins ks s) st↔_;rw[oR st,sN,zch,or_assoc]
theorem j8:∀(st ks:List Nat),ks.Nodup->(gF ks st).Nodup
 |[],ks,h=>h
 |s::st,ks,h=>j8 st (ins ks s) (lM h)
noncomputable def pV(S:aL)(n:Nat)(g:Nat->Option MO)(d:Option MO):aL:=S++((zcM n).map g++[d])
section
variable {g g':Nat->Option MO}{d d' x:Option MO}
theorem yE(h:i<n):(pV S n g d)[S.length+i]? =some (g i):=by
 unfold pV;rw[zab (by lia),zan,zae (by simpa using h)];simp[h]
theorem F1:(pV S n g d)[S.length+n]? =some d:=by
 unfold pV;rw[zab (by lia),zan,zab (by simp)];simp
theorem Av(h:i<n):(pV S n g d).set (S.length+i) x=pV S n (λj=>if j=i then x else g j) d:=by
 unfold pV;rw[zau _ _ (by lia),zan,List.set_append_left _ _ (by simpa using h)];congr 2;refine zbx (by simp) λj h1 h2=>?_;rw[List.getElem_set];simp only[zbz,zaP];by_cases e:i=j
 ·rw[yIp e,yIp e.symm]
 ·rw[yIn e,yIn (Ne.symm e)]
theorem F0:(pV S n g d).set (S.length+n) x=pV S n g x:=by
 unfold pV;rw[zau _ _ (by lia),zan,zau _ _ (by simp)];simp
theorem FZ:(pV S n g d).take S.length=S:=by unfold pV;rw[List.take_left]
theorem lX(h:∀i,i<n->g i=g' i):pV S n g d=pV S n g' d:=by
 unfold pV;congr 2;exact zaF λi a=>h i (by simpa using a)
end
theorem En{a:aL}{o:MO}{Q:AK}(s:S.length<=m)(e:a[m]? =some (some o))(i:a.take S.length=S)(h:lY S.length o=true)(q:Q (.new o) S):UI S a (.dat (.loc m)) Q:=by
 refine⟨.new o,?_,λk n j l=>.inl ?_,by rw[i];exact q⟩
 ·simp only[out];rw[yIn (by lia),e];show(if _ then _ else _)=_;rw[yIp h]
 ·rw[<-i,List.getElem?_take,yIp j];exact l
noncomputable def kN(n:Nat):List Key:=(zcM n).map λi:Nat=>Sum.inl (i:Int)
noncomputable def pD(m:Mv):D:=.tup [lD m.2.1,.int m.2.2]
noncomputable def eW(a:List Mv)(i:Nat):List D:=(a.filter λm=>decide (m.1=i)).map pD
noncomputable def dc(n:Nat)(a:List Mv):MO:=.dct (kN n) ((zcM n).map λi=>.lst (eW a i))
theorem JK:kB (kN n) (.inl (i:Int))=decide (i<n):=by
 unfold kB kN;rw[zcs];by_cases h:i<n
 ·rw[yDt h,zbC];exact⟨i,by simpa using h,by simp⟩
 ·rw[yDf h,zaZ];intro j a;simp only[zca] at a;simp;lia
theorem sZ{f:Nat->D}(h:i<n):kE (kN n) ((zcM n).map f) (.inl (i:Int))=some (f i):=by
 unfold kE kN;have e:((zcM n).map (λi:Nat=>(Sum.inl (i:Int):Key))).zip ((zcM n).map f)=(zcM n).map λj:Nat=>((Sum.inl (j:Int):Key),f j):=by
  rw[List.zip_map']
 rw[e,List.find?_map];have:(zcM n).find? ((λp:Key×D=>decide (p.1=Sum.inl (i:Int))) ∘ λj:Nat=>(Sum.inl (j:Int),f j))=some i:=by
  rw[List.find?_eq_some_iff_getElem];refine⟨by simp,i,by simpa using h,by simp,λj a=>?_⟩;simp;lia
 rw[this];rfl
theorem JL{f:Nat->D}:m9 ((zcM n).map λi:Nat=>(Sum.inl (i:Int),f i))=(kN n,(zcM n).map f):=by
 induction n with
 |zero=>rfl
 |succ n ih=>
  unfold m9 at ih⊢;rw[zbU,zbS,List.foldl_append,ih];show vq (kN n,(zcM n).map f) (Sum.inl (n:Int),f n)=_;unfold vq;rw[yIn (by rw[JK];simp)];simp[kN,zbU]
theorem x6(a:List Mv)(r:Mv)(i:Nat):eW (a++[r]) i=if i=r.1 then eW a i++[pD r] else eW a i:=by
 unfold eW;rw[List.filter_append,zbS];by_cases h:i=r.1
 ·subst h;simp
 ·rw[yIn h];have:¬r.1=i:=λe=>h e.symm;simp[this]
theorem Ag{S:aL}{n:Nat}{f:Nat->List D}:∀(j k:Nat),k+j=n->CN (S.length+n) (kN n) ((zcM n).map λi=>if i<k then D.lst (f i) else .loc (S.length+i)) (pV S n (λi=>if i<k then none else some (.lst (f i))) (some (.dct (kN n) ((zcM n).map λi=>if i<k then D.lst (f i) else .loc (S.length+i)))))
  ((zcM n).map λi=>D.lst (f i)) (pV S n (λ_=>none) (some (.dct (kN n) ((zcM n).map λi=>D.lst (f i)))))
 |0,k,h=>by
  have e:((zcM n).map λi=>if i<k then D.lst (f i) else .loc (S.length+i))=(zcM n).map λi=>D.lst (f i):=zaF λi a=>by
   rw[yIp (by simp at a;lia)]
  rw[e,lX (g:=λi=>if i<k then none else some (.lst (f i))) (g':=λ_=>none) (λi a=>by rw[yIp (by lia)])];exact .nil
 |j+1,k,h=>by
  have l:k<n:=by lia
  refine .step (m:=S.length+k) (es:=f k) ?_ (by lia) ?_
  ·rw[yE l,yIn (by lia)]
  ·have q:(((zcM n).map λi=>if i<k then D.lst (f i) else .loc (S.length+i)).map (sb (S.length+k) (.lst (f k))))=(zcM n).map λi=>if i<k+1 then D.lst (f i) else .loc (S.length+i):=by
    rw[zct];refine zaF λi a=>?_;show sb (S.length+k) (.lst (f k)) (if i<k then D.lst (f i) else .loc (S.length+i))=_;rcases zbj i k with h|h|h
    ·rw[yIp h,yIp (by lia)];rfl
    ·subst h;rw[yIn (by lia),yIp (by lia)];show(if S.length+i=S.length+i then _ else _)=_;rw[yIp rfl]
    ·rw[yIn (by lia),yIn (by lia)];show(if S.length+i=S.length+k then _ else _)=_;rw[yIn (by lia)]
   rw[q,Av l,F0];have o:=lX (S:=S) (n:=n) (d:=some (.dct (kN n) ((zcM n).map λi=>if i<k+1 then D.lst (f i) else .loc (S.length+i)))) (g:=λj=>if j=k then none else if j<k then none else some (MO.lst (f j))) (g':=λi=>if i<k+1 then none else some (.lst (f i))) (λi a=>by
    rcases zbj i k with h|h|h
    ·rw[yIn (by lia),yIp h,yIp (by lia)]
    ·rw[yIp h,yIp (by lia)]
    ·rw[yIn (by lia),yIn (by lia),yIn (by lia)])
   rw[o];exact Ag j (k+1) (by lia)
theorem zM{n:Nat}:∀{a:List Mv},(∀m∈a,Bc n m)->bL (a.map pD)=true
 |[],_=>rfl
 |m::a,h=>by
  have h1:=(Fb (h m (by simp)).2.1).2.2;simp only[zci,bL,pD,b8,h1,zM λk e=>h k (zay _ e),zco]
theorem vL{a:List Mv}(h:∀x∈a,Bc n x):lY m (dc n a)=true:=by
 show jl m ((zcM n).map λi=>D.lst (eW a i))=true;refine cK m _ ?_;generalize zcM n=l
 induction l with
 |nil=>rfl
 |cons i l ih=>
  have h1:bL (eW a i)=true:=zM λx e=>h x (zbH.mp e).1;simp only[zci,bL,b8,h1,ih,zco]
def O4:AN:=λe S Q=>∃(n:Nat)(a:List Mv),e=[.int n,.tup (a.map vD)]/\n<=60/\(∀m∈a,Bc n m)/\a.length<=60/\Q (.new (dc n a)) S
theorem So(T:Txt K mg C fi)(F:Src K mg "by_stand" vW (top 13)):Def P w K mg base 1 "by_stand" vW (av K O4):=by
 refine cJ F DP (λds S Q h=>?_) (λf cdv A outer s H E a=>?_)
 ·obtain⟨n,t,rfl,_⟩:=h;rfl
 ·refine⟨_,(Tj (Tu 2 DP.nd (T6 (Ub (M.sE a) T.dict (Th (Uc ["stand"] [none] (Uy (by rfl) T.range (Tn (Tg 0))) (λ_ _ _ _=>UA) (λ_ _ _ _=>(TF (Th (Tg 0) (Th (T6 (TQ Tr)) Tr))))) Tr)))) (Tj (T4 PassesOwn.never rfl (TX (Tg 1)) (Ui (n:=3) rfl (TU (TH 3 DP.nd) (TU (TH 4 DP.nd) (TU (TH 5 DP.nd) Uj)))) (To (T9 (Us PySem.F.plainAttrs_list PySem.F.slot_list_append PySem.F.type_list_append UC (Uo (di a) (Tg 2) (Tg 3) (λ_ _=>rfl)) (Th (TF (Th (Tg 4) (Tn (Tg 5)))) Tr))))) (To (Tv (M.Si (Tg 2)))))),λds S Q h=>?_⟩;obtain⟨n,t,rfl,n6,L,hl,q⟩:=h;have e0:aK Lb [.int n,.tup (t.map vD)]=[some (.int n),some (.tup (t.map vD)),none,none,none,none]:=rfl;rw[e0];push_cast[cL,o6,cA];refine⟨by lia,by lia,?_⟩;refine s9 (λrest y m G=>∃(k:Nat)(v:Option D),k<=n/\rest=((zcM n).drop k).map (λi:Nat=>D.int i)/\y=(zcM k).map (λi:Nat=>D.tup [.int i,.loc (S.length+i)])/\G=S++(zcM k).map (λ_=>some (MO.lst []))/\m=[v]) ?_ ?_ _ [] _ _ ⟨0,none,zcJ _,by simp[cW],rfl,by simp,rfl⟩
  ·rintro y m G ⟨k,v,hk,a,rfl,rfl,rfl⟩;obtain rfl:k=n:=by
    have:=congrArg zcH a;simp at this;lia
   refine⟨trivial,_,(zcM k).map (λi:Nat=>(Sum.inl (i:Int),D.loc (S.length+i))),rfl,?_,by simp;lia,?_⟩
   ·rw[dO,zct];rfl
   ·rw[JL];dsimp only;push_cast[dW,cI,bT];have eb:∀o:MO,S++(zcM k).map (λ_=>some (MO.lst []))++[some o]=pV S k (λi=>some (.lst (eW [] i))) (some o):=λo=>by
     unfold pV eW;rw[zbc];rfl
    rw[eb,show zcH (S++(zcM k).map (λ_=>some (MO.lst [])))=S.length+k by simp];refine bf (λrest m G=>∃(j l:List Mv)(W U O:Option D),rest=l.map vD/\j++l=t/\G=pV S k (λi=>some (.lst (eW j i))) (some (.dct (kN k) ((zcM k).map λi=>.loc (S.length+i))))/\m=[some (.int k),some (.tup (t.map vD)),some (.loc (S.length+k)),W,U,O]) ?_ ?_ _ _ _ ⟨[],t,none,none,none,rfl,rfl,rfl,rfl⟩
    ·rintro m G ⟨j,l,W,U,O,a,I,rfl,rfl⟩;have:l=[]:=by cases l with
      |nil=>rfl
      |cons _ _=>simp at a
     subst this;rw[zbK] at I;subst I;refine⟨trivial,?_⟩;push_cast[Gk];have Y:=Ag (S:=S) (n:=k) (f:=eW j) k 0 (by lia);simp only[zbV,if_false] at Y;refine⟨_,rfl,_,_,F1,_,_,Y,?_⟩;exact En (by lia) F1 FZ (vL L) q
    ·rintro x rest m G N' ⟨j,l,W,U,O,a,I,rfl,rfl⟩ u;cases l with
     |nil=>simp at a
     |cons r l=>
      rw[zci] at a;injection a with h1 h2;subst h1;subst h2;have hm:r∈t:=by rw[<-I];simp
      have ok:=L r hm;have hqs:j.length<=60:=by have:=congrArg zcH I;simp at this;lia
      refine⟨trivial,_,rfl,rfl,_,_,rfl,_,_,rfl,_,_,rfl,rfl,?_⟩;have sd:∀g:Nat->Option MO,aS (pV S k g (some (.dct (kN k) ((zcM k).map λi=>D.loc (S.length+i))))) (.loc (S.length+k))=.dct (kN k) ((zcM k).map λi=>.loc (S.length+i)):=λg=>by simp only[aS,F1];rfl
      push_cast[wJ,e8];refine⟨_,_,sd _,_,rfl,_,sZ ok.1,?_⟩;have Z:aS (pV S k (λi=>some (.lst (eW j i))) (some (.dct (kN k) ((zcM k).map λi=>D.loc (S.length+i))))) (.loc (S.length+r.1))=.lst (eW j r.1):=by simp only[aS,yE ok.1];rfl
      rw[Z];refine⟨rfl,sz rfl,S.length+r.1,_,_,rfl,rfl,yE ok.1,?_,?_⟩
      ·have h1:(eW j r.1).length<=j.length:=by rw[eW,zbJ];exact zav ..
       rw[yaf];lia
      ·rw[Av ok.1];refine u _ _ ⟨j++[r],l,_,_,_,rfl,by rw[zbc];exact I,?_,rfl⟩;refine lX λi X=>?_;rw[x6];by_cases e:i=r.1
       ·rw[yIp e,yIp e,e];rfl
       ·rw[yIn e,yIn e]
  ·rintro x rest y m G N' ⟨k,v,hk,a,rfl,rfl,rfl⟩ u;have X:k<n:=by
    rcases zcA k n with h|h
    ·exact h
    ·rw[List.drop_of_length_le (by simpa using h)] at a;simp at a
   rw[zag (by simpa using X),zci,zaP] at a;injection a with e1 e2;subst e1;subst e2;refine⟨trivial,?_⟩;push_cast[vQ,if_true,cA,Cp,kH];refine⟨zcJ _,sz rfl,by rw[zbJ,zbe,yaf];lia,u _ _ _ ⟨k+1,_,X,rfl,?_,?_,rfl⟩⟩
   ·rw[zbU,zbS];simp
   ·rw[zbU,zbS,<-zbc];rfl
def Dt:AN:=λh S Q=>∃(n b:Nat)(e:List Nat)(a:List Mv),h=[mD n b e a]/\n<=60/\(∀m∈a,Bc n m)/\a.length<=60/\Q (.new (dc n a)) S
theorem NJ(T:Txt K mg C fi)(F:Src K mg "moves_near" kP (top 20))(a:Def P w K mg base 1 "by_stand" vW (av K O4)):Def P w K mg base 2 "moves_near" kP (av K Dt):=by
 refine cJ F LJ (λu S Q h=>?_) (λf v A outer s H E m=>?_)
 ·obtain⟨n,b,j,e,rfl,_⟩:=h;rfl
 ·refine⟨_,(To (Tv (TM a m (Th (Tq (Tg 0)) (Th (Tq (Tg 0)) Tr))))),λu S Q h=>?_⟩;obtain⟨n,b,j,e,rfl,l,i,o,q⟩:=h;have t:aK AZ [mD n b j e]=[some (mD n b j e)]:=rfl;rw[t];push_cast[mD,aq,bP,cX,at2,yI];refine⟨n,e,rfl,l,i,o,⟨.new (dc n e),?_,pJ,by rw[zbv];exact q⟩⟩;simp only[out];rw[yIp (vL i)]
def zm:AN:=λa S Q=>∃(l:Lf)(ms:List Str),a=[lD l,.lst (ms.map D.str)]/\nI l/\texts ms/\Q (.dat (.bl (hold l ms))) S
theorem JG(T:Txt K mg C fi)(F:Src K mg "holds" iW (top 4)):Def P w K mg base 1 "holds" iW (av K zm):=by
 refine cJ F HR (λy S Q h=>?_) (λf G A outer s H E i=>?_)
 ·obtain⟨l,ms,rfl,_⟩:=h;rfl
 ·refine⟨_,(Tj (TJ (Tw (TR i) (Tq (Tg 0)) Tz (aG _)) (To (Tv (T5 (Uk i) (Tq (Tg 0)) (Tg 1) rfl))) TL) (Tj (TJ (Tw (TR i) (Tq (Tg 0)) Tz (aG _)) (To (Tv (T5 (UL i) (Tq (Tg 0)) (Tg 1) rfl))) TL) (To (Tv (T5 (TR i) (Tq (Tg 0)) Tz (aG _)))))),λy S Q h=>?_⟩;obtain⟨l,ms,rfl,t,o,q⟩:=h;have v:aK wA [lD l,.lst (ms.map D.str)]=[some (lD l),some (.lst (ms.map D.str))]:=rfl;rw[v];push_cast[true_and];have inl:∀{a:Bool}{m:Str}{j:AK},fU m=true->j (.dat (.bl (a != decide (m∈ms)))) S->tV a (.str m) (.lst (ms.map D.str)) S j:=λ{a m j} h1 u=>
   lR (n:=0) (ss:=ms) h1 (by decide) (zbu.mpr o.2) (by rw[kc];exact u) (by have:=o.1;lia)
  cases l with
  |stay=>
   push_cast[lD,aq,bP,cX,at2];rw[yIn (by decide),yIn (by decide)];exact q
  |step b x=>
   push_cast[lD,aq,bP,cX,at2];rw[yIn (by decide),yIn (by decide),yDf (by decide)];exact q
  |mk b m=>
   push_cast[lD,aq,bP,cX,at2];cases b
   ·rw[yIn (by decide),yIp (by decide)];refine inl (oQ t) (aY rfl ?_);have e:(true != decide (m∈ms))=hold (.mk false m) ms:=by simp only[hold];cases decide (m∈ms)<;>rfl
    rw[e];exact q
   ·rw[yIp (by decide)];refine inl (oQ t) (aY rfl ?_);have e:(false != decide (m∈ms))=hold (.mk true m) ms:=by simp only[hold];cases decide (m∈ms)<;>rfl
    rw[e];exact q
def zd:AN:=λa S Q=>∃(l:Lf)(sd wd:Str),a=[lD l,.str sd,.str wd]/\nI l/\fU wd=true/\Q (.dat (.bl (take l sd wd))) S
theorem Jx(T:Txt K mg C fi)(F:Src K mg "takes" iO (top 5)):Def P w K mg base 1 "takes" iO (av K zd):=by
 refine cJ F HL (λo S Q h=>?_) (λf t A outer s H E a=>?_)
 ·obtain⟨l,sd,wd,rfl,_⟩:=h;rfl
 ·refine⟨_,(To (Tv (UE (T5 (TR a) (Tq (Tg 0)) Tz (aG _)) (UE (T5 (TR a) (Tq (Tg 0)) (Tg 1) (aG _)) (M.jG (T5 (Uk a) (Tq (Tg 0)) (TF (Th (Tg 2) (Tn T.MB))) rfl)))))),λo S Q h=>?_⟩;obtain⟨l,sd,wd,rfl,i,hw,q⟩:=h;have j:aK vZ [lD l,.str sd,.str wd]=[some (lD l),some (.str sd),some (.str wd)]:=rfl;rw[j];push_cast[true_and];cases l with
  |stay=>
   push_cast[lD,aq,bP,cX,at2];rw[yIn (by decide)];exact q
  |step b x=>
   push_cast[lD,aq,bP,cX,at2];rw[yIp (by decide)];refine ee (λh=>⟨sz rfl,eZ (n:=0) (ss:=[wd,"*"]) (yW i) (by decide) (by simp only[zck,List.all_nil,hw,zcp];decide+kernel) (aY rfl ?_) (by simp)⟩) (λh=>?_)
   ·have h:side b=sd:=of_decide_eq_true h;have e:(false != B5 (.str x) [wd,"*"])=take (.step b x) sd wd:=by
     simp only[take,h,decide_true,zcn,B5,zcj,List.any_nil,zcm,KY,zcc]
    rw[e];exact q
   ·have h:¬side b=sd:=λe=>h (yDt e);have e:take (.step b x) sd wd=false:=by simp only[take,yDf h,Bool.false_and]
    rw[e] at q;exact q
  |mk b m=>
   push_cast[lD,aq,bP,cX,at2];rw[yIn (by cases b<;>decide)];exact q
theorem n5{T:aL}{o:MO}{Q:AK}(h:lY S.length o=true)(q:Q (.new o) S):UI S (S++T) (.new o) Q:=by
 refine⟨.new o,?_,λk i e a=>.inl ?_,by rw[List.take_left];exact q⟩
 ·simp only[out];rw[yIp h]
 ·rw[zae e] at a;exact a
theorem F3(m:Nat)(ns:List Nat):lY m (.lst (nL ns))=true:=cK m _ (cQ ns)
theorem uh{ks:List Nat}{a:List Int}(j:a.Perm (ks.map λk:Nat=>(k:Int)))(i:a.Pairwise (· <=·)):∃e:List Nat,e.Perm ks/\e.Pairwise (· <=·)/\a.map D.int=nL e:=by
 obtain⟨e,h1,rfl⟩:=eU j;refine⟨e,h1,?_,by rw[zct];rfl⟩;rw[zbg] at i;exact i.imp λh=>by lia
def DA:AN:=λi S Q=>∃(n:Nat)(h:List Mv)(a:List Nat)(ms:List Str),i=[(dc n h).d,.lst (nL a),.lst (ms.map D.str)]/\n<=60/\(∀m∈h,Bc n m)/\h.length<=60/\(∀s∈a,s<n)/\a.length<=60/\texts ms/\
 ∀e:List Nat,e.Pairwise (· <=·)->e.Nodup->(∀x,x∈e↔Reach h ms a x)->Q (.new (.lst (nL e))) S
theorem NS(T:Txt K mg C fi)(F:Src K mg "gone_without_steps" kU (top 14))(ab:Def P w K mg base 1 "holds" iW (av K zm)):Def P w K mg base 2 "gone_without_steps" kU (av K DA):=by
 refine cJ F lC (λds S Q h=>?_) (λf cdv A outer s H E y=>?_)
 ·obtain⟨n,O,st,ms,rfl,_⟩:=h;rfl
 ·refine⟨_,(Tj (Tu 3 lC.nd (T6 (Ub (M.sE y) T.dict (Th (Uc ["stand"] [none] (TX (Tg 1)) (λ_ _ _ _=>UA) (λ_ _ _ _=>(TF (Th (Tg 0) (Tn T7))))) Tr)))) (Tj (Tu 4 lC.nd (T6 (Ub (M.sD y) T.list (Tn (Tg 3))))) (Tj (M.fR PassesOwn.never (Ua (Tg 4)) (Tj (Tu 5 lC.nd (M.xT PySem.F.plainAttrs_list PySem.F.slot_list_pop PySem.F.type_list_pop M.Qe (Tg 4))) (To (T4 PassesOwn.never rfl (TX (Uo (di y) (Tg 0) (Tg 5) (λ_ _=>rfl))) (Ui (n:=2) rfl (TU (TH 6 lC.nd) (TU (TH 7 lC.nd) Uj))) (To (TJ (Ud (UD (Tw (M.uL y) (Tg 7) (Tg 3) rfl) (UW (Ua (TM ab y (Th (Tg 6) (Tn (Tg 2)))))))) (Tj (M.iz (di y) (Tg 3) (Tg 7) T7 rfl) (To (T9 (Us PySem.F.plainAttrs_list PySem.F.slot_list_append PySem.F.type_list_append UC (Tg 4) (Tn (Tg 7)))))) TL)))))) (To (Tv (TN (M.zV y) T.sorted (Tn (Tg 3)))))))),λds S Q h=>?_⟩;obtain⟨n,O,st,ms,rfl,n6,hmv,hl,hst,hsl,hms,q⟩:=h;have e0:aK A6 [(dc n O).d,.lst (nL st),.lst (ms.map D.str)]=[some (dc n O).d,some (.lst (nL st)),some (.lst (ms.map D.str)),none,none,none,none,none]:=rfl;rw[e0];push_cast[cA,cL,cI,bT];refine s9 (λrest acc X t=>∃(u Z:List Nat)(v:Option D),rest=nL Z/\u++Z=st/\acc=u.map (λi:Nat=>D.tup [.int i,.bl true])/\t=S/\X=[v]) ?_ ?_ _ [] _ _ ⟨[],st,none,rfl,rfl,rfl,rfl,rfl⟩
  ·rintro acc X t ⟨u,Z,v,y,he,rfl,rfl,rfl⟩;have:Z=[]:=by cases Z with
    |nil=>rfl
    |cons _ _=>simp[nL] at y
   subst this;rw[zbK] at he;subst he;refine⟨trivial,_,u.map (λi:Nat=>(Sum.inl (i:Int),D.bl true)),rfl,?_,by rw[zbJ];lia,?_⟩
   ·rw[dO,zct];rfl
   ·have e1:m9 (u.map (λi:Nat=>(Sum.inl (i:Int),D.bl true)))=(pq (gF [] u),o9 (gF [] u)):=As u [];rw[e1];dsimp only;obtain⟨U,hk0⟩:∃U,U=gF [] u:=⟨_,rfl⟩
    rw[<-hk0];have hm0:∀x,x∈U↔x∈u:=λx=>by rw[hk0,oR];simp
    have hn0:U.Nodup:=by rw[hk0];exact j8 u [] .nil
    have yI:∀a b:MO,(t++[some a,some b])[t.length]? =some (some a):=λa b=>by simp
    have at4:∀a b:MO,(t++[some a,some b])[t.length+1]? =some (some b):=λa b=>by rw[zab (by lia)];simp
    have LC:∀a b c:MO,(t++[some a,some b]).set t.length (some c)=t++[some c,some b]:=λa b c=>by rw[zau _ _ (zcI _)];simp
    have Bu:∀a b c:MO,(t++[some a,some b]).set (t.length+1) (some c)=t++[some a,some c]:=λa b c=>by rw[zau _ _ (by lia)];simp
    have w9:∀a b:MO,aS (t++[some a,some b]) (.loc t.length)=a.d:=λa b=>by simp only[aS,yI]
    have ur:∀a b:MO,aS (t++[some a,some b]) (.loc (t.length+1))=b.d:=λa b=>by simp only[aS,at4]
    refine⟨_,pq U,o9 U,rfl,by simp only[aS,zab (zcI _),zcB];rfl,?_⟩;dsimp only;rw[show(pq U).map kD=nL U by unfold pq nL;rw[zct];rfl,show t++[some (MO.dct (pq U) (o9 U))]++[some (MO.lst (nL U))]=t++[some (fO U),some (.lst (nL U))] by rw[zbc];rfl,show zcH (t++[some (MO.dct (pq U) (o9 U))])=t.length+1 by simp];refine⟨λμ X S2=>∃(I ws:List Nat)(v5 v6 v7:Option D),X=[some (dc n O).d,some (.lst (nL u)),some (.lst (ms.map D.str)),some (.loc t.length),some (.loc (t.length+1)),v5,v6,v7]/\S2=t++[some (fO I),some (.lst (nL ws))]/\μ=n - I.length+ws.length/\I.Nodup/\(∀s∈u,s∈I)/\(∀k∈I,Reach O ms u k)/\(∀k∈ws,k∈I)/\(∀m∈O,m.1∈I->m.1 ∉ ws->hold m.2.1 ms=true->m.2.2∈I)/\ws.length<=I.length,⟨_,U,U,none,none,none,rfl,rfl,rfl,hn0,λs hs=>(hm0 s).mpr hs,λk W=>.base ((hm0 k).mp W),λk W=>W,λm hm h1 h2=>absurd h1 h2,zcI _⟩,?_⟩;rintro μ X S2 ⟨I,ws,v5,v6,v7,rfl,rfl,rfl,hn,h1,h2,h3,h4,h5⟩;have hlt:∀k∈I,k<n:=λk W=>(h2 k W).lt hmv hst;have hkl:=aW n I hn hlt;refine⟨_,rfl,!ws.isEmpty,by show dY (aS _ (.loc (t.length+1)))=_;rw[ur];cases ws<;>rfl,ee (λhw=>?_) (λhw=>?_)⟩
    ·obtain⟨L,a,rfl⟩:∃L a,ws=L++[a]:=by
      rcases List.eq_nil_or_concat ws with rfl|⟨l,a,rfl⟩
      ·simp at hw
      ·exact⟨l,a,by simp⟩
     have ha:a∈I:=h3 a (by simp);obtain⟨N,hN⟩:∃N:bx->aL->Prop,N=λX S2=>∃(j o:List Nat)(v5 v6 v7:Option D),X=[some (dc n O).d,some (.lst (nL u)),some (.lst (ms.map D.str)),some (.loc t.length),some (.loc (t.length+1)),v5,v6,v7]/\S2=t++[some (fO j),some (.lst (nL o))]/\n - j.length+o.length<n - I.length+(L++[a]).length/\
      j.Nodup/\(∀s∈u,s∈j)/\(∀k∈j,Reach O ms u k)/\(∀k∈o,k∈j)/\(∀m∈O,m.1∈j->m.1 ∉ o->hold m.2.1 ms=true->m.2.2∈j)/\o.length<=j.length:=⟨_,rfl⟩
     refine⟨N,?_,?_⟩
     ·rw[hN];rintro δ' S3 ⟨j,o,w5,w6,w7,g1,g2,g3,g4⟩;exact⟨_,g3,j,o,w5,w6,w7,g1,g2,rfl,g4⟩
     ·push_cast[Oj,QS];have et:nL (L++[a])=nL L++[.int (a:Int)]:=by simp[nL]
      refine⟨by rw[ur];rfl,_,rfl,_,at4 _ _,.int (a:Int),by rw[et];simp,?_⟩;rw[Bu,show(nL (L++[a])).dropLast=nL L by rw[et];simp];push_cast[dW,cI,e8];refine⟨kN n,_,rfl,_,rfl,_,sZ (hlt a ha),?_⟩;push_cast[bT];refine bf (λrest X S3=>∃(qm Y:List Mv)(j o:List Nat)(v6 v7:Option D),rest=Y.map pD/\qm++Y=O.filter (λm=>decide (m.1=a))/\X=[some (dc n O).d,some (.lst (nL u)),some (.lst (ms.map D.str)),some (.loc t.length),some (.loc (t.length+1)),some (.int a),v6,v7]/\S3=t++[some (fO j),some (.lst (nL o))]/\n - j.length+o.length=n - I.length+L.length/\j.Nodup/\(∀s∈u,s∈j)/\(∀k∈j,Reach O ms u k)/\(∀k∈o,k∈j)/\(∀m∈O,m.1∈j->m.1 ∉ o->m.1≠a->hold m.2.1 ms=true->m.2.2∈j)/\(∀m∈qm,hold m.2.1 ms=true->m.2.2∈j)/\o.length<=j.length/\a∈j) ?_ ?_ _ _ _ ⟨[],O.filter (λm=>decide (m.1=a)),I,L,v6,v7,rfl,rfl,rfl,rfl,rfl,hn,h1,h2,λk W=>h3 k (by simp[W]),λm hm g1 g2 g3=>h4 m hm g1 (by simp[g2,g3]),by simp,by simp at h5;lia,ha⟩
      ·rintro X S3 ⟨qm,Y,j,o,v6,v7,y,he,rfl,rfl,hm,g1,g2,g3,g4,g5,g6,g7,g8⟩;have:Y=[]:=by cases Y with
        |nil=>rfl
        |cons _ _=>simp at y
       subst this;rw[zbK] at he;refine⟨trivial,?_⟩;rw[hN];refine⟨j,o,_,_,_,rfl,rfl,by rw[zaM];show _<_+(_+1);lia,g1,g2,g3,g4,λm G k1 k2 k3=>?_,g7⟩;by_cases e:m.1=a
       ·exact g6 m (by rw[he];exact zbH.mpr ⟨G,yDt e⟩) k3
       ·exact g5 m G k1 k2 e k3
      ·rintro x rest X S3 N' ⟨qm,Y,j,o,v6,v7,y,he,rfl,rfl,hm,g1,g2,g3,g4,g5,g6,g7,g8⟩ hN';cases Y with
       |nil=>simp at y
       |cons r Y=>
        rw[zci] at y;injection y with e1 e2;subst e1;subst e2;have y:r∈O.filter (λm=>decide (m.1=a)):=by rw[<-he];simp
        have hrm:=(zbH.mp y).1;have hra:r.1=a:=of_decide_eq_true (zbH.mp y).2;have ok:=hmv r hrm;have he':(qm++[r])++Y=O.filter (λm=>decide (m.1=a)):=by rw[zbc];exact he
        refine⟨trivial,_,rfl,rfl,_,_,rfl,_,_,rfl,rfl,?_⟩;push_cast[yO,w9,Qy];refine⟨_,rfl,?_⟩;rw[Ab];refine ee (λhb=>?_) (λhb=>?_)
        ·have hb:r.2.2 ∉ j:=by simpa using hb
         refine⟨r.2.1,ms,rfl,ok.2.1,hms,_,rfl,ee (λhh=>?_) (λhh=>?_)⟩
         ·push_cast[pO,AJ,wJ];refine⟨_,rfl,pq j,o9 j,_,rfl,yI _ _,?_,?_⟩
          ·show(o9 j).length<1000;rw[o9,zbJ];have:=aW n j g1 λk W=>(g3 k W).lt hmv hst;lia
          ·rw[LC,EA,show ins j r.2.2=j++[r.2.2] from yIn hb];have nd:(j++[r.2.2]).Nodup:=by
            have:=lM (k:=r.2.2) g1
            rwa [show ins j r.2.2=j++[r.2.2] from yIn hb] at this
           have rc:∀k∈j++[r.2.2],Reach O ms u k:=λk W=>by
            rcases zbI.mp W with h|h
            ·exact g3 k h
            ·rw[zaO.mp h];exact .go (hra▸g3 a g8) hrm hh
           have hk1:=aW n _ nd λk W=>(rc k W).lt hmv hst;rw[zaM] at hk1;have hk1:j.length+1<=n:=hk1;refine⟨by rw[ur];rfl,_,nL o,_,rfl,rfl,at4 _ _,by rw[nL,zbJ,yaf];lia,?_⟩;rw[Bu,show nL o++[D.int (r.2.2:Int)]=nL (o++[r.2.2]) by simp[nL]];refine hN' _ _ ⟨qm++[r],Y,j++[r.2.2],o++[r.2.2],_,_,rfl,he',rfl,rfl,by rw[zaM,zaM];show n - (j.length+1)+(o.length+1)=_;lia,nd,λs hs=>zaz _ (g2 s hs),rc,λk W=>?_,λm G k1 k2 k3 k4=>?_,λm G k=>?_,by rw[zaM,zaM];lia,zaz _ g8⟩
           ·rcases zbI.mp W with h|h
            ·exact zaz _ (g4 k h)
            ·exact zas _ h
           ·rcases zbI.mp k1 with h|h
            ·exact zaz _ (g5 m G h (λh'=>k2 (zaz _ h')) k3 k4)
            ·exact absurd (zas _ h) k2
           ·rcases zbI.mp G with h|h
            ·exact zaz _ (g6 m h k)
            ·rw[zaO.mp h];simp
         ·exact hN' _ _ ⟨qm++[r],Y,j,o,_,_,rfl,he',rfl,rfl,hm,g1,g2,g3,g4,g5,λm G k=>by
           rcases zbI.mp G with h|h
           ·exact g6 m h k
           ·rw[zaO.mp h] at k;exact absurd k hh,g7,g8⟩
        ·have hb:r.2.2∈j:=by simpa using hb
         exact hN' _ _ ⟨qm++[r],Y,j,o,_,_,rfl,he',rfl,rfl,hm,g1,g2,g3,g4,g5,λm G k=>by
          rcases zbI.mp G with h|h
          ·exact g6 m h k
          ·rw[zaO.mp h];exact hb,g7,g8⟩
    ·have:ws=[]:=by simpa using hw
     subst this;refine⟨_,rfl,_,o9 I,I.map (λk:Nat=>(k:Int)),rfl,?_,by rw[zbJ];lia,λns' hp hs=>?_⟩
     ·show aS _ (.loc t.length)=_;rw[w9];show D.dct (pq I) (o9 I)=_;unfold pq;rw[zct];rfl
     ·obtain⟨Z,p1,p2,p3⟩:=uh hp hs;rw[p3];refine n5 (F3 _ _) (q Z p2 (p1.symm.nodup hn) λx=>?_);rw[p1.mem_iff];exact⟨h2 x,λhx=>hx.closed h1 λm hm W hh=>h4 m hm W (by simp) hh⟩
  ·rintro x rest acc X t N' ⟨u,Z,v,y,he,rfl,rfl,rfl⟩ hN';cases Z with
   |nil=>simp[nL] at y
   |cons r Z=>
    rw[nL,zci] at y;injection y with h1 h2;subst h1;subst h2;refine⟨trivial,?_⟩;push_cast[vQ,if_true];refine⟨sz rfl,by rw[zbJ,yaf];have:=congrArg zcH he;simp at this;lia,hN' _ _ _ ⟨u++[r],Z,_,rfl,by rw[zbc];exact he,by rw[zbS];rfl,rfl,rfl⟩⟩
def DC:AN:=λi S Q=>∃(n:Nat)(e:List Mv)(h:List Nat)(sd wd:Str),i=[(dc n e).d,.lst (nL h),.str sd,.str wd]/\n<=60/\(∀m∈e,Bc n m)/\e.length<=60/\(∀s∈h,s<n)/\fU wd=true/\
 ∀a:List Nat,a.Pairwise (· <=·)->a.Nodup->(∀x,x∈a↔Oo e h sd wd x)->Q (.new (.lst (nL a))) S
theorem Df{i:List Mv}{st:List Nat}{a:Nat}{sd wd:Str}{x:Nat}:Oo i (st++[a]) sd wd x↔Oo i st sd wd x∨∃m∈i.filter (λm=>decide (m.1=a)),take m.2.1 sd wd=true/\m.2.2=x:=by
 constructor
 ·rintro⟨m,h1,h2,e⟩;rcases zbI.mp h2 with h|h
  ·exact .inl ⟨m,h1,h,e⟩
  ·exact .inr ⟨m,zbH.mpr ⟨h1,yDt (zaO.mp h)⟩,e⟩
 ·rintro(⟨m,h1,h2,e⟩|⟨m,h1,h2⟩)
  ·exact⟨m,h1,zaz _ h2,e⟩
  ·obtain⟨h1,e⟩:=zbH.mp h1;exact⟨m,h1,zas _ (by rw[of_decide_eq_true e];simp),h2⟩
theorem NU(T:Txt K mg C fi)(F:Src K mg "gone_by_step" kX (top 15))(v:Def P w K mg base 1 "takes" iO (av K zd)):Def P w K mg base 2 "gone_by_step" kX (av K DC):=by
 refine cJ F nW (λds S Q h=>?_) (λf cdv A outer s H E i=>?_)
 ·obtain⟨n,o,W,sd,wd,rfl,_⟩:=h;rfl
 ·refine⟨_,(Tj (Tu 4 nW.nd (T6 M.fT)) (Tj (T4 PassesOwn.never rfl (TX (Tg 1)) (TH 5 nW.nd) (To (T4 PassesOwn.never rfl (TX (Uo (di i) (Tg 0) (Tg 5) (λ_ _=>rfl))) (Ui (n:=2) rfl (TU (TH 6 nW.nd) (TU (TH 7 nW.nd) Uj))) (To (TJ (Ua (TM v i (Th (Tg 6) (Th (Tg 2) (Tn (Tg 3)))))) (To (M.iz (di i) (Tg 4) (Tg 7) T7 rfl)) TL))))) (To (Tv (TN (M.zV i) T.sorted (Tn (Tg 4))))))),λds S Q h=>?_⟩;obtain⟨n,o,W,sd,wd,rfl,n6,hmv,hl,hst,hwd,q⟩:=h;have e0:aK A8 [(dc n o).d,.lst (nL W),.str sd,.str wd]=[some (dc n o).d,some (.lst (nL W)),some (.str sd),some (.str wd),none,none,none,none]:=rfl;rw[e0];have at4:∀a:MO,(S++[some a])[S.length]? =some (some a):=λa=>by simp
  have Bu:∀a c:MO,(S++[some a]).set S.length (some c)=S++[some c]:=λa c=>by rw[zau _ _ (zcI _)];simp
  have ur:∀a:MO,aS (S++[some a]) (.loc S.length)=a.d:=λa=>by simp only[aS,at4]
  push_cast[dW,cI,bT,cA,tO];refine bf (λrest U S2=>∃(Z G y:List Nat)(v5 O L:Option D),rest=nL G/\Z++G=W/\U=[some (dc n o).d,some (.lst (nL W)),some (.str sd),some (.str wd),some (.loc S.length),v5,O,L]/\S2=S++[some (fO y)]/\y.Nodup/\(∀k∈y,k<n)/\∀x,x∈y↔Oo o Z sd wd x) ?_ ?_ _ _ _
   ⟨[],W,[],none,none,none,rfl,rfl,rfl,rfl,.nil,by simp,λx=>⟨λh=>by simp at h,λ⟨m,_,h,_⟩=>by simp at h⟩⟩
  ·rintro U S2 ⟨Z,G,y,v5,O,L,i,he,rfl,rfl,hn,Y,hx⟩;have:G=[]:=by cases G with
    |nil=>rfl
    |cons _ _=>simp[nL] at i
   subst this;rw[zbK] at he;subst he;have hkl:=aW n y hn Y;refine⟨trivial,?_⟩;push_cast[true_and];refine⟨_,o9 y,y.map (λk:Nat=>(k:Int)),rfl,?_,by rw[zbJ];lia,λns' hp hs=>?_⟩
   ·rw[ur,Qy];unfold pq;rw[zct];rfl
   ·obtain⟨rs,p1,p2,p3⟩:=uh hp hs;rw[p3];refine n5 (F3 _ _) (q rs p2 (p1.symm.nodup hn) λx=>?_);rw[p1.mem_iff,hx]
  ·rintro x rest U S2 N' ⟨Z,G,y,v5,O,L,i,he,rfl,rfl,hn,Y,hx⟩ hN';cases G with
   |nil=>simp[nL] at i
   |cons a G=>
    rw[nL,zci] at i;injection i with e1 e2;subst e1;subst e2;have ha:a<n:=hst a (by rw[<-he];simp);refine⟨trivial,?_⟩;push_cast[dW,cI,e8];refine⟨kN n,_,rfl,_,rfl,_,sZ ha,?_⟩;push_cast[bT];refine bf (λrest U S3=>∃(X l:List Mv)(e:List Nat)(O L:Option D),rest=l.map pD/\X++l=o.filter (λm=>decide (m.1=a))/\U=[some (dc n o).d,some (.lst (nL W)),some (.str sd),some (.str wd),some (.loc S.length),some (.int a),O,L]/\S3=S++[some (fO e)]/\e.Nodup/\(∀k∈e,k<n)/\∀x,x∈e↔Oo o Z sd wd x∨∃m∈X,take m.2.1 sd wd=true/\m.2.2=x) ?_ ?_ _ _ _ ⟨[],o.filter (λm=>decide (m.1=a)),y,O,L,rfl,rfl,rfl,rfl,hn,Y,λx=>by rw[hx];simp⟩
    ·rintro U S3 ⟨X,l,e,O,L,i,u,rfl,rfl,t,j,I⟩;have:l=[]:=by cases l with
      |nil=>rfl
      |cons _ _=>simp at i
     subst this;rw[zbK] at u;subst u;exact⟨trivial,hN' _ _ ⟨Z++[a],G,e,_,_,_,rfl,by rw[zbc];exact he,rfl,rfl,t,j,λx=>by rw[I,Df]⟩⟩
    ·rintro x rest U S3 N2 ⟨X,l,e,O,L,i,u,rfl,rfl,t,j,I⟩ hN2;cases l with
     |nil=>simp at i
     |cons r l=>
      rw[zci] at i;injection i with e1 e2;subst e1;subst e2;have i:r∈o.filter (λm=>decide (m.1=a)):=by rw[<-u];simp
      have hrm:=(zbH.mp i).1;have ok:=hmv r hrm;have he':(X++[r])++l=o.filter (λm=>decide (m.1=a)):=by rw[zbc];exact u
      refine⟨trivial,_,rfl,rfl,_,_,rfl,_,_,rfl,rfl,?_⟩;push_cast[true_and];refine⟨r.2.1,sd,wd,rfl,ok.2.1,hwd,_,rfl,ee (λhh=>?_) (λhh=>?_)⟩
      ·push_cast[pO];refine⟨_,rfl,pq e,o9 e,_,rfl,at4 _,?_,?_⟩
       ·show(o9 e).length<1000;rw[o9,zbJ];have:=aW n e t j;lia
       ·rw[Bu,EA];refine hN2 _ _ ⟨X++[r],l,_,_,_,rfl,he',rfl,rfl,lM t,λk hk=>?_,λx=>?_⟩
        ·rcases sN.mp hk with h|h
         ·exact j k h
         ·rw[h];exact ok.2.2
        ·rw[sN,I,or_assoc];refine or_congr Iff.rfl ⟨?_,?_⟩
         ·rintro(⟨m,h1,h2⟩|rfl)
          ·exact⟨m,zaz _ h1,h2⟩
          ·exact⟨r,by simp,hh,rfl⟩
         ·rintro⟨m,h1,h2⟩;rcases zbI.mp h1 with h|h
          ·exact .inl ⟨m,h,h2⟩
          ·rw[zaO.mp h] at h2;exact .inr h2.2.symm
      ·refine hN2 _ _ ⟨X++[r],l,e,_,_,rfl,he',rfl,rfl,t,j,λx=>?_⟩;rw[I];refine or_congr Iff.rfl ⟨?_,?_⟩
       ·rintro⟨m,h1,h2⟩;exact⟨m,zaz _ h1,h2⟩
       ·rintro⟨m,h1,h2⟩;rcases zbI.mp h1 with h|h
        ·exact⟨m,h,h2⟩
        ·rw[zaO.mp h] at h2;exact absurd h2.1 hh
open PySem L2 M M6
noncomputable abbrev wD:List Str:=["web","near","begin","ends","way","stands","side","word","knot"]
noncomputable abbrev iY:=wD.take 5
theorem gq:aA wD iY (ah (top 16)):=L2.bR
noncomputable abbrev A7:List Str:=["web","machine","way"]
noncomputable abbrev kW:=A7
theorem LO:aA A7 kW (ah (top 19)):=L2.bR
abbrev Sp:=Bool×Str×Str
noncomputable def gZ(s:Sp):D:=.tup [.str (side s.1),.str s.2.1,.str s.2.2]
noncomputable def pW(k:Str)(ss:List Sp):D:=.tup [.str k,.tup (ss.map gZ)]
noncomputable def Qg(k:Str)(ss:List Sp):Nat->Str
 |0=>k
 |i+1=>(ss[i]?.map (·.2.2)).getD k
noncomputable def wr(mk:Str->List Str)(k:Str)(ss:List Sp):Wr:=⟨λi=>mk (Qg k ss i),λi=>(ss[i]?.map (side ·.1)).getD "",λi=>(ss[i]?.map (·.2.1)).getD ""⟩
theorem uR{y:Str}:∀(ms a:List Str),y∈a∨y∈ms->y∈ms.foldl mk1 a
 |[],a,h=>h.elim id λz=>by simp at z
 |m::ms,a,h=>by
  rw[zbQ];refine uR ms _ ?_;unfold mk1;rcases h with h|h
  ·left;split
   ·exact h
   ·exact zaz _ h
  ·rcases zch.mp h with rfl|h
   ·left;split
    ·assumption
    ·simp
   ·exact .inr h
theorem IL{y:Str}:y∈wF ms↔y∈ms:=⟨sM,λh=>uR ms [] (.inr h)⟩
theorem o7{l:Lf}{a b:List Str}(h:∀y,y∈a↔y∈b):hold l a=hold l b:=by
 cases l with
 |mk c m=>unfold hold;simp only[h m]
 |_=>rfl
theorem mq{e:List Mv}{a b:List Str}{st:List Nat}{x:Nat}(h:∀y,y∈a↔y∈b):Reach e a st x↔Reach e b st x:=by
 constructor
 ·intro r
  induction r with
  |base z=>exact .base z
  |go _ h1 h2 ih=>exact .go ih h1 (o7 h▸h2)
 ·intro r
  induction r with
  |base z=>exact .base z
  |go _ h1 h2 ih=>exact .go ih h1 ((o7 h).trans h2)
theorem Ax{W:Wr}{a:List Mv}(x:Nat):x∈[0]↔Bf W a 0 x:=by
 unfold Bf;simp
def mP(ks:List Kn)(k:Str)(ss:List Sp):Prop:=k∈nms ks/\∀s∈ss,s.2.2∈nms ks/\fU s.2.1=true
def zq(C:Addr)(W:yak):AN:=λo S Q=>∃(a n b:Nat)(j:List Mv)(h:List Kn)(l:List Ti)(k:Str)(i:List Sp),o=[.loc a,(dc n j).d,.int (0:Nat),.tup (nL [1]),pW k i]/\(∃L m t e ns,cM C W b L S a m t e ns h l)/\(nms h).Nodup/\mP h k i/\0<n/\n<=60/\(∀m∈j,Bc n m)/\j.length<=60/\
 (∀k∈h,texts k.2)/\∀v:Bool,(v=true↔Rc (wr (aP h) k i) j 1 i.length)->Q (.dat (.bl v)) S
theorem JJ(T:Txt K mg C fi)(F:Src K mg "goes_along" iY (top 16))(i:Def P w K mg base 2 "gone_without_steps" kU (av K DA))(j:Def P w K mg base 2 "gone_by_step" kX (av K DC))(k8:i6 P w K mg base 2 C "marks" pP (Ku C w)):Def P w K mg base 3 "goes_along" iY (av K (zq C w)):=by
 refine cJ F gq (λds S Q h=>?_) (λf cdv A outer s H E G=>?_)
 ·obtain⟨a,n,b,U,l,ts,k,o,rfl,_⟩:=h;rfl
 ·refine⟨_,(Tj (Tu 5 gq.nd (TM i G (Th (Tg 1) (Th (TQ (Tn (Tg 2))) (Th (Ut (Tg 0) T.cl k8 (G.mono (by decide)) (Th (Tq (Tg 4)) Tr)) Tr))))) (Tj (T4 PassesOwn.never rfl (TX (Tq (Tg 4))) (Ui (n:=3) rfl (TU (TH 6 gq.nd) (TU (TH 7 gq.nd) (TU (TH 8 gq.nd) Uj)))) (Tj (Tu 5 gq.nd (TM j G (Th (Tg 1) (Th (Tg 5) (Th (Tg 6) (Tn (Tg 7))))))) (To (Tu 5 gq.nd (TM i G (Th (Tg 1) (Th (Tg 5) (Th (Ut (Tg 0) T.cl k8 (G.mono (by decide)) (Tn (Tg 8))) Tr)))))))) (To (Tv (T5 M.R8 (M.lI rfl (by rfl) T.len (by rfl) T.set (Tg 5) (Tg 3)) Tp (aG _)))))),λds S Q h=>?_⟩;obtain⟨a,n,b,U,l,ts,k,o,rfl,⟨L,m,t,e,ns,X⟩,hn,hw,n0,n6,v,hl,htx,q⟩:=h;have e0:aK wD [.loc a,(dc n U).d,.int (0:Nat),.tup (nL [1]),pW k o]=[some (.loc a),some (dc n U).d,some (.int (0:Nat)),some (.tup (nL [1])),some (pW k o),none,none,none,none]:=rfl;rw[e0];push_cast[pW,aq,bP,cX];have tx:∀y,y∈nms l->(Ks (wF (aP l y))).Perm (wF (aP l y))->texts (Ks (wF (aP l y)))/\∀z,z∈Ks (wF (aP l y))↔z∈aP l y:=λy hy Y=>by
   have h1:=htx _ (b9 hy);have h2:∀z,z∈Ks (wF (aP l y))↔z∈aP l y:=λz=>by rw[Y.mem_iff,IL]
   refine⟨⟨?_,λz hz=>h1.2 z ((h2 z).mp hz)⟩,h2⟩;rw[Y.length_eq];exact zcw (L2.lK (lN _) λy hy=>sM hy) h1.1
  refine⟨sz rfl,dH rfl X.at_ (by decide+kernel) ?_⟩;push_cast[aq,bP,cX];refine⟨a,b,l,ts,(k,aP l k),rfl,⟨L,m,t,e,ns,X⟩,hn,b9 hw.1,λY=>?_⟩;obtain⟨t1,t2⟩:=tx k hw.1 Y;refine⟨n,U,[0],_,rfl,n6,v,hl,by simp;exact n0,by decide,t1,λrs r1 r2 r3=>?_⟩;push_cast[dW,cI,bT,aq,bP,cX];refine bf (λrest δ S2=>∃(O q2:List Sp)(I:List Nat)(v6 v7 v8:Option D),rest=q2.map gZ/\O++q2=o/\S2=S/\δ=[some (.loc a),some (dc n U).d,some (.int (0:Nat)),some (.tup (nL [1])),some (.tup [.str k,.tup (o.map gZ)]),some (.lst (nL I)),v6,v7,v8]/\I.Nodup/\(∀x∈I,x<n)/\∀x,x∈I↔Rc (wr (aP l) k o) U x O.length) ?_ ?_ _ _ _ ⟨[],o,rs,none,none,none,rfl,rfl,rfl,rfl,r2,λx hx=>((r3 x).mp hx).lt v (by simp;exact n0),λx=>?_⟩
  ·rintro δ S2 ⟨O,q2,I,v6,v7,v8,G,Z,rfl,rfl,h1,h2,h3⟩;have:q2=[]:=by cases q2 with
    |nil=>rfl
    |cons _ _=>simp at G
   subst this;rw[zbK] at Z;subst Z;refine⟨trivial,?_⟩;push_cast[tM,Jd];have hsl:=aW n I h1 h2;refine⟨I.map (λk:Nat=>(k:Int)),.inr (by rw[zct];rfl),by rw[zbJ];lia,[1],.inl rfl,by decide,λu hu=>?_⟩;refine q _ ?_;rw[<-h3 1,decide_eq_true_iff];constructor
   ·intro hlt;cases u with
    |nil=>simp at hlt
    |cons y u=>
     obtain⟨g1,g2⟩:=(hu y).mp (by simp);obtain⟨z,hz,rfl⟩:=zcu.mp g1;have:z=1:=by have:=zaO.mp g2;lia
     rw[<-this];exact hz
   ·intro hm;have:(1:Int)∈u:=(hu 1).mpr ⟨zcu.mpr ⟨1,hm,rfl⟩,by simp⟩;have:=zao this;lia
  ·rintro x rest δ S2 N' ⟨O,q2,I,v6,v7,v8,G,Z,rfl,rfl,h1,h2,h3⟩ hN';cases q2 with
   |nil=>simp at G
   |cons r q2=>
    rw[zci] at G;injection G with e1 e2;subst e1;subst e2;have hrm:r∈o:=by rw[<-Z];simp
    obtain⟨o1,o2⟩:=hw.2 r hrm;have hsl:=aW n I h1 h2;have ai:o[O.length]? =some r:=by rw[<-Z,zab (zcI _)];simp
    refine⟨trivial,_,rfl,rfl,_,_,rfl,_,_,rfl,_,_,rfl,rfl,?_⟩;push_cast[true_and];refine⟨n,U,I,side r.1,r.2.1,rfl,n6,v,hl,h2,o2,λt3 _ n3 m3=>?_⟩;refine dH rfl X.at_ (by decide+kernel) ?_;push_cast[true_and];refine⟨a,b,l,ts,(r.2.2,aP l r.2.2),rfl,⟨L,m,t,e,ns,X⟩,hn,b9 o1,λY=>?_⟩;obtain⟨t1,t2⟩:=tx _ o1 Y;have l3:∀x∈t3,x<n:=λx hx=>by
     obtain⟨m',g1,g2,g3,rfl⟩:=(m3 x).mp hx;exact(v m' g1).2.2
    refine⟨n,U,t3,_,rfl,n6,v,hl,l3,by have:=aW n t3 n3 l3;lia,t1,λt4 _ n4 m4=>?_⟩;refine hN' _ _ ⟨O++[r],q2,t4,_,_,_,rfl,by rw[zbc];exact Z,rfl,rfl,n4,λx hx=>((m4 x).mp hx).lt v l3,λx=>?_⟩;have w1:(wr (aP l) k o).sd O.length=side r.1:=by simp[wr,ai]
    have w2:(wr (aP l) k o).wd O.length=r.2.1:=by simp[wr,ai]
    have w3:(wr (aP l) k o).ms (O.length+1)=aP l r.2.2:=by simp[wr,Qg,ai]
    rw[m4,mq t2,<-w3,zaM];refine jZ (λy=>?_) x;rw[m3,<-w1,<-w2];exact Dg h3 y
  ·rw[r3,mq t2];exact jZ (W:=wr (aP l) k o) Ax x
def DB(C:Addr)(W:yak):AN:=λo S Q=>∃(a n b:Nat)(j:List Mv)(h:List Kn)(l:List Ti)(k:Str)(i:List Sp),o=[.loc a,mD n 0 [1] j,pW k i]/\(∃L m t e ns,cM C W b L S a m t e ns h l)/\(nms h).Nodup/\mP h k i/\0<n/\n<=60/\(∀m∈j,Bc n m)/\j.length<=60/\
 (∀k∈h,texts k.2)/\∀v:Bool,(v=true↔Rc (wr (aP h) k i) j 1 i.length)->Q (.dat (.bl v)) S
theorem NT(T:Txt K mg C fi)(F:Src K mg "goes" kW (top 19))(e:Def P w K mg base 2 "moves_near" kP (av K Dt))(i:Def P w K mg base 3 "goes_along" iY (av K (zq C w))):Def P w K mg base 4 "goes" kW (av K (DB C w)):=by
 refine cJ F LO (λW S Q h=>?_) (λf Y A outer s H E y=>?_)
 ·obtain⟨a,n,b,j,x,t,k,m,rfl,_⟩:=h;rfl
 ·refine⟨_,(To (Tv (TM i y (Th (Tg 0) (Th (TM e y (Tn (Tg 1))) (Th (Tq (Tg 1)) (Th (Tq (Tg 1)) (Tn (Tg 2))))))))),λW S Q h=>?_⟩;obtain⟨a,n,b,j,x,t,k,m,rfl,X,O,hw,I,u,l,G,o,q⟩:=h;have U:aK A7 [.loc a,mD n 0 [1] j,pW k m]=[some (.loc a),some (mD n 0 [1] j),some (pW k m)]:=rfl;rw[U];push_cast[true_and];refine⟨n,0,[1],j,rfl,u,l,G,?_⟩;push_cast[mD,aq,bP,cX,at2,yI];refine⟨a,n,b,j,x,t,k,m,rfl,X,O,hw,I,u,l,G,o,λv L=>?_⟩;exact aY rfl (q v L)
open PySem L2 M M6
noncomputable abbrev wu:List Str:=["_law_rows_here","_law_machine","_law_way","_law_stands","_law_side","_law_word","_law_knot"]
noncomputable abbrev iU:=wu.take 3
theorem ja:aA wu iU (ah (top 46)):=L2.bR
noncomputable abbrev ux:Stmt:=top 42
noncomputable abbrev Ba:List Str:=["_law_pattern_here","_law_steps_here","_law_marks_here","_law_begins","_law_some","_law_part_here","_law_found","_law_many"]
noncomputable abbrev dN:=Ba.take 4
theorem dU:aA Ba dN (ah ux):=L2.bR
noncomputable abbrev A9:List Str:=["_law_rows_here","_law_pattern_here","_law_way","_law_marks_here"]
noncomputable abbrev kY:=A9.take 3
theorem DO:aA A9 kY (ah (top 43)):=L2.bR
noncomputable def ia(ks:List Kn)(ts:List Ti):D:=.tup [.dct (ic ks) (ks.map λk=>.lst (k.2.map D.str)),.lst (ts.map T3)]
theorem lU{x:Str}:∀{ks:List Kn},x∈nms ks->kE (ic ks) (ks.map λk=>D.lst (k.2.map D.str)) (.inr x)=some (.lst ((aP ks x).map D.str))
 |[],h=>by simp[nms] at h
 |k::ks,h=>by
  have a:=lU (x:=x) (ks:=ks);unfold kE ic aP at a⊢;rw[zci,zci,zaN,zbN,zbN];by_cases e:k.1=x
  ·subst e;simp
  ·have i:¬(Sum.inr k.1:Key)=.inr x:=λz=>e (by injection z);rw[yDf e,yDf i];rcases zch.mp (show x∈k.1::nms ks from h) with z|z
   ·exact absurd z.symm e
   ·exact a z
theorem bK{α:Type}{P:aL->Prop}{t:AT}{e:AE}{Q:List D->aL->Prop}{δ:bx}{S:aL}(g:α->D)(c:α->Bool)(f:α->D)(m:P S):∀(as:List α)(i:List D)(h:bx),h.set 0 none=δ.set 0 none->
  (∀a∈as,∀Q:Bool->aL->Prop,Q (c a) S->t (δ.set 0 (some (g a))) S Q)->(∀a∈as,∀Q:AK,Q (.dat (f a)) S->e (δ.set 0 (some (g a))) S Q)->i.length+as.length<=yag->Q (i++(as.filter c).map f) S->
  gV P (bW 0) t e (as.map g) i h S Q
 |[],i,h,_,_,_,_,q=>⟨m,by simpa using q⟩
 |a::as,i,h,hd,ht,he,hl,q=>by
  refine⟨m,?_⟩;have o:h.set 0 (some (g a))=δ.set 0 (some (g a)):=by
   have:=congrArg (λl=>l.set 0 (some (g a))) hd;simpa[List.set_set] using this
  show bW 0 (g a) h S _;simp only[bW];rw[o];simp only[zbq] at hl;refine ht a (by simp) _ ?_;cases n:c a with
  |true=>
   rw[yIp rfl];refine he a (by simp) _ ⟨by lia,?_⟩;refine bK g c f m as _ _ (by simp[List.set_set]) (λx j=>ht x (by simp[j])) (λx j=>he x (by simp[j])) (by simp;lia) ?_;rw[zbD,n,yIp rfl,zci] at q;simpa[R.d,zbc] using q
  |false=>
   rw[yIn (by decide)];refine bK g c f m as _ _ (by simp[List.set_set]) (λx j=>ht x (by simp[j])) (λx j=>he x (by simp[j])) (by lia) ?_;rw[zbD,n,yIn (by decide)] at q;exact q
theorem ne_nil{d:D}{ns:List Nat}{Q:AK}(hd:aS S d=.lst (nL ns))(e:ns.length<=100)(q:Q (.dat (.bl (!decide (ns=[])))) S):Hj d (.lst []) S Q:=by
 unfold Hj;rw[hd,dO];refine⟨eN (C4 e).1 (by decide),rfl,?_⟩;have:PyData.eqv (py (.lst (nL ns))) (py (.lst []))=decide (ns=[]):=by
  cases ns with
  |nil=>rfl
  |cons a r=>simp[nL,py,fj,PyData.eqv,PyData.eqvAll]
 rw[this];exact q
def zk:AN:=λj S Q=>∃(n:Nat)(h:List Mv)(a:List Kn)(i:List Ti)(k:Str)(e:List Sp),j=[ia a i,mD n 0 [1] h,pW k e]/\(nms a).Nodup/\mP a k e/\0<n/\n<=60/\(∀m∈h,Bc n m)/\h.length<=60/\
 (∀k∈a,texts k.2)/\∀v:Bool,(v=true↔Rc (wr (aP a) k e) h 1 e.length)->Q (.dat (.bl v)) S
theorem JE(T:Txt K mg C fi)(F:Src K mg "_law_gone" iU (top 46))(a:Def P w K mg base 1 "_law_still" iP (av K ze))(m:Def P w K mg base 1 "_law_by" pR (av K Kw)):Def P w K mg base 2 "_law_gone" iU (av K zk):=by
 refine cJ F ja (λds S Q h=>?_) (λf cdv A outer s H E j=>?_)
 ·obtain⟨n,u,o,O,k,i,rfl,_⟩:=h;rfl
 ·refine⟨_,(Tj (Tu 3 ja.nd (TM a j (Th (Tg 1) (Th (TQ (Th (Tq (Tg 1)) Tr)) (Th (Uo (di j) (Tq (Tg 0)) (Tq (Tg 2)) (λ_ _=>rfl)) Tr))))) (Tj (T4 PassesOwn.never rfl (TX (Tq (Tg 2))) (Ui (n:=3) rfl (TU (TH 4 ja.nd) (TU (TH 5 ja.nd) (TU (TH 6 ja.nd) Uj)))) (To (Tu 3 ja.nd (TM a j (Th (Tg 1) (Th (TM m j (Th (Tg 1) (Th (Tg 3) (Th (Tg 4) (Tn (Tg 5)))))) (Th (Uo (di j) (Tq (Tg 0)) (Tg 6) (λ_ _=>rfl)) Tr))))))) (To (Tv (T5 (Uz j) (Uc ["_law_stand","_law_machine"] [none,some 1] (TX (Tg 3)) (λ_ _ _ _=>(Uu (Tw (Uk j) (Tg 0) (Tq (Tg 1)) rfl))) (λ_ _ _ _=>(Tg 0))) (TQ Tr) (aG _)))))),λds S Q h=>?_⟩;obtain⟨n,u,o,O,k,i,rfl,hn,hw,n0,n6,l,hl,I,q⟩:=h;have e0:aK wu [ia o O,mD n 0 [1] u,pW k i]=[some (ia o O),some (mD n 0 [1] u),some (pW k i),none,none,none,none]:=rfl;rw[e0];push_cast[ia,pW,mD,aq,bP,cX,at2,yI,e8];refine⟨sz rfl,_,_,rfl,_,rfl,_,lU hw.1,n,0,[1],u,[0],_,rfl,n6,l,hl,by simp;exact n0,by simp,I _ (b9 hw.1),λrs r2 r3=>?_⟩;push_cast[dW,cI,bT,aq,bP,cX];refine bf (λrest δ S2=>∃(t q2:List Sp)(e:List Nat)(Y X U:Option D),rest=q2.map gZ/\t++q2=i/\S2=S/\δ=[some (ia o O),some (mD n 0 [1] u),some (pW k i),some (.lst (nL e)),Y,X,U]/\e.Nodup/\(∀x∈e,x<n)/\∀x,x∈e↔Rc (wr (aP o) k i) u x t.length) ?_ ?_ _ _ _ ⟨[],i,rs,none,none,none,rfl,rfl,rfl,rfl,r2,λx G=>((r3 x).mp G).lt l (by simp;exact n0),λx=>?_⟩
  ·rintro δ S2 ⟨t,q2,e,Y,X,U,j,v,rfl,rfl,h1,h2,h3⟩;have:q2=[]:=by cases q2 with
    |nil=>rfl
    |cons _ _=>simp at j
   subst this;rw[zbK] at v;subst v;have hsl:=aW n e h1 h2;refine⟨trivial,?_⟩;push_cast[cL,cI,bT];refine bK (α:=Nat) (δ:=[none,some (mD n 0 [1] u)]) (λz:Nat=>D.int z) (λz=>decide (z∈[1])) (λz:Nat=>D.int z) trivial e [] _ rfl (λz hz Q' Z=>?_) (λz hz Q' Z=>⟨_,rfl,Z⟩) (by rw[yaf];show 0+e.length<=_;lia) ?_
   ·push_cast[mD,aq,bP,cX,at2,yI];refine lT (.inr rfl) (by decide) ?_;exact⟨_,rfl,by simpa using Z⟩
   ·refine⟨zcJ _,ne_nil (ns:=e.filter λz=>decide (z∈[1])) rfl (zcw (zav ..) (by lia)) (aY rfl (q _ ?_))⟩;rw[<-h3 1];constructor
    ·intro L;have L:e.filter (λz=>decide (z∈[1]))≠[]:=by simpa using L
     obtain⟨z,hz⟩:=List.exists_mem_of_ne_nil _ L;obtain⟨g1,g2⟩:=zbH.mp hz;have:z=1:=by simpa using g2
     rw[<-this];exact g1
    ·intro hm;have L:e.filter (λz=>decide (z∈[1]))≠[]:=List.ne_nil_of_mem (zbH.mpr ⟨hm,by decide⟩);rw[yDf L];rfl
  ·rintro x rest δ S2 N' ⟨t,q2,e,Y,X,U,j,v,rfl,rfl,h1,h2,h3⟩ hN';cases q2 with
   |nil=>simp at j
   |cons r q2=>
    rw[zci] at j;injection j with e1 e2;subst e1;subst e2;have hrm:r∈i:=by rw[<-v];simp
    obtain⟨o1,o2⟩:=hw.2 r hrm;have hsl:=aW n e h1 h2;have ai:i[t.length]? =some r:=by rw[<-v,zab (zcI _)];simp
    refine⟨trivial,_,rfl,rfl,_,_,rfl,_,_,rfl,_,_,rfl,rfl,?_⟩;push_cast[true_and];refine⟨n,0,[1],u,e,side r.1,r.2.1,rfl,n6,l,hl,h2,by lia,o2,λt3 n3 m3=>?_⟩;push_cast[e8,ia,aq,bP];have l3:∀x∈t3,x<n:=λx G=>by
     obtain⟨m',g1,g2,g3,rfl⟩:=(m3 x).mp G;exact(l m' g1).2.2
    refine⟨_,_,rfl,_,rfl,_,lU o1,n,0,[1],u,t3,_,rfl,n6,l,hl,l3,n3,I _ (b9 o1),λt4 n4 m4=>?_⟩;refine hN' _ _ ⟨t++[r],q2,t4,_,_,_,rfl,by rw[zbc];exact v,rfl,rfl,n4,λx G=>((m4 x).mp G).lt l l3,λx=>?_⟩;have w1:(wr (aP o) k i).sd t.length=side r.1:=by simp[wr,ai]
    have w2:(wr (aP o) k i).wd t.length=r.2.1:=by simp[wr,ai]
    have w3:(wr (aP o) k i).ms (t.length+1)=aP o r.2.2:=by simp[wr,Qg,ai]
    rw[m4,<-w3,zaM];refine jZ (λy=>?_) x;rw[m3,<-w1,<-w2];exact Dg h3 y
  ·rw[r3];exact jZ (W:=wr (aP o) k i) Ax x
open PySem L2 M M6
section
variable {mk:Str->List Str}{k0:Str}{ss:List Sp}
theorem Jo{l:Lf}(h:m7 (wr mk k0 ss) l i j)(hi:i<=ss.length):j<=ss.length:=by
 rcases h with⟨_,rfl⟩|⟨h,rfl⟩
 ·exact hi
 ·by_cases a:i<ss.length
  ·exact a
  ·exfalso;have e:(wr mk k0 ss).sd i="":=by simp[wr,zat (Nat.le_of_not_lt a)]
   cases l with
   |step b x=>
    rw[e] at h;unfold take at h;cases b<;>exact absurd (Bool.and_eq_true_iff.mp h).1 (by decide)
   |_=>cases h
mutual
theorem fit_le:∀(p:Pt){i j:Nat},eK (wr mk k0 ss) p i j->i<=ss.length->j<=ss.length
 |.lf l,i,j,h,hi=>by simp only[eK] at h;exact Jo h hi
 |.many p,i,j,h,hi=>by
  simp only[eK] at h
  induction h with
  |nil=>exact hi
  |snoc _ g ih=>exact fit_le p g ih
 |.seq ps,i,j,h,hi=>by simp only[eK] at h;exact Aj ps h hi
 |.alt ps,i,j,h,hi=>by simp only[eK] at h;exact Ak ps h hi
theorem Aj:∀(ps:List Pt){i j:Nat},iZ (wr mk k0 ss) ps i j->i<=ss.length->j<=ss.length
 |[],i,j,h,hi=>by simp only[iZ] at h;lia
 |p::ps,i,j,h,hi=>by
  simp only[iZ] at h;obtain⟨k,h1,h2⟩:=h;exact Aj ps h2 (fit_le p h1 hi)
theorem Ak:∀(ps:List Pt){i j:Nat},qg (wr mk k0 ss) ps i j->i<=ss.length->j<=ss.length
 |[],i,j,h,hi=>by simp only[qg] at h
 |p::ps,i,j,h,hi=>by
  simp only[qg] at h;exact h.elim (λz=>fit_le p z hi) λz=>Ak ps z hi
end
end
theorem qO{W:Wr}{p:Pt}:∀{ps:List Pt}{i j:Nat},iZ W (ps++[p]) i j↔∃k,iZ W ps i k/\eK W p k j
 |[],i,j=>by simp[iZ]
 |q::ps,i,j=>by
  simp only[zbw,iZ,qO (ps:=ps)];constructor
  ·rintro⟨a,h1,b,h2,e⟩;exact⟨b,⟨a,h1,h2⟩,e⟩
  ·rintro⟨b,⟨a,h1,h2⟩,e⟩;exact⟨a,h1,b,h2,e⟩
theorem je{a e:List Nat}{x:Nat}:x∈a++e.filter (λz=>!decide (z∈a))↔x∈a∨x∈e:=by
 rw[zbI,zbH];by_cases h:x∈a<;>simp[h]
theorem qH{h i:List Nat}(h1:h.Nodup)(h2:i.Nodup):(h++i.filter λz=>!decide (z∈h)).Nodup:=by
 rw[zbf];refine⟨h1,h2.filter _,λa l b j e=>?_⟩;subst e;have:=(zbH.mp j).2;simp at this;exact this l
theorem vE{fs a:List Nat}{Q:List D->aL->Prop}(i:fs.length<=50)(h:a.length<=50)(q:Q (nL (a.filter λz=>!decide (z∈fs))) S):gV (λ_=>True) (bW 0) (aB (wI (tV true) (dR 0) (dR 1))) (dR 0) (nL a) [] [none,some (.lst (nL fs))] S Q:=by
 refine bK (α:=Nat) (δ:=[none,some (.lst (nL fs))]) (λz:Nat=>D.int z) (λz=>!decide (z∈fs)) (λz:Nat=>D.int z) trivial a [] _ rfl (λz hz j q2=>?_) (λz hz l e=>⟨_,rfl,e⟩) (by rw[yaf];show 0+a.length<=_;lia) q;push_cast[true_and];exact lT (.inl rfl) (by lia) ⟨_,rfl,by simpa using q2⟩
noncomputable def mY(mk:Str->List Str)(a:Str)(ss:List Sp):List D:=(zcM (ss.length+1)).map λi=>D.lst (((wr mk a ss).ms i).map D.str)
def rP(k:Nat):AN:=λj S Q=>∃(p:Pt)(mk:Str->List Str)(h:Str)(a:List Sp)(bs:List Nat),j=[tD p,.tup (a.map gZ),.lst (mY mk h a),.lst (nL bs)]/\fK p/\dp p<=k/\a.length<=20/\(∀i,texts ((wr mk h a).ms i))/\(∀s∈a,fU s.2.1=true)/\bs.Nodup/\(∀b∈bs,b<=a.length)/\
 ∀(e:List Nat)(r:R),r.d=.lst (nL e)->e.Nodup->(∀x,x∈e↔∃i∈bs,eK (wr mk h a) p i x)->Q r S
theorem Ar(T:Txt K mg C fi)(F:Src K mg "_law_ends" dN ux)(k:Nat)(hk:k<=12)(u:Def P w K mg base (k+1) "_law_ends" dN (av K λds S Q=>∃j,k=j+1/\rP j ds S Q)):Def P w K mg base (k+2) "_law_ends" dN (av K (rP k)):=by
 refine cJ F dU (λds S Q h=>?_) (λf cdv A outer s H E G=>?_)
 ·obtain⟨p,mk,o,ss,bs,rfl,_⟩:=h;rfl
 ·refine⟨_,(Tj (TJ (Tw (TR G) (Tq (Tg 0)) Tz (aG _)) (To (Tv (Tg 3))) TL) (Tj (TJ (Ud (Ue (Tw (TR G) (Tq (Tg 0)) Tz (aG _)) (Ul (Tw (TR G) (Tq (Tg 0)) Tz (aG _))))) (To (Tv (Uc ["_law_k","_law_pattern_here","_law_marks_here"] [none,some 0,some 2] (TX (Tg 3)) (λ_ _ _ _=>(Uu (Tw (TR G) (T5 (Uk G) (Tq (Tg 1)) (TY (Tg 2) (Tg 0)) rfl) (T5 (TR G) (Tq (Tg 1)) Tz (aG _)) (aG _)))) (λ_ _ _ _=>(Tg 0))))) TL) (Tj (TJ (Tw (TR G) (Tq (Tg 0)) Tz (aG _)) (Tj (M.gz (i:=4) dU.nd rfl rfl (N:=["_law_k","_law_steps_here","_law_pattern_here"]) (caps:=[none,some 1,some 0]) (vK (by decide+kernel)) (by rfl) (by rfl) rfl (TX (Tg 3)) (λ_ _ _ _=>(UG (i:=0) (by decide+kernel:List.Nodup (["_law_k","_law_steps_here","_law_pattern_here"]:List Str)) rfl (Or.inl rfl))) (λ_ _ _ _=>(Uu (Ud (UD (Tw Ux (Tg 0) (TN TZ T.len (Tn (Tg 1))) (aG _)) (UW (Tw (TR G) (Tq (TY (Tg 1) (Tg 0))) (Tq (Tg 2)) (aG _))))))) (λ_ _ _ _=>(Tg 0))) (To (Tv (Uc ["_law_k","_law_pattern_here","_law_steps_here"] [none,some 0,some 1] (TX (Tg 4)) (λ_ _ _ _=>(Uu (Tw (Uk G) (Tq (Tg 1)) (TF (Th Tz (Th (Tq (TY (Tg 2) (Tg 0))) Tr))) rfl))) (λ_ _ _ _=>(Tt TV (Tg 0) Tp)))))) TL) (Tj (TJ (Tw (TR G) (Tq (Tg 0)) Tz (aG _)) (Tj (T4 PassesOwn.never rfl (TX (Tq (Tg 0))) (TH 5 dU.nd) (To (Tu 3 dU.nd (UJ u (G.mono (by lia)) (by rfl) (Th (Tg 5) (Th (Tg 1) (Th (Tg 2) (Tn (Tg 3))))))))) (To (Tv (Tg 3)))) TL) (Tj (Tu 6 dU.nd (TQ Tr)) (Tj (TJ (Tw (TR G) (Tq (Tg 0)) Tz (aG _)) (Tj (T4 PassesOwn.never rfl (TX (Tq (Tg 0))) (TH 5 dU.nd) (To (Tu 6 dU.nd (Tt TV (Tg 6) (Uc ["_law_k","_law_found"] [none,some 6] (TX (UJ u (G.mono (by lia)) (by rfl) (Th (Tg 5) (Th (Tg 1) (Th (Tg 2) (Tn (Tg 3))))))) (λ_ _ _ _=>(Uu (Tw (UL G) (Tg 0) (Tg 1) rfl))) (λ_ _ _ _=>(Tg 0))))))) (To (Tv (Tg 6)))) TL) (Tj (Tu 6 dU.nd (Ub UK T.list (Tn (Tg 3)))) (Tj (Tu 7 dU.nd (M.zP M.KP Tp)) (Tj (M.fR PassesOwn.never (Tw Ux (Tg 7) (TN TZ T.len (Tn (Tg 6))) (aG _)) (Tj (Tu 7 dU.nd (TN TZ T.len (Tn (Tg 6)))) (To (Tu 6 dU.nd (Tt TV (Tg 6) (Uc ["_law_k","_law_found"] [none,some 6] (TX (UJ u (G.mono (by lia)) (by rfl) (Th (Tq (Tg 0)) (Th (Tg 1) (Th (Tg 2) (Tn (Tg 6))))))) (λ_ _ _ _=>(Uu (Tw (UL G) (Tg 0) (Tg 1) rfl))) (λ_ _ _ _=>(Tg 0)))))))) (To (Tv (Tg 6)))))))))))),λds S Q h=>?_⟩;obtain⟨p,mk,o,ss,bs,rfl,hp,hd,hsl,htx,hwd,Y,X,q⟩:=h;have e0:aK Ba [tD p,.tup (ss.map gZ),.lst (mY mk o ss),.lst (nL bs)]=[some (tD p),some (.tup (ss.map gZ)),some (.lst (mY mk o ss)),some (.lst (nL bs)),none,none,none,none]:=rfl;rw[e0];have nm:∀z,z∈bs->(mY mk o ss)[z]? =some (.lst (((wr mk o ss).ms z).map D.str)):=λz hz=>by
   have:=X z hz;unfold mY;rw[zba,List.getElem?_range (by lia)];rfl
  have hbl:=aW (ss.length+1) bs Y λx O=>by have:=X x O;lia
  have inW:∀{m:Str}{z:Nat}{Q':AK},fU m=true->Q' (.dat (.bl (decide (m∈(wr mk o ss).ms z)))) S->tV false (.str m) (.lst (((wr mk o ss).ms z).map D.str)) S Q':=λ{m z Q'} hm a=>
   lR (n:=0) hm (by decide) (zbu.mpr (htx z).2) (by rw[kc,zcc];exact a) (by have:=(htx z).1;lia)
  cases p with
  |lf l=>
   simp only[fK] at hp;cases l with
   |stay=>
    refine gG (λQ' a=>by push_cast[tD,lD,aq,bP];exact qT trivial a) ?_;push_cast[true_and];exact aY (cQ bs) (q bs _ rfl Y λx=>by simp[eK,Dj])
   |mk c m=>
    have fin:∀{Q':AK},Q' (.new (.lst (nL (bs.filter λz=>hold (.mk c m) ((wr mk o ss).ms z))))) S->cL [none,some 0,some 2] (cI (dR 3)) (bW 0) (aB (wI J0 (wI (tV false) (wI vU (dR 1) (aC (D.int 1))) (wI vU (dR 2) (dR 0))) (wI J0 (wI vU (dR 1) (aC (D.int 0))) (aC (D.str "at"))))) (dR 0)
      [some (tD (.lf (.mk c m))),some (.tup (ss.map gZ)),some (.lst (mY mk o ss)),some (.lst (nL bs)),none,none,none,none] S Q':=λ{Q'} a=>by
     push_cast[cL,cI,bT];refine bK (α:=Nat) (δ:=[none,some (tD (.lf (.mk c m))),some (.lst (mY mk o ss))]) (λz:Nat=>D.int z) (λz=>hold (.mk c m) ((wr mk o ss).ms z)) (λz:Nat=>D.int z) trivial bs [] _ rfl (λz hz Q2 q2=>?_) (λz hz Q' a=>⟨_,rfl,a⟩) (by rw[yaf];show 0+bs.length<=_;lia) ?_
     ·push_cast[tD,lD,aq,bP,cX];refine⟨_,cE (nm z hz),inW (oQ hp) ?_⟩;push_cast[FA];have:decide (decide (m∈(wr mk o ss).ms z)=decide (MY c=Str.ofString "at"))=hold (.mk c m) ((wr mk o ss).ms z):=by
       show _=(decide (m∈(wr mk o ss).ms z)==c);generalize decide (m∈(wr mk o ss).ms z)=b;cases c<;>cases b<;>decide+kernel
      rw[this];exact q2
     ·exact a
    have done:UI S S (.new (.lst (nL (bs.filter λz=>hold (.mk c m) ((wr mk o ss).ms z))))) Q:=by
     refine d9 (cQ _) (q _ _ rfl (Y.filter _) λx=>?_);simp only[eK,m7,zbH];constructor
     ·rintro⟨h1,h2⟩;exact⟨x,h1,.inl ⟨h2,rfl⟩⟩
     ·rintro⟨i,h1,⟨h2,rfl⟩|⟨h2,_⟩⟩
      ·exact⟨h1,h2⟩
      ·cases h2
    have ab:=fin (Q':=λr S'=>UI S S' r Q) done;simp only[tD,lD] at ab;refine b6 (λQ' a=>by push_cast[tD,lD,aq,bP];exact qF (by cases c<;>decide+kernel) a) (gG (λQ' a=>by push_cast[tD,lD,aq,bP];cases c<;>exact a) ?_);push_cast[tD,lD];exact ab
   |step b x=>
    have sg:∀z,z<ss.length->∃t:Sp,ss[z]? =some t/\t∈ss:=λz hz=>⟨_,zak hz,zby hz⟩
    refine b6 (λQ' a=>by push_cast[tD,lD,aq,bP];exact qF (by decide+kernel) a) (b6 (λQ' a=>by push_cast[tD,lD,aq,bP];rw[yIn (by decide+kernel)];exact qF (by decide+kernel) a) (gG (λQ' a=>by push_cast[tD,lD,aq,bP];exact qT trivial a) ?_));push_cast[tD,lD,cL,cI,bT];refine bK (α:=Nat) (δ:=[none,some (.tup (ss.map gZ)),some (lD (.step b x))]) (λz:Nat=>D.int z) (λz=>decide (z<ss.length)&&decide ((wr mk o ss).sd z=side b)) (λz:Nat=>D.int z) trivial bs [] _ rfl (λz hz Q2 q2=>?_) (λz hz Q' a=>⟨_,rfl,a⟩) (by rw[yaf];show 0+bs.length<=_;lia) ?_
    ·push_cast[JY,lD,aq,bP,cX];refine⟨ss.length,by simp[fX],?_⟩;refine ee (λh=>?_) (λh=>?_)
     ·have h:z<ss.length:=by have:=of_decide_eq_true h;lia
      obtain⟨t,h1,h2⟩:=sg z h;refine⟨gZ t,cE (by rw[zba,h1];rfl),?_⟩;push_cast[gZ,aq,bP,cX];have:(decide (z<ss.length)&&decide ((wr mk o ss).sd z=side b))=decide (side t.1=side b):=by
       rw[yDt h,zcn,show(wr mk o ss).sd z=side t.1 by show(ss[z]?.map _).getD _=_;rw[h1];rfl]
      rw[this] at q2;exact q2
     ·have:(decide (z<ss.length)&&decide ((wr mk o ss).sd z=side b))=false:=by
       have h:¬z<ss.length:=λz'=>h (yDt (by lia));simp[h]
      rw[this] at q2;exact q2
    ·rw[zbR];generalize hcs:bs.filter (λz=>decide (z<ss.length)&&decide ((wr mk o ss).sd z=side b))=I;have hc1:I.Nodup:=hcs▸Y.filter _;have hc2:∀z,z∈I↔z∈bs/\z<ss.length/\(wr mk o ss).sd z=side b:=λz=>by rw[<-hcs];simp[zbH]
     have hcl:I.length<=bs.length:=by rw[<-hcs];exact zav ..
     refine bK (α:=Nat) (δ:=[none,some (lD (.step b x)),some (.tup (ss.map gZ))]) (λz:Nat=>D.int z) (λz=>decide (x=(wr mk o ss).wd z)||decide (x="*")) (λz:Nat=>D.int (z+1:Nat)) trivial I [] _ rfl (λz hz Q2 q2=>?_) (λz hz Q' a=>?_) (by rw[yaf];show 0+I.length<=_;lia) ?_
     ·obtain⟨t,h1,h2⟩:=sg z ((hc2 z).mp hz).2.1;push_cast[lD,aq,bP,cX,at2];refine⟨gZ t,cE (by rw[zba,h1];rfl),?_⟩;push_cast[gZ,aq,bP,cX];refine⟨sz rfl,eZ (n:=0) (ss:=["*",t.2.1]) (yW hp) (by decide) (by simp only[zck,List.all_nil,hwd t h2,zcp];decide+kernel) ?_ (by simp)⟩;refine⟨_,rfl,?_⟩;have:(decide (x=(wr mk o ss).wd z)||decide (x="*"))=(false != B5 (.str x) ["*",t.2.1]):=by
       rw[kc,zcc,show(wr mk o ss).wd z=t.2.1 by show(ss[z]?.map _).getD _=_;rw[h1];rfl];by_cases e1:x="*"<;>by_cases e2:x=t.2.1<;>simp[e1,e2]
      rw[<-this];exact q2
     ·push_cast[true_and];exact a
     ·refine d9 ?_ (q ((I.filter λz=>decide (x=(wr mk o ss).wd z)||decide (x="*")).map (· +1)) _ ?_ ?_ λy=>?_)
      ·have:=cQ ((I.filter λz=>decide (x=(wr mk o ss).wd z)||decide (x="*")).map (· +1));rw[nL,zct] at this;exact this
      ·rw[nL,zct];rfl
      ·exact zbg.mpr ((hc1.filter _).imp λh e=>h (by lia))
      ·simp only[eK,m7,zcu,zbH,hc2];constructor
       ·rintro⟨z,⟨⟨L,v,W⟩,g4⟩,rfl⟩;refine⟨z,L,.inr ⟨?_,rfl⟩⟩;show(decide (side b=(wr mk o ss).sd z)&&(decide (x=(wr mk o ss).wd z)||decide (x="*")))=true;rw[W,yDt rfl,zcn];exact g4
       ·rintro⟨i,L,⟨v,_⟩|⟨v,rfl⟩⟩
        ·cases v
        ·have v:(decide (side b=(wr mk o ss).sd i)&&(decide (x=(wr mk o ss).wd i)||decide (x="*")))=true:=v;rw[zbF] at v;have W:=(of_decide_eq_true v.1).symm;refine⟨i,⟨⟨L,?_,W⟩,v.2⟩,rfl⟩;rcases zcA i ss.length with z|z
         ·exact z
         ·rw[show(wr mk o ss).sd i="" by show(ss[i]?.map _).getD _=_;rw[zat z];rfl] at W;cases b<;>exact absurd W (by decide+kernel)
  |seq ps=>
   obtain⟨j,rfl⟩:∃j,k=j+1:=⟨k - 1,by simp only[dp] at hd;lia⟩
   simp only[dp] at hd;simp only[fK] at hp;refine b6 (λQ' a=>by push_cast[tD,aq,bP];exact qF (by decide+kernel) a) (b6 (λQ' a=>by push_cast[tD,aq,bP];rw[yIn (by decide+kernel)];exact qF (by decide+kernel) a) (b6 (λQ' a=>by push_cast[tD,aq,bP];exact qF (by decide+kernel) a) (gG (λQ' a=>by push_cast[tD,aq,bP];exact qT trivial a) ?_)));push_cast[tD,cP,dW,cI,bT,aq,cX];refine bf (λrest δ S2=>∃(Z q2:List Pt)(I:List Nat)(v5:Option D),rest=q2.map tD/\Z++q2=ps/\S2=S/\δ=[some (tD (.seq ps)),some (.tup (ss.map gZ)),some (.lst (mY mk o ss)),some (.lst (nL I)),none,v5,none,none]/\I.Nodup/\(∀b∈I,b<=ss.length)/\∀x,x∈I↔∃i∈bs,iZ (wr mk o ss) Z i x) ?_ ?_ _ _ _ ⟨[],ps,bs,none,rfl,rfl,rfl,by simp only[tD,cP],Y,X,λx=>by simp[iZ]⟩
   ·rintro δ S2 ⟨Z,q2,I,v5,G,he,rfl,rfl,h1,h2,h3⟩;have:q2=[]:=by cases q2 with
     |nil=>rfl
     |cons _ _=>simp at G
    subst this;rw[zbK] at he;subst he;exact⟨trivial,_,rfl,aY (cQ I) (q I _ rfl h1 λx=>by rw[h3];simp only[eK])⟩
   ·rintro x rest δ S2 N' ⟨Z,q2,I,v5,G,he,rfl,rfl,h1,h2,h3⟩ hN';cases q2 with
    |nil=>simp at G
    |cons r q2=>
     rw[zci] at G;injection G with e1 e2;subst e1;subst e2;have hrm:r∈ps:=by rw[<-he];simp
     refine⟨trivial,?_⟩;push_cast[true_and];refine⟨j,rfl,r,mk,o,ss,I,rfl,iC hp r hrm,zcw (kj r hrm) (by lia),hsl,htx,hwd,h1,h2,λU r' er n1 m1=>?_⟩;dsimp only;rw[er];refine hN' _ _ ⟨Z++[r],q2,U,_,rfl,by rw[zbc];exact he,rfl,rfl,n1,λb hb=>?_,λx=>?_⟩
     ·obtain⟨i,L,v⟩:=(m1 b).mp hb;exact fit_le r v (h2 i L)
     ·rw[m1];simp only[qO];constructor
      ·rintro⟨i,L,v⟩;obtain⟨i0,W,g4⟩:=(h3 i).mp L;exact⟨i0,W,i,g4,v⟩
      ·rintro⟨i0,W,i,g4,v⟩;exact⟨i,(h3 i).mpr ⟨i0,W,g4⟩,v⟩
  |alt ps=>
   obtain⟨j,rfl⟩:∃j,k=j+1:=⟨k - 1,by simp only[dp] at hd;lia⟩
   simp only[dp] at hd;simp only[fK] at hp;refine b6 (λQ' a=>by push_cast[tD,aq,bP];exact qF (by decide+kernel) a) (b6 (λQ' a=>by push_cast[tD,aq,bP];rw[yIn (by decide+kernel)];exact qF (by decide+kernel) a) (b6 (λQ' a=>by push_cast[tD,aq,bP];exact qF (by decide+kernel) a) (b6 (λQ' a=>by push_cast[tD,aq,bP];exact qF (by decide+kernel) a) ?_)));refine wZ λN1 h1=>?_;push_cast[true_and];refine⟨sz rfl,h1 _ _ ?_⟩;clear h1;refine gG (λQ' a=>by push_cast[tD,aq,bP];exact qT trivial a) ?_;push_cast[tD,cP,dW,cI,bT,aq,bP,cX];refine bf (λrest δ S2=>∃(Z q2:List Pt)(fs:List Nat)(v5:Option D),rest=q2.map tD/\Z++q2=ps/\S2=S/\δ=[some (tD (.alt ps)),some (.tup (ss.map gZ)),some (.lst (mY mk o ss)),some (.lst (nL bs)),none,v5,some (.lst (nL fs)),none]/\fs.Nodup/\(∀b∈fs,b<=ss.length)/\∀x,x∈fs↔∃i∈bs,qg (wr mk o ss) Z i x) ?_ ?_ _ _ _ ⟨[],ps,[],none,rfl,rfl,rfl,by simp only[tD,cP];rfl,.nil,by simp,λx=>by simp[qg]⟩
   ·rintro δ S2 ⟨Z,q2,I,v5,G,he,rfl,rfl,h1,h2,h3⟩;have:q2=[]:=by cases q2 with
     |nil=>rfl
     |cons _ _=>simp at G
    subst this;rw[zbK] at he;subst he;exact⟨trivial,_,rfl,aY (cQ I) (q I _ rfl h1 λx=>by rw[h3];simp only[eK])⟩
   ·rintro x rest δ S2 N' ⟨Z,q2,I,v5,G,he,rfl,rfl,h1,h2,h3⟩ hN';cases q2 with
    |nil=>simp at G
    |cons r q2=>
     rw[zci] at G;injection G with e1 e2;subst e1;subst e2;have hrm:r∈ps:=by rw[<-he];simp
     refine⟨trivial,?_⟩;push_cast[cL,cI];refine⟨j,rfl,r,mk,o,ss,bs,rfl,iC hp r hrm,zcw (kj r hrm) (by lia),hsl,htx,hwd,Y,X,λU r' er n1 m1=>?_⟩;dsimp only;rw[er];have rl:U.length<=50:=by
      have:=aW (ss.length+1) U n1 λx O=>by
       obtain⟨i,L,v⟩:=(m1 x).mp O;have:=fit_le r v (X i L);lia
      lia
     have cl:=aW (ss.length+1) I h1 λx O=>by have:=h2 x O;lia
     refine vE (by lia) rl ⟨by simp only[nL,zbJ];rw[yaf];have:=zav (λz=>!decide (z∈I)) U;lia,?_⟩;rw[show nL I++nL (U.filter λz=>!decide (z∈I))=nL (I++U.filter λz=>!decide (z∈I)) by simp[nL]];refine hN' _ _ ⟨Z++[r],q2,_,_,rfl,by rw[zbc];exact he,rfl,rfl,qH h1 n1,λb hb=>?_,λx=>?_⟩
     ·rcases je.mp hb with z|z
      ·exact h2 b z
      ·obtain⟨i,L,v⟩:=(m1 b).mp z;exact fit_le r v (X i L)
     ·rw[je,h3,m1];simp only[kh,zbI,zaO];constructor
      ·rintro(⟨i,L,p,v,W⟩|⟨i,L,v⟩)
       ·exact⟨i,L,p,.inl v,W⟩
       ·exact⟨i,L,r,.inr rfl,v⟩
      ·rintro⟨i,L,p,v|rfl,W⟩
       ·exact .inl ⟨i,L,p,v,W⟩
       ·exact .inr ⟨i,L,W⟩
  |many p=>
   obtain⟨j,rfl⟩:∃j,k=j+1:=⟨k - 1,by simp only[dp] at hd;lia⟩
   simp only[dp] at hd;simp only[fK] at hp;refine b6 (λQ' a=>by push_cast[tD,aq,bP];exact qF (by decide+kernel) a) (b6 (λQ' a=>by push_cast[tD,aq,bP];rw[yIn (by decide+kernel)];exact qF (by decide+kernel) a) (b6 (λQ' a=>by push_cast[tD,aq,bP];exact qF (by decide+kernel) a) (b6 (λQ' a=>by push_cast[tD,aq,bP];exact qF (by decide+kernel) a) ?_)));refine wZ λN1 h1=>?_;push_cast[true_and];refine⟨sz rfl,h1 _ _ ?_⟩;clear h1;refine b6 (λQ' a=>by push_cast[tD,aq,bP];exact qF (by decide+kernel) a) ?_;push_cast[tD,ji];obtain⟨Wl,hW⟩:∃Wl:Nat->bx->aL->Prop,Wl=λμ δ S2=>∃(fs:List Nat)(m:Int),δ=[some (.tup [.str "many",tD p]),some (.tup (ss.map gZ)),some (.lst (mY mk o ss)),some (.lst (nL bs)),none,none,some (.lst (nL fs)),some (.int m)]/\S2=S/\μ=2*(ss.length+1 - fs.length)+(if m<fs.length then 1 else 0)/\
    fs.Nodup/\(∀b∈fs,b<=ss.length)/\(∀b∈bs,b∈fs)/\(∀x∈fs,∃i∈bs,yP (eK (wr mk o ss) p) i x)/\(m<fs.length∨∀x∈fs,∀y,eK (wr mk o ss) p x y->y∈fs):=⟨_,rfl⟩
   refine⟨Wl,⟨_,by rw[hW];exact⟨bs,-1,rfl,rfl,rfl,Y,X,λb hb=>hb,λx O=>⟨x,O,.nil⟩,.inl (by lia)⟩⟩,?_⟩;intro μ δ S2 hw;rw[hW] at hw;obtain⟨fs,m,rfl,rfl,rfl,h1,h2,h3,h4,h5⟩:=hw;have fl:=aW (ss.length+1) fs h1 λx O=>by have:=h2 x O;lia
   push_cast[true_and];refine⟨fs.length,by simp[fX,nL],ee (λhm=>?_) (λhm=>?_)⟩
   ·have hm:m<fs.length:=of_decide_eq_true hm;refine⟨λδ S3=>∃μ',μ'<2*(ss.length+1 - fs.length)+(if m<fs.length then 1 else 0)/\Wl μ' δ S3,λδ S3 h=>h,?_⟩;push_cast[cL,cI,aq,bP,cX];refine⟨fs.length,by simp[fX,nL],?_⟩;refine⟨j,rfl,p,mk,o,ss,fs,rfl,hp,by lia,hsl,htx,hwd,h1,h2,λU r' er n1 m1=>?_⟩;dsimp only;rw[er];have rl:U.length<=ss.length+1:=aW (ss.length+1) U n1 λx O=>by
      obtain⟨i,L,v⟩:=(m1 x).mp O;have:=fit_le p v (h2 i L);lia
    refine vE (by lia) (by lia) ⟨by simp only[nL,zbJ];rw[yaf];have:=zav (λz=>!decide (z∈fs)) U;lia,?_⟩;rw[show nL fs++nL (U.filter λz=>!decide (z∈fs))=nL (fs++U.filter λz=>!decide (z∈fs)) by simp[nL]];have nd:=qH h1 n1;have le:∀b∈fs++U.filter (λz=>!decide (z∈fs)),b<=ss.length:=λb hb=>by
     rcases je.mp hb with z|z
     ·exact h2 b z
     ·obtain⟨i,L,v⟩:=(m1 b).mp z;exact fit_le p v (h2 i L)
    have ll:=aW (ss.length+1) _ nd λx O=>by have:=le x O;lia
    rw[hW];refine⟨_,?_,_,_,rfl,rfl,rfl,nd,le,λb hb=>je.mpr (.inl (h3 b hb)),λx O=>?_,?_⟩
    ·rw[yIp hm];rw[zaM] at ll⊢;split<;>lia
    ·rcases je.mp O with z|z
     ·exact h4 x z
     ·obtain⟨i,L,v⟩:=(m1 x).mp z;obtain⟨i0,W,g4⟩:=h4 i L;exact⟨i0,W,g4.snoc v⟩
    ·by_cases e:U.filter (λz=>!decide (z∈fs))=[]
     ·right;rw[e,zbK];intro x O y hy;have:=je.mpr (.inr ((m1 y).mpr ⟨x,O,hy⟩):y∈fs∨y∈U)
      rwa [e,zbK] at this
     ·left;rw[zaM];have:=List.length_pos_iff.mpr e;lia
   ·have hm:¬m<fs.length:=λz=>hm (yDt z);have cl:=h5.resolve_left hm;refine aY (cQ fs) (q fs _ rfl h1 λx=>⟨λO=>by simp only[eK];exact h4 x O,?_⟩);rintro⟨i,L,v⟩;simp only[eK] at v
    induction v with
    |nil=>exact h3 _ L
    |snoc _ g ih=>exact cl _ ih _ g
theorem Jv{k:Nat}(F:Src K mg "_law_ends" dN ux)(h:∀ds S Q,¬sp ds S Q):Def P w K mg base (k+1) "_law_ends" dN (av K sp):=
 F.def dU (λvs H Q E z=>by obtain⟨_,_,_,_,_,_,q,_⟩:=z;exact(h _ _ _ q).elim) λf a A outer s H vs Q E e z=>by obtain⟨_,_,_,_,_,_,q,_⟩:=z;exact(h _ _ _ q).elim
theorem FJ(T:Txt K mg C fi)(F:Src K mg "_law_ends" dN ux):∀k,k<=12->Def P w K mg base (k+2) "_law_ends" dN (av K (rP k))
 |0,h=>Ar T F 0 h (Jv F λa S Q ⟨j,e,_⟩=>by lia)
 |k+1,h=>Ar T F (k+1) h ((FJ T F k (by lia)).imp λvs H Q E z=>by
   obtain⟨w,a,S,i,ok,rep,⟨j,e,q⟩,bk⟩:=z;obtain rfl:j=k:=by lia
   exact⟨w,a,S,i,ok,rep,q,bk⟩)
theorem z6{ks:List Kn}{k:Str}{ss:List Sp}(h:mP ks k ss):∀i,Qg k ss i∈nms ks
 |0=>h.1
 |i+1=>by
  show(ss[i]?.map (·.2.2)).getD k∈_;cases e:ss[i]? with
  |none=>exact h.1
  |some t=>exact(h.2 t (zaB e)).1
theorem BO{mk:Str->List Str}{k:Str}{ss:List Sp}:mY mk k ss=.lst ((mk k).map D.str)::ss.map λt=>.lst ((mk t.2.2).map D.str):=by
 unfold mY;rw[List.range_succ_eq_map,zci,zct];refine congrArg _ (zbx (by simp) λi h1 h2=>?_);have h:i<ss.length:=by simpa using h2
 simp[wr,Qg,h]
def DE:AN:=λi S Q=>∃(p:Pt)(e:List Kn)(h:List Ti)(k:Str)(a:List Sp),i=[ia e h,tD p,pW k a]/\fK p/\dp p<=12/\mP e k a/\a.length<=20/\(∀k∈e,texts k.2)/\∀v:Bool,(v=true↔eK (wr (aP e) k a) p 0 a.length)->Q (.dat (.bl v)) S
theorem NV(T:Txt K mg C fi)(F:Src K mg "_law_fits" kY (top 43))(a:Def P w K mg base 14 "_law_ends" dN (av K (rP 12))):Def P w K mg base 15 "_law_fits" kY (av K DE):=by
 refine cJ F DO (λY S Q h=>?_) (λf Z A outer s H E m=>?_)
 ·obtain⟨p,j,l,k,e,rfl,_⟩:=h;rfl
 ·refine⟨_,(Tj (Tu 3 DO.nd (Tt TV (TQ (Th (Uo (di m) (Tq (Tg 0)) (Tq (Tg 2)) (λ_ _=>rfl)) Tr)) (Uc ["_law_step","_law_rows_here"] [none,some 0] (TX (Tq (Tg 2))) (λ_ _ _ _=>UA) (λ_ _ _ _=>(Uo (di m) (Tq (Tg 1)) (Tq (Tg 0)) (λ_ _=>rfl)))))) (To (Tv (T5 (Uk m) (TN TZ T.len (Th (Tq (Tg 2)) Tr)) (TM a m (Th (Tg 1) (Th (Tq (Tg 2)) (Th (Tg 3) (Th (TQ (Tn Tp)) Tr))))) rfl)))),λY S Q h=>?_⟩;obtain⟨p,j,l,k,e,rfl,L,hd,hw,o,n,q⟩:=h;have X:aK A9 [ia j l,tD p,pW k e]=[some (ia j l),some (tD p),some (pW k e),none]:=rfl;rw[X];push_cast[cL,cI,bT,ia,pW,aq,bP,cX,e8];refine⟨_,_,rfl,_,rfl,_,lU hw.1,sz rfl,?_⟩;refine bK (α:=Sp) (δ:=[none,some (ia j l)]) gZ (λ_=>true) (λt=>.lst ((aP j t.2.2).map D.str)) trivial e [] _ rfl (λz hz Q2 q2=>q2) (λz hz Q' v=>?_) (by rw[yaf];show 0+e.length<=_;lia) ?_
  ·push_cast[e8,ia,gZ,aq,bP,at2];exact⟨_,_,rfl,_,rfl,_,lU (hw.2 z hz).1,v⟩
  ·rw[zbR,zaH.mpr λ_ _=>rfl];refine⟨by rw[zbJ,yaf];show 1+e.length<=_;lia,e.length,by simp[fX],sz rfl,?_⟩;refine⟨p,aP j,k,e,[0],?_,L,hd,o,λi=>n _ (b9 (z6 hw i)),λt I=>(hw.2 t I).2,by simp,by simp,λu r W y m1=>?_⟩
   ·rw[BO];rfl
   ·dsimp only;rw[W];have rl:u.length<=e.length+1:=aW (e.length+1) u y λx G=>by
      obtain⟨i,U,O⟩:=(m1 x).mp G;have:=fit_le p O (by have:=zaO.mp U;lia);lia
    refine lT (.inl rfl) (by lia) (aY rfl (q _ ?_));rw[zcc,decide_eq_true_iff,m1];simp
open PySem L2 M M6
noncomputable abbrev rD:List Str:=["_law_thing","_law_many"]
noncomputable abbrev gc:=rD
theorem DN:aA rD gc (ah (top 49)):=L2.bR
noncomputable abbrev wj:List Str:=["_law_thing"]
noncomputable abbrev iR:=wj
theorem HN:aA wj iR (ah (top 50)):=L2.bR
noncomputable abbrev wo:List Str:=["_law_thing"]
noncomputable abbrev iT:=wo
theorem HP:aA wo iT (ah (top 51)):=L2.bR
noncomputable abbrev La:List Str:=["_law_thing","_law_most","_law_many","_law_begin","_law_ends_here","_law_moves","_law_stands","_law_move"]
noncomputable abbrev vV:=La.take 2
theorem xg:aA La vV (ah (top 48)):=L2.bR
theorem gx:∀es:List D,fj es=es.map py
 |[]=>rfl
 |e::es=>by simp only[fj,zci,gx es]
theorem Jl(bs:List Bool):fit (.lst (bs.map D.bl))=true:=by
 have h:∀bs:List Bool,bL (bs.map D.bl)=true/\PyData.canLayAll0 (fj (bs.map D.bl))=true/\PyData.depthAll (fj (bs.map D.bl))=0:=λbs=>by
  induction bs with
  |nil=>exact⟨rfl,rfl,rfl⟩
  |cons b bs ih=>
   obtain⟨h1,h2,a⟩:=ih;refine⟨by simp only[zci,bL,b8,h1,zco],?_,?_⟩
   ·simp only[zci,fj,py,PyData.canLayAll0,PyData.canLay0,h2,zco]
   ·simp only[zci,fj,py,PyData.depthAll,PyData.depth,a];rfl
 obtain⟨h1,h2,a⟩:=h bs;unfold fit PySem.SeqAt.shaped;simp only[b8,py,PyData.canLay0,PyData.depth,h1,h2,a];decide
theorem vh{es:List D}(h:∀e∈es,b8 e=true/\bG (py e)=true/\(py e).depth<=6):fit (.lst es)=true:=by
 have g:∀es:List D,(∀e∈es,b8 e=true/\bG (py e)=true/\(py e).depth<=6)->bL es=true/\PyData.canLayAll0 (fj es)=true/\PyData.depthAll (fj es)<=6:=λes=>by
  induction es with
  |nil=>exact λ_=>⟨rfl,rfl,zcJ _⟩
  |cons e es ih=>
   intro h;obtain⟨h1,h2,i⟩:=ih λx a=>h x (zay _ a);obtain⟨l,j,m⟩:=h e (by simp);refine⟨by simp only[bL,l,h1,zco],?_,?_⟩
   ·simp only[fj,PyData.canLayAll0,eY _ j,h2,zco]
   ·simp only[fj,PyData.depthAll];lia
 obtain⟨h1,h2,i⟩:=g es h;unfold fit PySem.SeqAt.shaped;simp only[b8,py,PyData.canLay0,PyData.depth,h1,h2,zcn];exact yDt (by lia)
theorem Nr(bs:List Bool):inD (.bl false) (bs.map D.bl)= !(bs.all id):=by
 unfold inD
 induction bs with
 |nil=>rfl
 |cons b bs ih=>
  rw[zci,zcj,ih,zck];cases b<;>rfl
theorem Sk{as bs:List yam}(h1:cj as=true)(h2:cj bs=true):PyData.eqv (.list as) (.list bs)=decide (as=bs):=by
 simp only[PyData.eqv];exact pA as bs h1 h2
theorem su:∀{as:List yam},(∀x∈as,bG x=true)->cj as=true
 |[],_=>rfl
 |a::as,h=>by simp only[cj,h a (by simp),su λx e=>h x (zay _ e),zco]
theorem Eo{o:Option MO}{Q:AK}(q:Q (.dat (.bl b)) S):UI S (S++[o]) (.dat (.bl b)) Q:=gu rfl q
noncomputable def Q3:List Str:=["a","ab","stay","many"]
def ua:AN:=λa S Q=>∃n x:Nat,a=[.int x,.int n]/\x<n/\Q (.dat (.bl true)) S
theorem FI(T:Txt K mg C fi)(F:Src K mg "_law_is_stand" gc (top 49)):Def P w K mg base 1 "_law_is_stand" gc (av K ua):=by
 refine cJ F DN (λe S Q h=>?_) (λf i A outer s H E j=>?_)
 ·obtain⟨n,x,rfl,_⟩:=h;rfl
 ·refine⟨_,(To (Tv (UE (TN Uv T.isinstance (Th (Tg 0) (Th (Uw "int" (by rfl) T.int (by decide+kernel)) Tr))) (UE (M.xS (TN Uv T.isinstance (Th (Tg 0) (Th (Uw "bool" (by rfl) T.bool (by decide+kernel)) Tr)))) (M.jG (M.oE M.MS Ux Tp (Tg 0) (Tg 1))))))),λe S Q h=>?_⟩;obtain⟨n,x,rfl,l,q⟩:=h;have a:aK rD [.int x,.int n]=[some (.int x),some (.int n)]:=rfl;rw[a];push_cast[true_and];refine⟨true,rfl,?_⟩;rw[yIp rfl];refine⟨false,rfl,?_⟩;rw[yIp (by decide),yIp (yDt (by lia)),yDt (by lia)];exact q
def zg:AN:=λa S Q=>∃y,a=[.str y]/\y∈Q3/\Q (.dat (.bl true)) S
theorem JB(T:Txt K mg C fi)(F:Src K mg "_law_is_name" iR (top 50)):Def P w K mg base 1 "_law_is_name" iR (av K zg):=by
 refine cJ F HN (λn S Q h=>?_) (λf o A outer s H E l=>?_)
 ·obtain⟨x,rfl,_⟩:=h;rfl
 ·refine⟨_,(Tj (TJ (Ud (Ue (Uh (Ua (TN Uv T.isinstance (Th (Tg 0) (Th (Uw "str" (by rfl) T.str (by decide+kernel)) Tr))))) (Ul (Uh (M.oi M.MS M.MS Tp (TN TZ T.len (Tn (Tg 0))) Tp))))) (To (Tv T7)) TL) (To (Tv (T5 (TR l) (Uc ["_law_sign"] [none] (TX (Tg 0)) (λ_ _ _ _=>(Uu (Tw M.EO (Tg 0) Tz rfl))) (λ_ _ _ _=>(Tg 0))) (TQ Tr) (aG _))))),λn S Q h=>?_⟩;obtain⟨y,rfl,e,q⟩:=h;have m:aK wj [.str y]=[some (.str y)]:=rfl;rw[m];have t:1<=y.length/\y.length<=8:=by
   simp only[Q3,zch,zbA,or_false] at e;rcases e with rfl|rfl|rfl|rfl<;>decide+kernel
  push_cast[cL,cI,bT];refine⟨true,rfl,?_⟩;rw[yIn (by decide)];refine⟨y.length,by simp only[fX];rw[yIp (by rw[yaf];lia)],?_⟩;rw[yIp (yDt (by lia)),yDt (by lia),yIn (by decide)];have a:∀c∈y.cps.toList,c∈("abcdefghijklmnopqrstuvwxyz":Str).cps.toList:=by
   simp only[Q3,zch,zbA,or_false] at e;rcases e with rfl|rfl|rfl|rfl<;>decide+kernel
  have i:y.cps.toList.length=y.length:=by simp[Str.length]
  refine bK (α:=Nat) (P:=λ_=>True) (δ:=[none]) (λc=>D.str ⟨#[c]⟩) (λ_=>false) (λc=>D.str ⟨#[c]⟩) trivial y.cps.toList [] _ rfl (λz hz u q2=>?_) (λz hz v j=>⟨_,rfl,j⟩) (by rw[yaf,i];show 0+y.length<=_;lia) ?_
  ·push_cast[true_and];refine⟨_,_,rfl,rfl,?_⟩;push_cast[true_and];rw[HE,yDt (a z hz)];exact q2
  ·rw[List.filter_eq_nil_iff.mpr (by simp)];exact⟨zcJ _,rfl,rfl,aY rfl q⟩
def zj:AN:=λa S Q=>∃l,a=[lD l]/\nI l/\Q (.dat (.bl true)) S
theorem JD(T:Txt K mg C fi)(F:Src K mg "_law_is_leaf" iT (top 51))(a:Def P w K mg base 1 "_law_is_name" iR (av K zg)):Def P w K mg base 2 "_law_is_leaf" iT (av K zj):=by
 refine cJ F HP (λy S Q h=>?_) (λf G A outer s H E j=>?_)
 ·obtain⟨x,rfl,_⟩:=h;rfl
 ·refine⟨_,(Tj (TJ (Ud (Ue (Uh (Ua (TN Uv T.isinstance (Th (Tg 0) (Th (Uw "tuple" (by rfl) T.tuple (by decide+kernel)) Tr))))) (Ue (Tw Ux (TN TZ T.len (Tn (Tg 0))) Tp (aG _)) (Ul (Uh (Ua (TN Uv T.isinstance (Th (Tq (Tg 0)) (Th (Uw "str" (by rfl) T.str (by decide+kernel)) Tr))))))))) (To (Tv T7)) TL) (Tj (TJ (Tw (TR j) (Tq (Tg 0)) Tz (aG _)) (To (Tv (T5 (TR j) (TN TZ T.len (Tn (Tg 0))) Tp (aG _)))) TL) (Tj (TJ (Tw (TR j) (Tq (Tg 0)) Tz (aG _)) (Tj (TJ (Ud (Ue (Tw (Uz j) (TN TZ T.len (Tn (Tg 0))) Tp (aG _)) (Ul (Tw (UL j) (Tq (Tg 0)) (TF (Th Tz (Tn Tz))) rfl)))) (To (Tv T7)) TL) (To (Tv (M.EH (T5 (TR j) (Tq (Tg 0)) Tz (aG _)) (M.jG (TM a j (Th (Tq (Tg 0)) Tr))))))) TL) (To (Tv (UE (T5 (Uk j) (Tq (Tg 0)) (TF (Th Tz (Tn Tz))) rfl) (UE (T5 (TR j) (TN TZ T.len (Tn (Tg 0))) Tp (aG _)) (M.jG (TM a j (Th (Tq (Tg 0)) Tr)))))))))),λy S Q h=>?_⟩;obtain⟨l,rfl,t,q⟩:=h;have v:aK wo [lD l]=[some (lD l)]:=rfl;rw[v];obtain⟨hd,tl,u⟩:∃hd tl,lD l=.tup (.str hd::tl):=by cases l<;>exact⟨_,_,rfl⟩
  refine b6 (λo i=>?_) ?_
  ·rw[u];push_cast[aq,bP];refine⟨true,rfl,?_⟩;rw[yIn (by decide)];refine⟨_,rfl,?_⟩;rw[yDf (by simp;lia),yIn (by decide)];exact⟨true,rfl,i⟩
  cases l with
  |stay=>
   refine gG (λo i=>?_) ?_
   ·push_cast[lD,aq,bP];exact qT trivial i
   ·push_cast[lD];exact⟨_,rfl,q⟩
  |step b x=>
   refine b6 (λo i=>?_) (gG (λo i=>?_) (b6 (λo i=>?_) ?_))
   ·push_cast[lD,aq,bP];exact qF (by decide+kernel) i
   ·push_cast[lD,aq,bP];exact qT trivial i
   ·push_cast[lD,aq,cX];refine⟨_,rfl,false,rfl,?_⟩;rw[yIn (by decide)];exact⟨sz rfl,eZ (n:=0) (ss:=["on","back"]) (show fU (side b)=true by cases b<;>decide+kernel) (by decide) (by decide+kernel) ⟨false,congrArg D.bl (by cases b<;>decide+kernel),i⟩⟩
   ·push_cast[lD,aq,at2];refine ee (λ_=>q) λh=>?_;refine⟨x,rfl,?_,aY rfl q⟩;have h:¬x=Str.ofString "*":=λe=>h (yDt e);simp only[nI,WD,zch,zbA,or_false] at t;simp only[Q3,zch,zbA,or_false];rcases t with rfl|rfl|rfl|rfl
    ·exact .inl rfl
    ·exact .inr (.inl rfl)
    ·exact .inr (.inr (.inl rfl))
    ·exact absurd rfl h
  |mk c m=>
   refine b6 (λo i=>?_) (b6 (λo i=>?_) ?_)
   ·push_cast[lD,aq,bP];exact qF (by cases c<;>decide+kernel) i
   ·push_cast[lD,aq,bP];exact qF (by cases c<;>decide+kernel) i
   push_cast[lD,aq,bP,cX];refine⟨sz rfl,eZ (n:=0) (ss:=["at","off"]) (show fU (MY c)=true by cases c<;>decide+kernel) (by decide) (by decide+kernel) ?_⟩;refine⟨true,congrArg D.bl (by cases c<;>decide+kernel),?_⟩;rw[yIp rfl];refine⟨_,rfl,?_⟩;push_cast[true_and];rw[yIp (by simp)];refine⟨m,rfl,?_,aY rfl q⟩;simp only[nI,MK,zch,zbA,or_false] at t;rcases t with rfl|rfl<;>simp[Q3]
theorem rZ:∀{l m:List yam},(∀x∈l,∀y∈l,bO x y=true)->l.Nodup->m.Nodup->l.Pairwise (λx y=>fH y x=false)->m.Pairwise (λx y=>fH y x=false)->(∀y,y∈l↔y∈m)->l=m
 |[],[],_,_,_,_,_,_=>rfl
 |[],b::m,_,_,_,_,_,h=>by have:=(h b).mpr (by simp);simp at this
 |a::l,[],_,_,_,_,_,h=>by have:=(h a).mp (by simp);simp at this
 |a::l,b::m,hc,n1,n2,p1,p2,h=>by
  have n:=zaQ.mp p1;have q2:=zaQ.mp p2;have o:b∈a::l:=(h b).mpr (by simp);have e:a=b:=by
   apply Classical.byContradiction;intro j;have h1:b∈l:=(zch.mp o).resolve_left λz=>j z.symm;have h2:a∈m:=(zch.mp ((h a).mp (by simp))).resolve_left j;rcases yf a b (hc a (by simp) b o) j with z|z
   ·rw[q2.1 a h2] at z;cases z
   ·rw[n.1 b h1] at z;cases z
  subst e;rw[zbL] at n1 n2;refine congrArg _ (rZ (λx q y i=>hc x (by simp[q]) y (by simp[i])) n1.2 n2.2 n.2 q2.2 λy=>⟨λi=>?_,λi=>?_⟩)
  ·exact(zch.mp ((h y).mp (by simp[i]))).resolve_left λz=>n1.1 (z▸i)
  ·exact(zch.mp ((h y).mpr (by simp[i]))).resolve_left λz=>n2.1 (z▸i)
def MSt(a:List Mv):Prop:=(pm a).Nodup/\(pm a).Pairwise λx y=>fH y x=false
def O3:AN:=λe S Q=>∃(n:Nat)(a:List Mv),e=[mD n 0 [1] a,.int 100]/\2<=n/\n<=60/\(∀m∈a,Bc n m)/\a.length<=60/\MSt a/\Q (.dat (.bl true)) S
theorem Sn(T:Txt K mg C fi)(F:Src K mg "_law_is_machine" vV (top 48))(i:Def P w K mg base 1 "_law_is_stand" gc (av K ua))(j:Def P w K mg base 2 "_law_is_leaf" iT (av K zj)):Def P w K mg base 3 "_law_is_machine" vV (av K O3):=by
 refine cJ F xg (λds S Q h=>?_) (λf cdv A outer s H E u=>?_)
 ·obtain⟨n,L,rfl,_⟩:=h;rfl
 ·refine⟨_,(Tj (TJ (Ud (Ue (Uh (Ua (TN Uv T.isinstance (Th (Tg 0) (Th (Uw "tuple" (by rfl) T.tuple (by decide+kernel)) Tr))))) (Ul (Tw (Uz u) (TN TZ T.len (Tn (Tg 0))) Tp (aG _))))) (To (Tv T7)) TL) (Tj (M.lG (Tg 0) (Ui (n:=4) rfl (TU (TH 2 xg.nd) (TU (TH 3 xg.nd) (TU (TH 4 xg.nd) (TU (TH 5 xg.nd) Uj)))))) (Tj (TJ (Ud (Ue (Uh (Ua (TN Uv T.isinstance (Th (Tg 4) (Th (Uw "tuple" (by rfl) T.tuple (by decide+kernel)) Tr))))) (Ul (Uh (Ua (TN Uv T.isinstance (Th (Tg 5) (Th (Uw "tuple" (by rfl) T.tuple (by decide+kernel)) Tr)))))))) (To (Tv T7)) TL) (Tj (TJ (Ud (Ue (Uh (Ua (TM i u (Th (Tg 2) (Th (Tt TV (Tg 1) Tp) Tr))))) (Ul (Tw Ux (Tg 2) Tp (aG _))))) (To (Tv T7)) TL) (Tj (Tu 6 xg.nd (T6 (Tt TV (TQ (Tn (Tg 3))) (Ub UK T.list (Tn (Tg 4)))))) (Tj (T4 PassesOwn.never rfl (TX (Tg 5)) (TH 7 xg.nd) (Tj (TJ (Ud (Ue (Uh (Ua (TN Uv T.isinstance (Th (Tg 7) (Th (Uw "tuple" (by rfl) T.tuple (by decide+kernel)) Tr))))) (Ue (Tw (Uz u) (TN TZ T.len (Tn (Tg 7))) Tp (aG _)) (Ul (Uh (Ua (TM j u (Th (Tq (Tg 7)) Tr)))))))) (To (Tv T7)) TL) (To (T9 (Us PySem.F.plainAttrs_list PySem.F.slot_list_extend PySem.F.type_list_extend M.oS (Tg 6) (Th (TQ (Th (Tq (Tg 7)) (Th (Tq (Tg 7)) Tr))) Tr)))))) (Tj (TJ (Tw (Uk u) T7 (Uc ["_law_stand","_law_many"] [none,some 2] (TX (Tg 6)) (λ_ _ _ _=>UA) (λ_ _ _ _=>(TM i u (Th (Tg 0) (Tn (Tg 1)))))) rfl) (To (Tv T7)) TL) (To (Tv (UE (T5 (TR u) (Ub UK T.list (Tn (Tg 4))) (M.iA rfl (by rfl) T.sorted (by rfl) T.set (Tg 4)) (aG _)) (M.jG (T5 (TR u) (Ub UK T.list (Tn (Tg 5))) (M.fy u rfl (by rfl) T.sorted (by rfl) T.set (Tg 5)) (aG _))))))))))))),λds S Q h=>?_⟩;obtain⟨n,L,rfl,n2,n6,Y,hl,hs,q⟩:=h;have e0:aK La [mD n 0 [1] L,.int 100]=[some (mD n 0 [1] L),some (.int 100),none,none,none,none,none,none]:=rfl;rw[e0];refine b6 (λQ q=>?_) ?_
  ·push_cast[mD];refine⟨true,rfl,?_⟩;rw[yIn (by decide)];exact⟨4,rfl,false,rfl,q⟩
  refine wZ λN h=>?_;push_cast[mD,rA,iN,rB];refine⟨_,rfl,rfl,_,_,rfl,_,_,rfl,_,_,rfl,_,_,rfl,rfl,h _ _ ?_⟩;clear h;refine b6 (λQ q=>?_) ?_
  ·push_cast[true_and];refine⟨true,rfl,?_⟩;rw[yIn (by decide)];exact⟨true,rfl,q⟩
  refine b6 (λQ q=>?_) ?_
  ·push_cast[true_and];refine⟨101,n,rfl,by lia,true,rfl,?_⟩;rw[yIn (by decide)];exact qF (by lia) q
  refine wZ λN h=>?_;push_cast[cA,ji];refine⟨sz rfl,sz rfl,h _ _ ?_⟩;clear h;refine wZ λN0 h0=>?_;have I:∀o:MO,(S++[some o])[S.length]? =some (some o):=λo=>by simp
  have RE:∀o o':MO,(S++[some o]).set S.length (some o')=S++[some o']:=λo o'=>by rw[zau _ _ (zcI _)];simp
  have RI:∀o:MO,aS (S++[some o]) (.loc S.length)=o.d:=λo=>by simp only[aS,I]
  push_cast[dW,cI,bT];refine bf (λrest δ S2=>∃(v q2:List Mv)(t:List Nat)(Z:Option D),rest=q2.map vD/\v++q2=L/\S2=S++[some (.lst (nL t))]/\δ=[some (.tup [.int n,.int (0:Nat),.tup (nL [1]),.tup (L.map vD)]),some (.int 100),some (.int n),some (.int (0:Nat)),some (.tup (nL [1])),some (.tup (L.map vD)),some (.loc S.length),Z]/\(∀x∈t,x<n)/\t.length=2+2*v.length) ?_ ?_ _ _ _ ⟨[],L,[0,1],none,rfl,rfl,rfl,rfl,by simp;lia,rfl⟩
  ·rintro δ S2 ⟨v,q2,t,Z,u,G,rfl,rfl,h1,h2⟩;have:q2=[]:=by cases q2 with
    |nil=>rfl
    |cons _ _=>simp at u
   subst this;rw[zbK] at G;subst G;refine⟨trivial,h0 _ _ ?_⟩;clear h0;push_cast[cL,ji,cI,bT];refine⟨_,I _,?_⟩;refine bK (α:=Nat) (P:=λS3=>S3[S.length]? =some (some (.lst (nL t)))) (δ:=[none,some (.int n)]) (λz:Nat=>D.int z) (λ_=>true) (λ_=>D.bl true) (I _) t [] _ rfl (λz hz Q2 q2=>q2) (λz hz Q' q'=>?_) (by rw[yaf];show 0+t.length<=_;lia) ?_
   ·push_cast[true_and];exact⟨n,z,rfl,h1 z hz,q'⟩
   ·rw[zbR,zaH.mpr λ_ _=>rfl,show(t.map λ_=>D.bl true)=(t.map λ_=>true).map D.bl by rw[zct];rfl];refine⟨rfl,Jl _,false,?_,?_⟩
    ·rw[zy,Nr,show(t.map λ_=>true).all id=true by simp];rfl
    ·rw[yIn (by decide)];push_cast[l5,jh];refine⟨[1],.inl rfl,by decide,λU s1 s2 s3=>?_⟩;have es:U=[1]:=by
      cases U with
      |nil=>have:=(s2 1).mpr (by simp);simp at this
      |cons a r=>
       have ha:a=1:=by simpa using(s2 a).mp (by simp)
       subst ha;cases r with
       |nil=>rfl
       |cons b r=>
        have hb:b=1:=by simpa using(s2 b).mp (by simp)
        subst hb;simp at s1
     subst es;refine⟨rfl,rfl,?_⟩;refine⟨true,rfl,?_⟩;rw[yIp rfl];have gd:∀k∈v.map vD,dj k/\∃q r,py k=PyData.tuple (.int q::r):=λk hk=>by
      obtain⟨m,hm,rfl⟩:=zcu.mp hk;exact⟨nu (Y m hm).2.1,EW m⟩
     have cm:∀k∈v.map vD,∀l∈v.map vD,bO (py k) (py l)=true:=λk hk l hl=>by
      obtain⟨m,_,rfl⟩:=zcu.mp hk;obtain⟨m',_,rfl⟩:=zcu.mp hl;exact x8 m m'
     refine⟨_,.inl rfl,gd,cm,by rw[zbJ];lia,λO k1 k2 k3 k4=>?_⟩;have gk:∀e∈v.map vD,b8 e=true/\bG (py e)=true/\(py e).depth<=6:=λe G=>let g:=(gd e G).1;⟨g.1,g.2.1,g.2.2.1⟩;have ep:(v.map vD).map py=O.map py:=rZ (λx X y hy=>by
      obtain⟨a,ha,rfl⟩:=zcu.mp X;obtain⟨b,hb,rfl⟩:=zcu.mp hy;exact cm a ha b hb) (by rw[zct];exact hs.1) k3 (by rw[zct];exact hs.2) (zbg.mpr k4) λy=>(k2 y).symm
     refine⟨vh gk,vh λe G=>gk e (k1 e G),?_⟩;have W:cj (O.map py)=true:=su λx X=>by
      obtain⟨e,G,rfl⟩:=zcu.mp X;exact(gk e (k1 e G)).2.1
     have e1:PyData.eqv (py (.lst (v.map vD))) (py (.lst O))=true:=by
      simp only[py,gx];rw[ep,Sk W W,yDt rfl]
     rw[dO,dO,e1];exact Eo q
  ·rintro x rest δ S2 N' ⟨v,q2,t,Z,u,G,rfl,rfl,h1,h2⟩ hN';cases q2 with
   |nil=>simp at u
   |cons r q2=>
    rw[zci] at u;injection u with e1 e2;subst e1;subst e2;have hrm:r∈L:=by rw[<-G];simp
    have ok:=Y r hrm;have hql:v.length<60:=by have:=congrArg zcH G;simp at this;lia
    refine⟨trivial,?_⟩;push_cast[vD,aq,bP,cX,at2,wJ];refine⟨true,rfl,?_⟩;rw[yIn (by decide)];refine⟨3,rfl,false,rfl,?_⟩;rw[yIn (by decide)];refine⟨r.2.1,rfl,ok.2.1,true,rfl,?_⟩;rw[yIn (by decide)];refine⟨by rw[RI];rfl,sz rfl,?_⟩;refine⟨S.length,nL t,_,_,rfl,rfl,I _,.inl rfl,by rw[nL,zbJ,yaf];show t.length+2<=_;lia,?_⟩;rw[RE,show nL t++[D.int r.1,D.int r.2.2]=nL (t++[r.1,r.2.2]) by simp[nL]];refine hN' _ _ ⟨v++[r],q2,t++[r.1,r.2.2],_,rfl,by rw[zbc];exact G,rfl,rfl,λx X=>?_,by simp only[zaM,zbq,zbO,h2];lia⟩;rcases zbI.mp X with h|h
    ·exact h1 x h
    ·simp only[zch,zbA,or_false] at h;rcases h with rfl|rfl
     ·exact ok.1
     ·exact ok.2.2
open PySem L2 M M6
noncomputable abbrev wz:List Str:=[]
noncomputable abbrev iV:List Str:=[]
theorem HQ:aA wz iV (ah (top 33)):=L2.bR
noncomputable abbrev AR:List Str:=["_law_cell","_law_most","_law_ds","_law_knots_here","_law_marks_here","_law_k","_law_ties","_law_j","_law_one","_law_other"]
noncomputable abbrev kK:=AR.take 2
theorem gn:aA AR kK (ah (top 36)):=L2.bR
noncomputable def RT:List Nat:=6::(zcb 6 4++7::(zcb 6 [6,3,6]).flatten)
noncomputable def KN:List Str:=["a","ab","on","back","m","knot"]
noncomputable def W3:List Str:=["a","ab","stay"]
structure RO(ks:List Kn)(ts:List Ti):Prop where
 k1:1<=ks.length
 k6:ks.length<=6
 nd:(nms ks).Nodup
 nm:∀k∈ks,k.1∈KN/\k.2.length<=2/\∀m∈k.2,m∈MK
 tn:ts.Nodup
 tl:ts.length<=6
 tk:∀t∈ts,t.1∈nms ks/\t.2.2∈nms ks/\t.2.1∈W3
theorem mF(h:x∈KN):fU x=true:=by
 simp only[KN,zch,zbA,or_false] at h;rcases h with rfl|rfl|rfl|rfl|rfl|rfl<;>decide+kernel
theorem tZ(h:x∈W3):fU x=true:=by
 simp only[W3,zch,zbA,or_false] at h;rcases h with rfl|rfl|rfl<;>decide+kernel
theorem jU{x:D}{a:List D}(h:x::a=(cW 0 m).drop j):j<m/\x=.int (j:Int)/\a=(cW 0 m).drop (j+1):=by
 have e:j<(cW 0 m).length:=by
  rcases zcA j (cW 0 m).length with z|z
  ·exact z
  ·rw[List.drop_eq_nil_of_le z] at h;cases h
 rw[zag e] at h;injection h with h1 h2;have i:j<m:=by simpa[cW] using e
 refine⟨i,?_,h2⟩;rw[h1];simp[cW]
theorem Ic(m:Nat):(cW 0 m).length=m:=by simp[cW]
theorem yH{l:List Str}(h:j<l.length):fJ (l.map D.str) (j:Int)=some (.str l[j]):=cE (by simp[h])
theorem HB{lo hi:Option Int}{Q:AK}:Co (.lst ds) lo hi S Q=Q (.new (.lst (UB ds lo hi))) S:=rfl
theorem PN{b:Nat}{Q:D->Prop}(h:b<3)(k:∀x∈W3,Q (.str x)):∃e,fJ [D.str "a",D.str "ab",D.str "stay"] (b:Int)=some e/\Q e:=by
 rcases(by lia:b=0∨b=1∨b=2) with rfl|rfl|rfl
 ·exact⟨_,bP,k _ (by simp[W3])⟩
 ·exact⟨_,cX,k _ (by simp[W3])⟩
 ·exact⟨_,at2,k _ (by simp[W3])⟩
theorem N6(n:Nat)(ks:List Kn)(ts:List Ti):jm n (ia ks ts)=true:=by
 have h1:bL (ks.map λk=>D.lst (k.2.map D.str))=true:=dF λk _=>by
  show bL (k.2.map D.str)=true;exact dF λ_ _=>rfl
 have h2:bL (ts.map T3)=true:=dF λ_ _=>rfl;simp only[ia,jm,jl,cK _ _ h1,cK _ _ h2,zco]
theorem xX(ks:List Kn):ic ks=(nms ks).map Sum.inr:=by unfold ic nms;rw[zct];rfl
noncomputable def CQ(ks:List Kn):List D:=ks.map λk=>.lst (k.2.map D.str)
theorem Mu{ks:List Kn}(h:x ∉ nms ks):pG (ic ks) (CQ ks) (.inr x) (.lst (ms.map D.str))=.dct (ic (ks++[(x,ms)])) (CQ (ks++[(x,ms)])):=by
 have:=sY (ic ks,CQ ks) (.inr x,.lst (ms.map D.str));unfold vq at this;dsimp only at this;rw[xX,vt,yDf h,yIn (by decide)] at this;rw[xX,this,xX];simp[nms,CQ]
def zl:AN:=λa S Q=>a=[]/\Q (.new (.lst (KN.map D.str))) S
theorem JF(T:Txt K mg C fi)(F:Src K mg "_law_knots" iV (top 33)):Def P w K mg base 1 "_law_knots" iV (av K zl):=by
 refine cJ F HQ (λe S Q h=>?_) (λf i A outer s H E j=>?_)
 ·obtain⟨rfl,_⟩:=h;rfl
 ·refine⟨_,(To (Tv (TQ (Th Tz (Th Tz (Th Tz (Th Tz (Th Tz (Tn Tz))))))))),λe S Q h=>?_⟩;obtain⟨rfl,q⟩:=h;have a:aK wz []=[]:=rfl;rw[a];push_cast[true_and];exact⟨sz rfl,d9 rfl q⟩
def Dm:AN:=λh S Q=>∃z:Int,h=[.int z,.int 6]/\∀e a,RO e a->Q (.dat (ia e a)) S
theorem ND(T:Txt K mg C fi)(F:Src K mg "_law_rows" kK (top 36))(O:Def P w K mg base 1 "_law_draws" fc (av K ng))(L:Def P w K mg base 1 "_law_knots" iV (av K zl))(G:Def P w K mg base 1 "_law_words" f7 (av K rK))(I:Def P w K mg base 1 "_law_marks" f9 (av K rN)):Def P w K mg base 2 "_law_rows" kK (av K Dm):=by
 refine cJ F gn (λds S Q h=>?_) (λf cdv A outer s H E U=>?_)
 ·obtain⟨z,rfl,_⟩:=h;rfl
 ·refine⟨_,(Tj (Tu 2 gn.nd (TM O U (Th (Tg 0) (Th (Tt TV (Tt TV (Tt TV (TQ (Tn Tp)) (Tt Ug (TQ (Tn Tp)) Tp)) (TQ (Th (Tt TV (Tg 1) Tp) Tr))) (Tt Ug (TQ (Th Tp (Th Tp (Tn Tp)))) (Tg 1))) Tr)))) (Tj (Tu 3 gn.nd (M.fS M.zW (M.j6 L (U.mono (by decide)) (by rfl)) M.j4 (M.gA (Tt TV Tp (Tq (Tg 2)))))) (Tj (Tu 4 gn.nd (T6 M.fT)) (Tj (T4 PassesOwn.never rfl (Uy (by rfl) T.range (Th (TN TZ T.len (Tn (Tg 3))) Tr)) (TH 5 gn.nd) (To (M.iz (di U) (Tg 4) (TY (Tg 3) (Tg 5)) (Uc ["_law_j","_law_ds","_law_k"] [none,some 2,some 5] (Uy (by rfl) T.range (Tn Tp)) (λ_ _ _ _=>(Uu (Tw (TR U) (Tt T8 (Tt M.oH (TY (Tg 1) (Tt TV Tp (Tg 2))) (Tt TV Tp (Tg 0))) Tp) Tp (aG _)))) (λ_ _ _ _=>(TY (M.j6 I (U.mono (by decide)) (by rfl)) (Tg 0)))) rfl))) (Tj (Tu 6 gn.nd (T6 M.iB)) (Tj (T4 PassesOwn.never rfl (Uy (by rfl) T.range (Th (Tq (Tg 2)) Tr)) (TH 7 gn.nd) (Tj (Tu 8 gn.nd (TY (Tg 3) (Tt T8 (TY (Tg 2) (Tt TV Tp (Tt Ug Tp (Tg 7)))) (TN TZ T.len (Tn (Tg 3)))))) (Tj (Tu 9 gn.nd (TY (Tg 3) (Tt T8 (TY (Tg 2) (Tt TV Tp (Tt Ug Tp (Tg 7)))) (TN TZ T.len (Tn (Tg 3)))))) (To (M.jb U (Tg 6) (TF (Th (Tg 8) (Th (TY (M.j6 G (U.mono (by decide)) (by rfl)) (TY (Tg 2) (Tt TV Tp (Tt Ug Tp (Tg 7))))) (Tn (Tg 9))))) T7 rfl))))) (To (Tv (M.Sh (TF (Th (Tg 4) (Th (Ub (M.IG U) T.list (Tn (Tg 6))) Tr)))))))))))),λds S Q h=>?_⟩;obtain⟨z,rfl,q⟩:=h;have e0:aK AR [.int z,.int 6]=[some (.int z),some (.int 6),none,none,none,none,none,none,none,none]:=rfl;rw[e0];push_cast[vS,cA,tO,tN];have er:[D.int 6]++(zcb (6:Int).toNat [D.int 4]).flatten++[D.int (6+1)]++(zcb (6:Int).toNat [D.int 6,D.int 3,D.int 6]).flatten=nL RT:=rfl;rw[er];refine⟨sz rfl,sz rfl,by decide,by decide,sz rfl,sz rfl,sz rfl,sz rfl,sz rfl,by decide,by decide,sz rfl,sz rfl,z,RT,rfl,by decide,by decide,λys hl hlt=>?_⟩;have ya:∀i,i<26->∃a,ys[i]? =some a/\∀b,RT[i]? =some b->a<b:=λi X=>by
   have:i<ys.length:=by rw[hl];exact X
   exact⟨_,zak this,λb hb=>hlt i _ b (zak this) hb⟩
  obtain⟨n,hn0,hb0⟩:=ya 0 (by lia);have hb0:n<6:=hb0 6 rfl;refine⟨rfl,?_⟩;push_cast[dg];refine⟨_,jy (i:=0) hn0,?_⟩;push_cast[true_and];have ek:UB (KN.map D.str) none (some (1+(n:Int)))=(KN.take (n+1)).map D.str:=by
   rcases(by lia:n=0∨n=1∨n=2∨n=3∨n=4∨n=5) with rfl|rfl|rfl|rfl|rfl|rfl<;>rfl
  rw[HB,ek];have Y:(KN.take (n+1)).length=n+1:=by rw[zbr];show min _ 6=_;lia
  have kl2:(KN.take (n+1)).Nodup:=(show KN.Nodup by decide+kernel).sublist (List.take_sublist ..);have W:∀x∈KN.take (n+1),x∈KN:=λx hx=>List.mem_of_mem_take hx;generalize KN.take (n+1)=kl at Y kl2 W;push_cast[dW,o6,JY];refine⟨n+1,by simp[fX,Y],by lia,by lia,?_⟩;rw[show((n+1:Nat):Int).toNat=n+1 by lia];refine bf (λrest δ S2=>∃(j:Nat)(l:List Kn)(v5:Option D),j<=n+1/\rest=(cW 0 (n+1)).drop j/\δ=[some (.int z),some (.int 6),some (.lst (nL ys)),some (.lst (kl.map D.str)),some (.loc S.length),v5,none,none,none,none]/\S2=S++[some (.dct (ic l) (CQ l))]/\l.length=j/\nms l=kl.take j/\∀k∈l,k.2.length<=2/\∀m∈k.2,m∈MK) ?_ ?_ _ _ _ ⟨0,[],none,zcJ _,rfl,rfl,rfl,rfl,rfl,by simp⟩
  ·rintro δ S2 ⟨j,l,v5,hj,U,rfl,rfl,g1,g2,g3⟩;obtain rfl:j=n+1:=by
    have:=congrArg zcH U;rw[zbs,Ic] at this;simp at this;lia
   rw[<-Y,zbv] at g2;refine⟨trivial,?_⟩;obtain⟨n7,hn7,hb7⟩:=ya 7 (by lia);have hb7:n7<7:=hb7 7 rfl;push_cast[dW,o6,cA,tN,dg];refine⟨_,jy (i:=7) hn7,?_⟩;refine⟨_,rfl,by lia,by lia,?_⟩;rw[show((n7:Nat):Int).toNat=n7 by lia,zbc];have hks:∀k∈l,k.1∈KN:=λk Z=>W _ (by rw[<-g2];exact zcu.mpr ⟨k,Z,rfl⟩);have at5:∀a b:MO,(S++[some a,some b])[S.length]? =some (some a):=λa b=>by simp
   have at6:∀a b:MO,(S++[some a,some b])[S.length+1]? =some (some b):=λa b=>by rw[zab (by lia)];simp
   have O5:∀a b c:MO,(S++[some a,some b]).set (S.length+1) (some c)=S++[some a,some c]:=λa b c=>by rw[zau _ _ (by lia)];simp
   have RH:∀a b:MO,(S++[some a,some b]).set S.length none=S++[none,some b]:=λa b=>by rw[zau _ _ (zcI _)];simp
   rw[show zcH (S++[some (MO.dct (ic l) (CQ l))])=S.length+1 by simp];refine bf (λrest δ S2=>∃(j:Nat)(v:List Ti)(v7 v8 v9:Option D),j<=n7/\rest=(cW 0 n7).drop j/\δ=[some (.int z),some (.int 6),some (.lst (nL ys)),some (.lst (kl.map D.str)),some (.loc S.length),v5,some (.loc (S.length+1)),v7,v8,v9]/\S2=S++[some (.dct (ic l) (CQ l)),some (nO w (v.map T3))]/\v.length<=j/\v.Nodup/\∀t∈v,t.1∈nms l/\t.2.2∈nms l/\t.2.1∈W3) ?_ ?_ _ _ _ ⟨0,[],none,none,none,zcJ _,rfl,rfl,rfl,zcI _,.nil,by simp⟩
   ·rintro δ S2 ⟨j,v,v7,v8,v9,hj,U,rfl,rfl,t1,t2,t3⟩;refine⟨trivial,?_⟩;push_cast[Gj];refine⟨S.length+1,_,rfl,at6 _ _,by rw[zbJ];lia,sz rfl,?_⟩;refine⟨S.length,ic l,CQ l,_,rfl,at5 _ _,?_⟩;rw[RH,show([D.loc S.length,(R.new (MO.lst (v.map T3))).d]:List D).map (sb S.length (.dct (ic l) (CQ l)))=[.dct (ic l) (CQ l),.lst (v.map T3)] by simp[sb,xM,MO.d]];refine⟨.dat (ia l v),?_,λk o Z e=>.inl (by rw[zae Z] at e;exact e),?_⟩
    ·simp only[out];exact yIp (N6 S.length l v)
    ·rw[List.take_left];refine q l v ⟨by lia,by lia,by rw[g2];exact kl2,λk Z=>⟨hks k Z,g3 k Z⟩,t2,by lia,t3⟩
   ·rintro x rest δ S2 N' ⟨j,v,v7,v8,v9,hj,U,rfl,rfl,t1,t2,t3⟩ hN';obtain⟨h1,rfl,rfl⟩:=jU U;obtain⟨a,ha,_⟩:=ya (8+3*j) (by lia);obtain⟨b,hb,hb3⟩:=ya (9+3*j) (by lia);obtain⟨c,hc,_⟩:=ya (10+3*j) (by lia);have hb3:b<3:=by
     rcases(by lia:j=0∨j=1∨j=2∨j=3∨j=4∨j=5) with rfl|rfl|rfl|rfl|rfl|rfl<;>exact hb3 3 rfl
    refine⟨trivial,?_⟩;push_cast[vS,AF,dg];have cm:CP 3 (j:Int):=.inl (by decide);have hkl:fX (D.lst (kl.map D.str))=some (n+1):=by simp[fX,Y]
    have ex:∀u:Nat,((u:Int) % ((n+1:Nat):Int))=((u % (n+1):Nat):Int):=λu=>by lia
    have hx:∀u:Nat,u % (n+1)<kl.length:=λu=>by rw[Y];exact zcN _ (by lia)
    rw[show(8:Int)+3*(j:Int)=((8+3*j:Nat):Int) by lia,show(9:Int)+3*(j:Int)=((9+3*j:Nat):Int) by lia,show(10:Int)+3*(j:Int)=((10+3*j:Nat):Int) by lia];refine⟨cm,_,jy ha,_,hkl,?_⟩;push_cast[dg];rw[ex a];refine⟨by lia,_,yH (hx a),cm,_,jy hc,_,hkl,?_⟩;push_cast[dg];rw[ex c];refine⟨by lia,_,yH (hx c),rfl,cm,_,jy hb,?_⟩;push_cast[dg];refine PN hb3 λwd hwd=>⟨sz rfl,S.length+1,rfl,v.map T3,at6 _ _,?_⟩
    generalize eA:kl[a % (n+1)]'(hx a)=kA;generalize eC:kl[c % (n+1)]'(hx c)=kC;have mA:kA∈kl:=eA▸zby _;have mC:kC∈kl:=eC▸zby _;have okN:pU (kA,wd,kC)=true:=by
     unfold pU;rw[mF (W _ mA),tZ hwd,mF (W _ mC)];rfl
    have okA:∀t∈v,pU t=true:=λt ht=>by
     obtain⟨k1,k2,k3⟩:=t3 t ht;rw[g2] at k1 k2;unfold pU;rw[mF (W _ k1),tZ k3,mF (W _ k2)];rfl
    refine⟨good3 (t:=(kA,wd,kC)) okN,λk Z=>?_,by rw[zbJ];lia,?_⟩
    ·obtain⟨t,ht,rfl⟩:=zcu.mp Z;exact good3 (okA t ht)
    ·rw[show D.tup [D.str kA,D.str wd,D.str kC]=T3 (kA,wd,kC) from rfl];by_cases hin:(kA,wd,kC)∈v
     ·have e9:putN (v.map T3) (T3 (kA,wd,kC))=v.map T3:=by
       unfold putN;rw[yIp (zbC.mpr ⟨T3 (kA,wd,kC),zcu.mpr ⟨_,hin,rfl⟩,yDt rfl⟩)]
      rw[e9,O5];exact hN' _ _ ⟨j+1,v,_,_,_,by lia,rfl,rfl,rfl,by lia,t2,t3⟩
     ·rw[put3 hin,O5];refine hN' _ _ ⟨j+1,v++[(kA,wd,kC)],_,_,_,by lia,rfl,rfl,rfl,by rw[zaM];show v.length+1<=_;lia,?_,λt ht=>?_⟩
      ·rw[zbf];exact⟨t2,by simp,λx hx y hy e=>hin (by rw[<-zaO.mp hy,<-e];exact hx)⟩
      ·rcases zbI.mp ht with h|h
       ·exact t3 t h
       ·rw[zaO.mp h,g2];exact⟨mA,mC,hwd⟩
  ·rintro x rest δ S2 N' ⟨j,l,v5,hj,U,rfl,rfl,g1,g2,g3⟩ hN';obtain⟨h1,rfl,rfl⟩:=jU U;obtain⟨y,hy,_⟩:=ya (1+j) (by lia);have hjl:j<kl.length:=by lia
   refine⟨trivial,?_⟩;push_cast[pO,cL,o6];refine⟨by decide,by decide,?_⟩;refine bK (α:=Nat) (P:=λ_=>True) (δ:=[none,some (.lst (nL ys)),some (.int j)]) (λz:Nat=>D.int z) (λi=>decide (((y:Int) / (1+(i:Int))) % 2=1)) (λi=>D.str (MK.getD i "")) trivial [0,1] [] _ rfl (λi X Q2 q2=>?_) (λi X Q' q'=>?_) (by decide) ?_
   ·push_cast[dg];rw[show(1:Int)+(j:Int)=((1+j:Nat):Int) by lia];refine⟨_,jy hy,?_⟩;push_cast[true_and];have hi2:i<2:=by simp only[zch,zbA,or_false] at X;lia
    exact⟨⟨by lia,by lia⟩,by decide,q2⟩
   ·push_cast[true_and];refine⟨rfl,?_⟩;simp only[zch,zbA,or_false] at X;rcases X with rfl|rfl
    ·exact⟨_,bP,q'⟩
    ·exact⟨_,cX,q'⟩
   ·rw[zbR,dg];refine⟨_,yH hjl,S.length,rfl,ic l,CQ l,.inr kl[j],rfl,by simp,by rw[CQ,zbJ];lia,?_⟩;have ab:kl[j] ∉ nms l:=by
     rw[g2];intro hm;obtain⟨i,X,e⟩:=zaG hm;rw[zbr] at X;rw[List.getElem_take] at e;have:=(List.nodup_iff_pairwise_ne.mp kl2 |> zah.mp) i j (by lia) hjl (by lia);exact this e
    generalize hms:([0,1]:List Nat).filter (λi:Nat=>decide (((y:Int) / (1+(i:Int))) % 2=1))=is;have hil:is.length<=2:=by rw[<-hms];exact zav ..
    have him:∀i∈is,i<2:=λi X=>by
     rw[<-hms] at X;have:=(zbH.mp X).1;simp only[zch,zbA,or_false] at this;lia
    rw[show(is.map λi=>D.str (MK.getD i ""))=(is.map λi=>MK.getD i "").map D.str by rw[zct];rfl,Mu ab,zau _ _ (zcI _),zcB];refine hN' _ _ ⟨j+1,l++[(kl[j],is.map λi=>MK.getD i "")],_,by lia,rfl,rfl,rfl,by simp[g1],?_,λk Z=>?_⟩
    ·rw[List.take_succ_eq_append_getElem hjl,<-g2];simp[nms]
    ·rcases zbI.mp Z with h|h
     ·exact g3 k h
     ·rw[zaO.mp h];refine⟨by rw[zbJ];exact hil,λm hm=>?_⟩;obtain⟨i,X,rfl⟩:=zcu.mp hm;rcases(by have:=him i X;lia:i=0∨i=1) with rfl|rfl<;>simp[MK]
open PySem PySem.Spec L2 M M6 PyProof.Rows
noncomputable abbrev wm:List Str:=["_law_rows_here","_law_web","_law_knot","_law_one","_law_word","_law_other"]
noncomputable abbrev iS:=wm.take 1
theorem i9:aA wm iS (ah (top 37)):=L2.bR
noncomputable abbrev we:List Str:=["_law_rows_here","_law_knot","_law_found"]
noncomputable abbrev iQ:=we.take 2
theorem zz:aA we iQ (ah (top 38)):=L2.bR
theorem RO.G7{ks:List Kn}{ts:List Ti}(h:RO ks ts):∀t∈ts,pU t=true:=λt l=>by
 obtain⟨h1,h2,m⟩:=h.tk t l;obtain⟨k,k1,a⟩:=zcu.mp h1;obtain⟨j,i,e⟩:=zcu.mp h2;unfold pU;rw[<-a,<-e,mF (h.nm k k1).1,tZ m,mF (h.nm j i).1];rfl
theorem gK{α:Type}{P:aL->Prop}{s:AG}{t:AT}{e:AE}{Q:List D->aL->Prop}{S:aL}(g:α->D)(c:α->Bool)(f:α->D)(j:α->bx)(l:bx->Prop)(m:P S)(n:∀a,l (j a)):∀(as:List α)(i:List D)(δ:bx),l δ->
  (∀a∈as,∀δ,l δ->∀Q:bx->aL->Prop,Q (j a) S->s (g a) δ S Q)->(∀a∈as,∀Q:Bool->aL->Prop,Q (c a) S->t (j a) S Q)->(∀a∈as,∀Q:AK,Q (.dat (f a)) S->e (j a) S Q)->i.length+as.length<=yag->Q (i++(as.filter c).map f) S->
  gV P s t e (as.map g) i δ S Q
 |[],i,δ,_,_,_,_,_,q=>⟨m,by simpa using q⟩
 |a::as,i,δ,hd,hg,ht,he,hl,q=>by
  refine⟨m,hg a (by simp) δ hd _ (ht a (by simp) _ ?_)⟩;simp only[zbq] at hl;cases o:c a with
  |true=>
   rw[yIp rfl];refine he a (by simp) _ ⟨by lia,?_⟩;refine gK g c f j l m n as _ _ (n a) (λx h=>hg x (by simp[h])) (λx h=>ht x (by simp[h])) (λx h=>he x (by simp[h])) (by simp;lia) ?_;rw[zbD,o,yIp rfl,zci] at q;simpa[R.d,zbc] using q
  |false=>
   rw[yIn (by decide)];refine gK g c f j l m n as _ _ (n a) (λx h=>hg x (by simp[h])) (λx h=>ht x (by simp[h])) (λx h=>he x (by simp[h])) (by lia) ?_;rw[zbD,o,yIn (by decide)] at q;exact q
def zh(C:Addr)(W:yak):AN:=λi S Q=>∃e a,i=[ia e a]/\RO e a/\∀h,gW C W S.length h S.length e.reverse a->(∀k,k<S.length->h[k]? =S[k]?)->Q (.dat (.loc S.length)) h
theorem JC{fdi:yap}(T:Txt K mg C fi)(F:Src K mg "_law_laid" iS (top 37))(ab:dX P w K mg base nJ 1 fi fdi jk (av K (Dz C w)))(ac:Binds K fdi jk [])(l:i6 P w K mg base 2 C "put_knot" kM (Dq C w))(G:i6 P w K mg base 2 C "put_tie" kL (Dp C w)):Def P w K mg base 3 "_law_laid" iS (av K (zh C w)):=by
 refine QB F i9 (λds S Q h=>?_) (λf cdv A outer s H E o=>?_)
 ·obtain⟨i,O,rfl,_⟩:=h;rfl
 ·refine⟨_,(Tj (Tu 1 i9.nd (M.oA T.wF ab ac (o.mono (by decide)) (by rfl) T.mg_Web)) (Tj (T4 PassesOwn.never rfl (M.r9 (by rfl) T.reversed (Ub (M.sD o) T.list (Th (Tq (Tg 0)) Tr))) (TH 2 i9.nd) (To (T9 (Ut (Tg 1) T.cl l (o.mono (by decide)) (Th (Tg 2) (Th (Ub UK T.list (Th (Uo (di o) (Tq (Tg 0)) (Tg 2) (λ_ _=>rfl)) Tr)) Tr)))))) (Tj (T4 PassesOwn.never rfl (TX (Tq (Tg 0))) (Ui (n:=3) rfl (TU (TH 3 i9.nd) (TU (TH 4 i9.nd) (TU (TH 5 i9.nd) Uj)))) (To (T9 (Ut (Tg 1) T.cl G (o.mono (by decide)) (Th (Tg 3) (Th (Tg 4) (Tn (Tg 5)))))))) (To (Tv (Tg 1)))))),λds S Q h=>?_⟩;obtain⟨i,O,rfl,a,q⟩:=h;have e0:aK wm [ia i O]=[some (ia i O),none,none,none,none,none]:=rfl;rw[e0];push_cast[K7,dW];refine⟨S.length,rfl,by rw[zaM];rfl,AB,λS1 X1 k1 l1=>⟨rfl,?_⟩⟩;push_cast[Fj,yN,ia,aq,bP];refine⟨_,⟨_,rfl⟩,_,rfl,?_⟩;rw[show(ic i).map kD=i.map (λk=>D.str k.1) by unfold ic;rw[zct];rfl,<-List.map_reverse];have gw:∀r∈i,kE (ic i) (i.map λk=>D.lst (k.2.map D.str)) (.inr r.1)=some (.lst (r.2.map D.str)):=λr o=>by
   have hm:r.1∈nms i:=zcu.mpr ⟨r,o,rfl⟩;rw[lU hm,<-sG a.nd (b9 hm) o rfl]
  have Y:∀r,r∈i.reverse↔r∈i:=λr=>zbE;have hnr:(nms i.reverse).Nodup:=by unfold nms;rw[List.map_reverse];exact List.pairwise_reverse.mpr (a.nd.imp λh=>Ne.symm h)
  have hk6:=a.k6;rw[<-List.length_reverse] at hk6;generalize i.reverse=kr at Y hnr hk6 q;refine bf (λrest W S'=>∃(done I:List Kn)(v2:Option D),rest=I.map (λk=>D.str k.1)/\done++I=kr/\W=[some (ia i O),some (.loc S.length),v2,none,none,none]/\gW C w S.length S' S.length done []/\∀k,k<S.length->S'[k]? =S[k]?) ?_ ?_ _ _ _ ⟨[],kr,none,rfl,rfl,rfl,X1,λk L=>by rw[k1 k L,zae L]⟩
  ·rintro W S2 ⟨done,I,v2,v,u,rfl,X2,k2⟩;have:I=[]:=by cases I with|nil=>rfl|cons _ _=>simp at v
   subst this;rw[zbK] at u;subst u;refine⟨trivial,?_⟩;push_cast[ia,aq,cX,cI,bT,dW];refine bf (λrest W S'=>∃(U rt:List Ti)(v4 v5 v6:Option D),rest=rt.map T3/\U++rt=O/\W=[some (ia i O),some (.loc S.length),v2,v4,v5,v6]/\gW C w S.length S' S.length done U/\∀k,k<S.length->S'[k]? =S[k]?) ?_ ?_ _ _ _ ⟨[],O,none,none,none,rfl,rfl,rfl,X2,k2⟩
   ·rintro W S3 ⟨U,rt,v4,v5,v6,v,u,rfl,X3,k3⟩;have:rt=[]:=by cases rt with|nil=>rfl|cons _ _=>simp at v
    subst this;rw[zbK] at u;subst u;exact⟨trivial,_,rfl,q S3 X3 k3⟩
   ·rintro x xs W S3 N ⟨U,rt,v4,v5,v6,v,u,rfl,X3,k3⟩ hN;cases rt with
    |nil=>simp at v
    |cons r rt=>
     rw[zci] at v;injection v with v e3;subst v;subst e3;obtain⟨m,t,e,ns,X⟩:=X3;have o:r∈O:=by rw[<-u];simp
     have j:=a.tn;rw[<-u,zbf] at j;have Z:r ∉ U:=λz=>j.2.2 r z r (by simp) rfl;have htl:=a.tl;have:U.length<300:=by have:=congrArg zcH u;rw[zaM] at this;lia
     have nmd:∀y,y∈nms i->y∈nms done:=λy hy=>by
      obtain⟨k,L,rfl⟩:=zcu.mp hy;exact zcu.mpr ⟨k,(Y k).mpr L,rfl⟩
     refine⟨trivial,_,rfl,rfl,_,_,rfl,_,_,rfl,_,_,rfl,rfl,?_⟩;exact dH rfl X.at_ (by decide+kernel) ⟨_,rfl,_,rfl,_,rfl,S.length,r,S.length,done,U,rfl,⟨m,t,e,ns,X⟩,nmd _ (a.tk r o).1,nmd _ (a.tk r o).2.1,Z,this,a.G7 r o,λS4 X4 k4 l4=>hN _ _ ⟨U++[r],rt,_,_,_,rfl,by rw[<-u];simp,rfl,X4,λk L=>(k4 k L).trans (k3 k L)⟩⟩
  ·rintro x xs W S2 N ⟨done,I,v2,v,u,rfl,X2,k2⟩ hN;cases I with
   |nil=>simp at v
   |cons r I=>
    rw[zci] at v;injection v with v e3;subst v;subst e3;obtain⟨m,t,e,ns,X⟩:=X2;have o:r∈i:=(Y r).mp (by rw[<-u];simp);have j:=hnr;rw[<-u] at j;have j:(done.map (·.1)++(r::I).map (·.1)).Nodup:=by rw[<-zbS];exact j
    rw[zbf] at j;have Z:r.1 ∉ nms done:=λz=>j.2.2 r.1 z r.1 (by simp) rfl;have hkl:done.length<40:=by have:=congrArg zcH u;rw[zaM] at this;lia
    have hm:=a.nm r o;refine⟨trivial,?_⟩;push_cast[true_and];refine dH rfl X.at_ (by decide+kernel) ?_;push_cast[ji,e8,ia,aq,bP];refine⟨_,_,rfl,_,rfl,_,gw r o,?_⟩;push_cast[true_and];exact⟨S.length,r.1,r.2,S.length,done,[],rfl,⟨m,t,e,ns,X⟩,Z,hkl,by lia,mF hm.1,λm hm'=>oQ (hm.2.2 m hm'),λS4 X4 k4 l4=>hN _ _ ⟨done++[r],I,_,rfl,by rw[<-u];simp,rfl,X4,λk L=>(k4 k L).trans (k2 k L)⟩⟩
noncomputable def dD(ts:List Ti)(k:Str):List Ti:=(ts.filter λt=>decide (t.1=k)).map (λt=>(("on":Str),t.2.1,t.2.2))++(ts.filter λt=>decide (t.2.2=k)).map (λt=>(("back":Str),t.2.1,t.1))
def rL:AN:=λi S Q=>∃h a k,i=[ia h a,.str k]/\RO h a/\fU k=true/\∀e:List Ti,e.Perm (dD a k)->Q (.new (.lst (e.map T3))) S
theorem Jz(T:Txt K mg C fi)(F:Src K mg "_law_steps" iQ (top 38)):Def P w K mg base 1 "_law_steps" iQ (av K rL):=by
 refine QB F zz (λds S Q h=>?_) (λf cdv A outer s H E L=>?_)
 ·obtain⟨G,e,k,rfl,_⟩:=h;rfl
 ·refine⟨_,(Tj (M.gz (i:=2) zz.nd rfl rfl (N:=["_law_one","_law_word","_law_other","_law_knot"]) (caps:=[none,none,none,some 1]) (vK (by decide+kernel)) (by rfl) (by rfl) rfl (TX (Tq (Tg 0))) (λ_ _ _ _=>(Ui (n:=3) rfl (TU (UG (i:=0) (by decide+kernel:List.Nodup (["_law_one","_law_word","_law_other","_law_knot"]:List Str)) rfl (Or.inl rfl)) (TU (UG (i:=1) (by decide+kernel:List.Nodup (["_law_one","_law_word","_law_other","_law_knot"]:List Str)) rfl (Or.inl rfl)) (TU (UG (i:=2) (by decide+kernel:List.Nodup (["_law_one","_law_word","_law_other","_law_knot"]:List Str)) rfl (Or.inl rfl)) Uj))))) (λ_ _ _ _=>(Uu (Tw (TR L) (Tg 0) (Tg 3) (aG _)))) (λ_ _ _ _=>(TF (Th Tz (Th (Tg 1) (Tn (Tg 2))))))) (To (Tv (TN (M.IE L) T.sorted (Th (Tt TV (Tg 2) (M.nj (N:=["_law_one","_law_word","_law_other","_law_knot"]) (caps:=[none,none,none,some 1]) (vK (by decide+kernel)) (by rfl) (by rfl) rfl (TX (Tq (Tg 0))) (λ_ _ _ _=>(Ui (n:=3) rfl (TU (UG (i:=0) (by decide+kernel:List.Nodup (["_law_one","_law_word","_law_other","_law_knot"]:List Str)) rfl (Or.inl rfl)) (TU (UG (i:=1) (by decide+kernel:List.Nodup (["_law_one","_law_word","_law_other","_law_knot"]:List Str)) rfl (Or.inl rfl)) (TU (UG (i:=2) (by decide+kernel:List.Nodup (["_law_one","_law_word","_law_other","_law_knot"]:List Str)) rfl (Or.inl rfl)) Uj))))) (λ_ _ _ _=>(Uu (Tw (TR L) (Tg 2) (Tg 3) (aG _)))) (λ_ _ _ _=>(TF (Th Tz (Th (Tg 1) (Tn (Tg 0)))))))) Tr))))),λds S Q h=>?_⟩;obtain⟨G,e,k,rfl,m,ok,q⟩:=h;have e0:aK we [ia G e,.str k]=[some (ia G e),some (.str k),none]:=rfl;rw[e0];push_cast[ia,aq,cX,bT,cL,cI];have htl:=m.tl;have x:∀(t:Ti)(v:bx),(∃a b c,v=[a,b,c,some (.str k)])->∀o:bx->aL->Prop,o [some (.str t.1),some (.str t.2.1),some (.str t.2.2),some (.str k)] S->rA 3 (iN (bW 0) (iN (bW 1) (iN (bW 2) rB))) (T3 t) v S o:=by
   rintro t _ ⟨a,b,c,rfl⟩ o l;exact⟨_,rfl,rfl,_,_,rfl,_,_,rfl,_,_,rfl,rfl,l⟩
  refine gK T3 (λt=>decide (t.1=k)) (λt=>T3 ("on",t.2.1,t.2.2)) (λt=>[some (.str t.1),some (.str t.2.1),some (.str t.2.2),some (.str k)]) (λv=>∃a b c,v=[a,b,c,some (.str k)]) trivial (λt=>⟨_,_,_,rfl⟩) e [] _ ⟨_,_,_,rfl⟩ (λt _=>x t) (λt j o l=>?_) (λt j o l=>?_) (by rw[yaf];show 0+e.length<=_;lia) ?_
  ·push_cast[true_and];exact l
  ·push_cast[true_and];exact⟨sz rfl,l⟩
  refine gK T3 (λt=>decide (t.2.2=k)) (λt=>T3 ("back",t.2.1,t.1)) (λt=>[some (.str t.1),some (.str t.2.1),some (.str t.2.2),some (.str k)]) (λv=>∃a b c,v=[a,b,c,some (.str k)]) trivial (λt=>⟨_,_,_,rfl⟩) e [] _ ⟨_,_,_,rfl⟩ (λt _=>x t) (λt j o l=>?_) (λt j o l=>?_) (by rw[yaf];show 0+e.length<=_;lia) ?_
  ·push_cast[true_and];exact l
  ·push_cast[true_and];exact⟨sz rfl,l⟩
  rw[zbR,zbR];have Y:=zav (λt:Ti=>decide (t.1=k)) e;have X:=zav (λt:Ti=>decide (t.2.2=k)) e;have W:∀t∈e.filter (λt:Ti=>decide (t.1=k)),pU t=true:=λt j=>m.G7 t (zbH.mp j).1;have U:∀t∈e.filter (λt:Ti=>decide (t.2.2=k)),pU t=true:=λt j=>m.G7 t (zbH.mp j).1;have eq:(e.filter λt:Ti=>decide (t.1=k)).map (λt=>T3 ("on",t.2.1,t.2.2))++(e.filter λt:Ti=>decide (t.2.2=k)).map (λt=>T3 ("back",t.2.1,t.1))=(dD e k).map T3:=by
   unfold dD;rw[zbS,zct,zct];rfl
  refine⟨by rw[zbJ,zbJ,yaf];exact zcw (Nat.add_le_add Y X) (by lia),_,(dD e k).map T3,rfl,by rw[eq];rfl,DG ?_,?_,λZ hp y=>?_⟩
  ·intro t j;unfold dD at j;rcases zbI.mp j with j|j
   ·obtain⟨u,y,rfl⟩:=zcu.mp j;have:=W u y;unfold pU at this⊢;rw[zbF,zbF] at this⊢;exact⟨⟨show fU "on"=true by decide+kernel,this.1.2⟩,this.2⟩
   ·obtain⟨u,y,rfl⟩:=zcu.mp j;have:=U u y;unfold pU at this⊢;rw[zbF,zbF] at this⊢;exact⟨⟨show fU "back"=true by decide+kernel,this.1.2⟩,this.1.1⟩
  ·unfold dD;rw[zbJ,zaM,zbJ,zbJ];lia
  ·obtain⟨O,I,rfl⟩:=Lk hp;exact q O I
open PySem PySem.Spec L2 M M6 PyProof.Rows
noncomputable abbrev AQ:List Str:=["_law_rows_here","_law_knot","_law_most","_law_cap","_law_found","_law_last","_law_k","_law_longer","_law_steps_here","_law_here"]
noncomputable abbrev kJ:=AQ.take 4
theorem fF:aA AQ kJ (ah (top 47)):=L2.bR
def Lw(ks:List Kn)(ss:List Sp):Prop:=∀s∈ss,s.2.2∈nms ks/\fU s.2.1=true
noncomputable def lg(ss:List Sp):D:=.tup (ss.map gZ)
noncomputable def wR(u:Ti):Sp:=(decide (u.1="on"),u.2.1,u.2.2)
theorem QX{u:Ti}(h:u.1="on"∨u.1="back"):T3 u=gZ (wR u):=by
 obtain⟨a,b,c⟩:=u;rcases h with h|h
 ·have h:a="on":=h;subst h;simp[T3,gZ,wR,side]
 ·have h:a="back":=h;subst h;have:decide (("back":Str)="on")=false:=by decide+kernel
  simp only[T3,gZ,wR,this];simp[side]
theorem Dh{ks:List Kn}{ts:List Ti}{k:Str}(e:RO ks ts){u:Ti}(h:u∈dD ts k):(u.1="on"∨u.1="back")/\u.2.2∈nms ks/\fU u.2.1=true:=by
 unfold dD at h;rcases zbI.mp h with h|h
 ·obtain⟨t,a,rfl⟩:=zcu.mp h;have:=e.tk t (zbH.mp a).1;exact⟨.inl rfl,this.2.1,tZ this.2.2⟩
 ·obtain⟨t,a,rfl⟩:=zcu.mp h;have:=e.tk t (zbH.mp a).1;exact⟨.inr rfl,this.1,tZ this.2.2⟩
theorem Bq{ks:List Kn}{ts:List Ti}{k:Str}(a:RO ks ts):(dD ts k).length<=12:=by
 unfold dD;have h:=zav (λt:Ti=>decide (t.1=k)) ts;have e:=zav (λt:Ti=>decide (t.2.2=k)) ts;have:=a.tl;rw[zaM,zbJ,zbJ];lia
theorem F8{a ys:List D}{Q:AK}(h:a.length+ys.length<=yag)(q:Q (.dat (.tup (a++ys))) S):AL (.tup a) (.tup ys) S Q:=by
 cases a with
 |nil=>exact q
 |cons x a=>exact⟨List.cons_ne_nil _ _,h,q⟩
theorem IY{ss:List Sp}{s:Sp}:fJ ((ss++[s]).map gZ) (-1)=some (gZ s):=by
 unfold fJ CS;rw[zbJ,zaM,yIn (by decide),yIp (by simp;lia)];show((ss++[s]).map gZ)[(-1+((ss.length+1:Nat):Int)).toNat]? =_;rw[show(-1+((ss.length+1:Nat):Int)).toNat=ss.length by lia,zba,zab (zcI _)];simp
theorem Ff{ks:List Kn}{ts:List Ti}(a:RO ks ts)(h:x∈nms ks):fU x=true:=by
 obtain⟨k,e,rfl⟩:=zcu.mp h;exact mF (a.nm k e).1
theorem MV{ks:List Kn}{ts:List Ti}(i:RO ks ts){ss:List Sp}{Q:AK}(h:Lw ks ss)(m:ss.length<=50)(q:Q (.dat (.bl (!decide (ss=[])))) S):Hj (lg ss) (.tup []) S Q:=by
 unfold Hj lg;rw[jR,jR];have e:nQ 2 (.tup (ss.map gZ))=true:=by
  simp only[nQ,zbF,zbu,zbJ];refine⟨yDt (by lia),λd hd=>?_⟩;obtain⟨s,j,rfl⟩:=zcu.mp hd;have h1:=h s j;have l:fU (side s.1)=true:=by cases s.1<;>decide+kernel
  simp only[gZ,nQ,zck,List.all_nil,l,h1.2,Ff i h1.1,zcp];rfl
 refine⟨eN e (by decide),rfl,?_⟩;have:PyData.eqv (py (.tup (ss.map gZ))) (py (.tup []))=decide (ss=[]):=by
  cases ss with
  |nil=>rfl
  |cons a r=>simp[py,fj,PyData.eqv,PyData.eqvAll]
 rw[this];exact q
def Dk:AN:=λi S Q=>∃a e k,i=[ia a e,.str k,.int 3,.int 12]/\RO a e/\k∈nms a/\∀ws:List (List Sp),(∀h∈ws,Lw a h/\h.length<=3)->ws.length<=40->Q (.new (.lst (ws.map (pW k)))) S
theorem NC(T:Txt K mg C fi)(F:Src K mg "_law_ways" kJ (top 47))(m:Def P w K mg base 1 "_law_steps" iQ (av K rL)):Def P w K mg base 2 "_law_ways" kJ (av K Dk):=by
 refine cJ F fF (λds S Q h=>?_) (λf cdv A outer s H E G=>?_)
 ·obtain⟨t,Y,k,rfl,_⟩:=h;rfl
 ·refine⟨_,(Tj (Tu 4 fF.nd (TQ (Tn (TF Tr)))) (Tj (Tu 5 fF.nd (TQ (Tn (TF Tr)))) (Tj (T4 PassesOwn.never rfl (Uy (by rfl) T.range (Tn (Tg 2))) (TH 6 fF.nd) (Tj (Tu 7 fF.nd (T6 (TQ Tr))) (Tj (T4 PassesOwn.never rfl (TX (Tg 5)) (TH 8 fF.nd) (Tj (Tu 9 fF.nd (Tg 1)) (Tj (TJ (Tw (Uz G) (Tg 8) (TF Tr) (aG _)) (To (Tu 9 fF.nd (Tq (TY (Tg 8) (M.zP M.KP Tp))))) TL) (To (T9 (Us PySem.F.plainAttrs_list PySem.F.slot_list_extend PySem.F.type_list_extend M.oS (Tg 7) (Th (Uc ["_law_step","_law_steps_here"] [none,some 8] (TX (TM m G (Th (Tg 0) (Tn (Tg 9))))) (λ_ _ _ _=>UA) (λ_ _ _ _=>(Tt M.ES (Tg 1) (TF (Tn (Tg 0)))))) Tr))))))) (Tj (Tu 5 fF.nd (M.fS M.zW (Tg 7) M.j4 (M.gA (Tg 3)))) (To (Tu 4 fF.nd (Tt M.ES (Tg 4) (Tg 5)))))))) (To (Tv (Uc ["_law_steps_here","_law_knot"] [none,some 1] (TX (Tg 4)) (λ_ _ _ _=>UA) (λ_ _ _ _=>(TF (Th (Tg 1) (Tn (Tg 0))))))))))),λds S Q h=>?_⟩;obtain⟨t,Y,k,rfl,ro,hk,q⟩:=h;have e0:aK AQ [ia t Y,.str k,.int 3,.int 12]=[some (ia t Y),some (.str k),some (.int 3),some (.int 12),none,none,none,none,none,none]:=rfl;rw[e0];push_cast[dW,o6];refine⟨sz rfl,sz rfl,sz rfl,sz rfl,by decide,by decide,?_⟩;refine bf (λrest δ S2=>∃(j:Nat)(v L:List (List Sp))(T:aL)(v6 v7 W U:Option D),j<=3/\rest=(cW 0 3).drop j/\δ=[some (ia t Y),some (.str k),some (.int 3),some (.int 12),some (.lst (v.map lg)),some (.lst (L.map lg)),v6,v7,W,U]/\S2=S++T/\(∀i∈v,Lw t i/\i.length<=j)/\(∀i∈L,Lw t i/\i.length<=j)/\v.length<=1+12*j/\L.length<=12) ?_ ?_ _ _ _ ⟨0,[[]],[[]],[],none,none,none,none,by lia,rfl,rfl,by simp,by simp[Lw],by simp[Lw],by simp,by simp⟩
  ·rintro δ S2 ⟨j,v,L,T,v6,v7,W,U,hj,G,rfl,rfl,h1,h2,h3,h4⟩;refine⟨trivial,?_⟩;push_cast[cL,cI,bT];refine bK (α:=List Sp) (δ:=[none,some (.str k)]) lg (λ_=>true) (pW k) trivial v [] _ rfl (λz hz Q2 q2=>q2) (λz hz Q' q'=>?_) (by rw[yaf];show 0+v.length<=_;lia) ?_
   ·push_cast[true_and];exact⟨sz rfl,q'⟩
   ·rw[zbR,zaH.mpr λ_ _=>rfl];refine n5 (cK _ _ (dF λi _=>?_)) (q v (λi O=>⟨(h1 i O).1,by have:=(h1 i O).2;lia⟩) (by lia));simp only[pW,b8,bL,dF (f:=gZ) (l:=i) λ_ _=>rfl,zco]
  ·rintro x rest δ S2 N' ⟨j,v,L,T,v6,v7,W,U,hj,G,rfl,rfl,h1,h2,h3,h4⟩ hN';obtain⟨j3,rfl,rfl⟩:=jU G;refine⟨trivial,?_⟩;push_cast[dW,cI,bT,cA,Cp,kH];refine⟨zcJ _,?_⟩;generalize hB:S++T=B;have at7:∀o:MO,(B++[some o])[B.length]? =some (some o):=λo=>by simp
   have RG:∀o o':MO,(B++[some o]).set B.length (some o')=B++[some o']:=λo o'=>by rw[zau _ _ (zcI _)];simp
   have O7:∀o:MO,aS (B++[some o]) (.loc B.length)=o.d:=λo=>by simp only[aS,at7]
   refine bf (λrest δ S2=>∃(q1 q2 n:List (List Sp))(W U:Option D),rest=q2.map lg/\q1++q2=L/\δ=[some (ia t Y),some (.str k),some (.int 3),some (.int 12),some (.lst (v.map lg)),some (.lst (L.map lg)),some (.int j),some (.loc B.length),W,U]/\S2=B++[some (.lst (n.map lg))]/\(∀i∈n,Lw t i/\i.length<=j+1)/\n.length<=12*q1.length) ?_ ?_ _ _ _ ⟨[],L,[],W,U,rfl,rfl,rfl,rfl,by simp,by simp⟩
   ·rintro δ S3 ⟨q1,q2,n,W,U,G,he,rfl,rfl,g1,g2⟩;have:q2=[]:=by cases q2 with
     |nil=>rfl
     |cons _ _=>simp at G
    subst this;rw[zbK] at he;subst he;refine⟨trivial,?_⟩;push_cast[true_and];have el:Co (.loc B.length) none (some 12) (B++[some (.lst (n.map lg))])=λQ=>Q (.new (.lst ((n.take 12).map lg))) (B++[some (.lst (n.map lg))]):=by
     funext Q;unfold Co;rw[O7];show Q (.new (.lst (UB (n.map lg) none (some 12)))) _=_;rw[show UB (n.map lg) none (some 12)=(n.take 12).map lg by
      unfold UB HT.lz;simp[List.map_take]]
    rw[el];refine⟨by rw[zbJ,zbJ,zbr,yaf];lia,?_⟩;rw[<-zbS];refine hN' _ _ ⟨j+1,v++n.take 12,n.take 12,T++[some (.lst (n.map lg))],_,_,_,_,j3,rfl,rfl,by rw[<-hB,zbc],λi O=>?_,λi O=>g1 i (List.mem_of_mem_take O),by rw[zaM,zbr];lia,by rw[zbr];lia⟩;rcases zbI.mp O with h|h
    ·exact⟨(h1 i h).1,by have:=(h1 i h).2;lia⟩
    ·exact g1 i (List.mem_of_mem_take h)
   ·rintro x rest δ S3 N2 ⟨q1,q2,n,W,U,G,he,rfl,rfl,g1,g2⟩ hN2;cases q2 with
    |nil=>simp at G
    |cons r q2=>
     rw[zci] at G;injection G with e1 e2;subst e1;subst e2;have Z:=h2 r (by rw[<-he];simp);have hql:q1.length<12:=by have:=congrArg zcH he;simp at this;lia
     refine⟨trivial,?_⟩;push_cast[true_and];have key:∀(I:Str),I∈nms t->wJ "list" AH (dR 7) (jz (cL [none,some 8] (cI (aCall rL (jz (dR 0) (jz (dR 9) kH)))) (bW 0) vQ (wI AL (dR 1) (JW (jz (dR 0) kH)))) kH)
       [some (ia t Y),some (.str k),some (.int 3),some (.int 12),some (.lst (v.map lg)),some (.lst (L.map lg)),some (.int j),some (.loc B.length),some (lg r),some (.str I)] (B++[some (.lst (n.map lg))])
       λx S1=>N2 [some (ia t Y),some (.str k),some (.int 3),some (.int 12),some (.lst (v.map lg)),some (.lst (L.map lg)),some (.int j),some (.loc B.length),some (lg r),some (.str I)] S1:=λI hm=>by
      push_cast[wJ,cL,cI];refine⟨by rw[O7];rfl,t,Y,I,rfl,ro,Ff ro hm,λX hp=>?_⟩;have hu:∀u∈X,(u.1="on"∨u.1="back")/\u.2.2∈nms t/\fU u.2.1=true:=λu h=>Dh ro (hp.mem_iff.mp h);have hul:X.length<=12:=by rw[hp.length_eq];exact Bq ro
      have eu:X.map T3=(X.map wR).map gZ:=by
       rw[zct];exact zaF λu h=>QX (hu u h).1
      have hsp:∀s∈X.map wR,s.2.2∈nms t/\fU s.2.1=true:=λs O=>by
       obtain⟨u,h,rfl⟩:=zcu.mp O;exact(hu u h).2
      have hvl:(X.map wR).length<=12:=by rw[zbJ];exact hul
      show bT _ _ (D.lst (X.map T3));rw[eu];generalize X.map wR=vs at hsp hvl;refine bK (α:=Sp) (δ:=[none,some (lg r)]) gZ (λ_=>true) (λs=>lg (r++[s])) trivial vs [] _ rfl (λz hz Q2 q2=>q2) (λz hz Q' q'=>?_) (by rw[yaf];show 0+vs.length<=_;lia) ?_
      ·push_cast[true_and];refine⟨sz rfl,F8 (by rw[zbJ,yaf];show r.length+1<=_;lia) ?_⟩;rw[show r.map gZ++[gZ z]=(r++[z]).map gZ by simp];exact q'
      ·rw[zbR,zaH.mpr λ_ _=>rfl];refine⟨B.length,_,_,_,rfl,rfl,at7 _,.inl rfl,by simp only[zbJ];rw[yaf];lia,?_⟩;rw[RG,show n.map lg++vs.map (λs=>lg (r++[s]))=(n++vs.map λs=>r++[s]).map lg by rw[zbS,zct];rfl];refine hN2 _ _ ⟨q1++[r],q2,_,_,_,rfl,by rw[zbc];exact he,rfl,rfl,λi O=>?_,by simp only[zaM,zbJ,zbq,zbO];lia⟩;rcases zbI.mp O with h|h
       ·exact g1 i h
       ·obtain⟨z,hz,rfl⟩:=zcu.mp h;refine⟨λy hy=>?_,by rw[zaM];show r.length+1<=_;lia⟩;rcases zbI.mp hy with h|h
        ·exact Z.1 y h
        ·rw[zaO.mp h];exact hsp z hz
     refine⟨zcJ _,MV ro Z.1 (by lia) ⟨_,rfl,ee (λhb=>?_) (λhb=>key k hk)⟩⟩;have hne:r≠[]:=by simpa using hb
     obtain⟨l,y,e⟩:∃l y,r=l++[y]:=by
      rcases List.eq_nil_or_concat r with z|⟨l,a,z⟩
      ·exact absurd z hne
      ·exact⟨l,a,by simpa using z⟩
     refine⟨gZ y,by rw[e];exact IY,?_⟩;push_cast[gZ,aq,at2];exact key y.2.2 (Z.1 y (by rw[e];simp)).1
open PySem L2 M M6
noncomputable abbrev wB:List Str:=["_law_cell","_law_ds","_law_leaf_here","_law_k","_law_other","_law_parts"]
noncomputable abbrev iX:=wB.take 1
theorem gp:aA wB iX (ah (top 52)):=L2.bR
theorem E9:∀{ps:List Pt},(∀p∈ps,∃a,p=.lf a/\nI a)->jq ps/\wG ps<=1/\nq ps<=ps.length
 |[],_=>⟨by simp only[jq],by simp[wG],by simp[nq]⟩
 |p::ps,hall=>by
  obtain⟨a,rfl,h1⟩:=hall p (by simp);obtain⟨e,j,i⟩:=E9 λx h=>hall x (zay _ h);exact⟨by simp only[jq,fK];exact⟨h1,e⟩,by simp only[wG,dp];lia,by simp only[nq,oc,zbq];lia⟩
def zp:AN:=λa S Q=>∃z:Int,a=[.int z]/\∀p:Pt,fK p->dp p<=12->oc p<=41->Q (.dat (tD p)) S
theorem JH(T:Txt K mg C fi)(F:Src K mg "_law_great" iX (top 52))(n:Def P w K mg base 1 "_law_draws" fc (av K ng))(a:Def P w K mg base 2 "_law_leaf" gO (av K rO)):Def P w K mg base 3 "_law_great" iX (av K zp):=by
 refine cJ F gp (λds S Q h=>?_) (λf cdv A outer s H E G=>?_)
 ·obtain⟨z,rfl,_⟩:=h;rfl
 ·refine⟨_,(Tj (Tu 1 gp.nd (TM n G (Th (Tg 0) (Th (TQ (Th Tp (Th Tp (Th Tp (Th Tp (Th Tp (Tn Tp))))))) Tr)))) (Tj (Tu 2 gp.nd (TM a G (Th (Tq (Tg 1)) (Th (Tq (Tg 1)) Tr)))) (Tj (TJ (Tw (TR G) (Tq (Tg 1)) Tp (aG _)) (Tj (T4 PassesOwn.never rfl (Uy (by rfl) T.range (Tn Tp)) (TH 3 gp.nd) (Tj (Tu 4 gp.nd (TF (Th Tz (Th (TF (Th (Tg 2) (Th (TM a G (Th (Tq (Tg 1)) (Th (Tq (Tg 1)) Tr))) Tr))) Tr)))) (To (Tu 2 gp.nd (TY (TQ (Th (TF (Th Tz (Tn (Tg 2)))) (Th (TF (Th Tz (Th (TF (Tn (Tg 2))) Tr))) (Tn (Tg 4))))) (Tt T8 (Tt TV (Tq (Tg 1)) (Tt Ug (Tg 3) (Tq (Tg 1)))) Tp)))))) (To (Tv (Tg 2)))) TL) (Tj (Tu 5 gp.nd (T6 (Tt Ug (TQ (Tn (Tg 2))) Tp))) (Tj (M.Il (Tg 5) (Tq (Tg 1)) (TM a G (Th (Tq (Tg 1)) (Th (Tq (Tg 1)) Tr)))) (To (Tv (TF (Th (TY (TQ (Th Tz (Tn Tz))) (Tt UH (Tq (Tg 1)) Tp)) (Th (Ub M.lJ T.tuple (Tn (Tg 5))) Tr)))))))))),λds S Q h=>?_⟩;obtain⟨z,rfl,q⟩:=h;have e0:aK wB [.int z]=[some (.int z),none,none,none,none,none]:=rfl;rw[e0];push_cast[true_and];refine⟨sz rfl,z,[3,5,720,5,720,39],rfl,by decide,by decide,λys X u=>?_⟩
  match ys,X,u with
  |[y0,y1,t,y3,o,y5],_,u=>
  have b0:y0<3:=u 0 _ _ rfl rfl;have b1:y1<5:=u 1 _ _ rfl rfl;have b3:y3<5:=u 3 _ _ rfl rfl;have b5:y5<39:=u 5 _ _ rfl rfl;clear u;have a0:fJ (nL [y0,y1,t,y3,o,y5]) 0=some (.int y0):=bP;have a1:fJ (nL [y0,y1,t,y3,o,y5]) 1=some (.int y1):=cX;have a2:fJ (nL [y0,y1,t,y3,o,y5]) 2=some (.int t):=at2;have a3:fJ (nL [y0,y1,t,y3,o,y5]) 3=some (.int y3):=yI;have a4:fJ (nL [y0,y1,t,y3,o,y5]) 4=some (.int o):=jy (ys:=[y0,y1,t,y3,o,y5]) (i:=4) rfl;have a5:fJ (nL [y0,y1,t,y3,o,y5]) 5=some (.int y5):=jy (ys:=[y0,y1,t,y3,o,y5]) (i:=5) rfl;push_cast[dg,a0,a1,a2,a3,a4,a5];refine⟨y1,t,rfl,b1,λl X=>?_⟩;refine ee (λh=>?_) (λh=>?_)
  ·push_cast[dW,o6];refine⟨by decide,by decide,?_⟩;refine bf (λrest Y S2=>∃(j:Nat)(p:Pt)(v3 Z:Option D),j<=9/\rest=(cW 0 9).drop j/\Y=[some (.int z),some (.lst (nL [y0,y1,t,y3,o,y5])),some (tD p),v3,Z,none]/\S2=S/\fK p/\dp p<=j/\oc p<=1+2*j) ?_ ?_ _ _ _ ⟨0,.lf l,none,none,by lia,rfl,rfl,rfl,by simp only[fK];exact X,by simp[dp],by simp[oc]⟩
   ·rintro Y S2 ⟨j,p,v3,Z,hj,G,rfl,rfl,O,p2,p3⟩;exact⟨trivial,_,rfl,aY (gh p) (q p O (by lia) (by lia))⟩
   ·rintro x rest Y S2 N' ⟨j,p,v3,Z,hj,G,rfl,rfl,O,p2,p3⟩ L;obtain⟨j9,rfl,rfl⟩:=jU G;refine⟨trivial,?_⟩;push_cast[dg,a0,a1,a2,a3,a4,a5,vS];refine⟨y3,o,rfl,b3,λy I=>⟨sz rfl,sz rfl,sz rfl,sz rfl,sz rfl,sz rfl,?_⟩⟩;rw[show((t:Int)+(j:Int)*(o:Int)) % 3=(((t+j*o) % 3:Nat):Int) by push_cast;rfl];have hm:=zcN (t+j*o) (show 0<3 by lia);generalize (t+j*o) % 3=m at hm;refine⟨.inl (by lia),by decide,?_⟩;rcases(by lia:m=0∨m=1∨m=2) with rfl|rfl|rfl
    ·exact⟨_,bP,L _ _ ⟨j+1,.many p,_,_,by lia,rfl,rfl,rfl,by simp only[fK];exact O,by simp only[dp];lia,by simp only[oc];lia⟩⟩
    ·exact⟨_,cX,L _ _ ⟨j+1,.seq [p],_,_,by lia,rfl,rfl,rfl,by simp only[fK,jq];exact⟨O,trivial⟩,by simp only[dp,wG];lia,by simp only[oc,nq];lia⟩⟩
    ·exact⟨_,at2,L _ _ ⟨j+1,.alt [p,.lf y],_,_,by lia,rfl,rfl,rfl,by simp only[fK,jq];exact⟨O,I,trivial⟩,by simp only[dp,wG];lia,by simp only[oc,nq];lia⟩⟩
  ·push_cast[dg,a0,a1,a2,a3,a4,a5,cA,Gg,vS,pN];refine⟨sz rfl,by decide,by decide,sz rfl,y3,o,rfl,b3,λy I=>?_⟩;have er:(zcb (39:Int).toNat [lD l]).flatten=nR (zcb 39 (.lf l)):=rfl;rw[er];have hn0:y0≠0:=λe=>h (yDt (by lia));have hps:∃v:List Pt,(nR (zcb 39 (.lf l))).set y5 (lD y)=nR v/\jq v/\wG v<=1/\nq v<=39:=by
    refine⟨(zcb 39 (.lf l)).set y5 (.lf y),by rw[cP,cP,List.map_set];rfl,?_⟩;have W:∀p∈(zcb 39 (Pt.lf l)).set y5 (.lf y),∃l',p=.lf l'/\nI l':=λp hp=>by
     rcases List.mem_or_eq_of_mem_set hp with h|h
     ·exact⟨l,List.eq_of_mem_replicate h,X⟩
     ·exact⟨y,h,I⟩
    have U:((zcb 39 (Pt.lf l)).set y5 (.lf y)).length=39:=by rw[zbP,List.length_replicate]
    have:=E9 W;rw[U] at this;exact this
   obtain⟨v,e1,e2,e3,e4⟩:=hps;have e39:(nR (zcb 39 (.lf l))).length=39:=by rw[cP,zbJ,List.length_replicate]
   refine⟨S.length,rfl,_,by rw[zab (zcI _),zcB];rfl,y5,by unfold CS;rw[e39,yIp (by lia),yIp (by lia)];simp,sz rfl,?_⟩;rw[zau _ _ (zcI _),zcB,List.set_cons_zero,show(R.dat (lD y)).d=lD y from rfl,e1,show aS (S++[some (MO.lst (nR v))]) (.loc S.length)=.lst (nR v) by simp[aS,MO.d]];rcases(by lia:y0=1∨y0=2) with rfl|rfl
   ·refine⟨_,bP,sz rfl,gu (gh (.seq v)) (q (.seq v) ?_ ?_ ?_)⟩
    ·simp only[fK];exact e2
    ·simp only[dp];lia
    ·simp only[oc];lia
   ·refine⟨_,cX,sz rfl,gu (gh (.alt v)) (q (.alt v) ?_ ?_ ?_)⟩
    ·simp only[fK];exact e2
    ·simp only[dp];lia
    ·simp only[oc];lia
open PySem L2 M M6
noncomputable abbrev xx:Stmt:=top 53
noncomputable abbrev GR:List Str:=["_law_script","_law_cell","_law_pattern_here","_law_machine","_law_k","_law_rows_here","_law_web","_law_knot","_law_way","_law_due","_law_told"]
noncomputable abbrev tR:=GR.take 1
theorem gP:aA GR tR (ah xx):=L2.bR
noncomputable def strOf:yai->Option Str
 |.str x _=>some x
 |_=>none
theorem qo:∀{vs:List yai}{ss:List Str},vs.map strOf=ss.map some->Vals (ss.map V.str) vs
 |[],[],_=>.nil
 |v::vs,s::ss,h=>by
  rw[zci,zci] at h;have h1:=zcP.inj h;refine .cons ?_ (qo h1.2);cases v<;>simp[strOf] at h1;obtain⟨rfl,_⟩:=h1;exact⟨_,rfl⟩
theorem Di{e:Option Addr}(l:K.lookup a=some ⟨.type "tuple",e,.seq its n,sl⟩)(q:(its.toList.map strOf==ss.map some)=true)(h:ss.length<=100)(H:Hp):dJ K H a (ss.map V.str):=by
 have v:=qo (eq_of_beq q);refine .inr ⟨_,its,n,l,rfl,rfl,?_,v⟩;have:=v.length;rw[zbJ] at this;rw[yaf,<-zaJ];lia
theorem J.by5{p:List yai->Prop}(h:∀a b c d e,p [a,b,c,d,e])(us:List yai)(e:us.length=5):p us:=by
 cases us with
 |nil=>cases e
 |cons a r=>exact J.by4 (p:=λr=>p (a::r)) (h a) r (Nat.succ.inj e)
theorem LD{a b:AS}{Dn:k9}(I:bx->aL->Prop)(h:∀N:bx->aL->Prop,(∀e i,I e i->N e i)->a {Dn with nx:=N} δ S)(k:∀e i,I e i->b Dn e i):qe a b Dn δ S:=h _ k
theorem qR:∀{l:List yam}{n:Nat},(∀x∈l,x.depth<=n)->PyData.depthAll l<=n
 |[],_,_=>zcJ _
 |x::l,n,h=>by
  have h1:=h x (by simp);have h2:=qR (l:=l) λy a=>h y (zay _ a);simp only[PyData.depthAll];lia
theorem BS{ks:List Kn}(e:(nms ks).Nodup)(h:x∈nms ks):aP ks.reverse x=aP ks x:=by
 have a:x∈nms ks.reverse:=by
  obtain⟨k,i,rfl⟩:=zcu.mp h;exact zcu.mpr ⟨k,zbE.mpr i,rfl⟩
 exact(congrArg (·.2) (sG e (zbE.mp (b9 a)) (b9 h) rfl):_)
theorem Lh{ks:List Kn}(a:(nms ks).Nodup){k:Str}{ss:List Sp}(h:mP ks k ss):wr (aP ks.reverse) k ss=wr (aP ks) k ss:=by
 unfold wr;congr 1;funext i;exact BS a (z6 h i)
theorem RO.tx{ks:List Kn}{ts:List Ti}(h:RO ks ts):∀k∈ks,texts k.2:=λk a=>⟨by have:=(h.nm k a).2.1;lia,λm e=>oQ ((h.nm k a).2.2 m e)⟩
theorem LQ{p:Pt}{s:Nat}{i e:List Mv}{Q:AK}(h:OA p n i)(h':OA p s e)(k:∀m∈i,nI m.2.1)(H:∀m∈e,nI m.2.1)(q:Q (.dat (.bl false)) S):Hj (mD s 0 [1] e) (mD n 0 [1] i) S Q:=by
 obtain⟨⟨m1,G,W⟩,E,v⟩:=h;obtain⟨⟨m2,F,U⟩,C,u⟩:=h';obtain⟨rfl,rfl⟩:=G.uniq F;have P:pm e=pm i:=rZ (λx j y I=>by
  obtain⟨a,_,rfl⟩:=zcu.mp j;obtain⟨b,_,rfl⟩:=zcu.mp I;exact x8 a b) C E u v λy=>(U y).trans (W y).symm
 have l:∀{i:List Mv},(∀m∈i,nI m.2.1)->bG (py (mD n 0 [1] i))=true/\fit (mD n 0 [1] i)=true:=λ{i} k=>by
  have L:cj ((i.map vD).map py)=true:=su λx j=>by
   obtain⟨d,hd,rfl⟩:=zcu.mp j;obtain⟨m,o,rfl⟩:=zcu.mp hd;exact(nu (k m o)).2.1
  have X:PyData.depthAll ((i.map vD).map py)<=6:=qR λx j=>by
   obtain⟨d,hd,rfl⟩:=zcu.mp j;obtain⟨m,o,rfl⟩:=zcu.mp hd;exact(nu (k m o)).2.2.1
  have t:bG (py (mD n 0 [1] i))=true:=by simp only[mD,py,fj,gx,nL,zci,zcr,bG,cj,L,zco]
  refine⟨t,?_⟩;unfold fit PySem.SeqAt.shaped;rw[ED,eY _ t,zcn,zcn];refine yDt ?_;simp only[mD,py,fj,gx,nL,zci,zcr,PyData.depth,PyData.depthAll];lia
 have O:py (mD n 0 [1] e)=py (mD n 0 [1] i):=by
  have:(e.map vD).map py=(i.map vD).map py:=by rw[zct,zct];exact P
  simp only[mD,py,fj,gx,this]
 unfold Hj;rw[show aS S (mD n 0 [1] e)=mD n 0 [1] e from rfl,show aS S (mD n 0 [1] i)=mD n 0 [1] i from rfl];refine⟨(l H).2,(l k).2,?_⟩;rw[O,ki _ _ (l k).1 (l k).1,yDt rfl];exact q
def Dw:AN:=λa S Q=>∃ns:List Int,a=[.lq ns]/\S=[]/\Q (.dat (.bl true)) []
theorem NO(T:Txt K mg C fi)(F:GZ K "law" "law" xx f fd)(a:Def P w K mg base 1 "_law_cell_at" kZ (av K DF))(v:Def P w K mg base 7 "_law_pattern" kO (av K Dr))(I:Def P w K mg base 3 "_law_great" iX (av K zp))(j:Def P w K mg base 4 "machine_of" pQ (av K Kv))(o:Def P w K mg base 3 "_law_is_machine" vV (av K O3))(U:Def P w K mg base 2 "_law_rows" kK (av K Dm))(W:Def P w K mg base 3 "_law_laid" iS (av K (zh C w)))(O:Def P w K mg base 2 "_law_ways" kJ (av K Dk))(Z:Def P w K mg base 15 "_law_fits" kY (av K DE))(yV:Def P w K mg base 4 "goes" kW (av K (DB C w)))(Y:Def P w K mg base 2 "_law_gone" iU (av K zk)):
  dX P w K mg base nJ 16 f fd tR (av K Dw):=by
 refine okB F gP (λds S Q h=>?_) (λf cdv A outer s H E G=>?_)
 ·obtain⟨ns,rfl,_⟩:=h;rfl
 ·refine⟨_,(Tj (Tu 1 gP.nd (TM a G (Th (Tg 0) (Tn Tp)))) (Tj (Tu 2 gP.nd (TM v G (Th (Tt M.oH (Tg 1) Tp) (Tn Tp)))) (Tj (TJ (Tw (TR G) (Tt T8 (Tg 1) Tp) Tp (aG _)) (To (Tu 2 gP.nd (TM I G (Th (Tt M.oH (Tg 1) Tp) Tr)))) TL) (Tj (Tu 3 gP.nd (TM j G (Tn (Tg 2)))) (Tj (TJ (Ud (Ue (Uh (Ua (TM o G (Th (Tg 3) (Tn Tp))))) (Ul (Tw (Uz G) (TM j G (Tn (Tg 2))) (Tg 3) (aG _))))) (To (Tv T7)) TL) (Tj (T4 PassesOwn.never rfl (Uy (by rfl) T.range (Th (Tt TV Tp (TN TZ T.len (Th (M.fS M.zW (Tg 0) (M.gA Tp) (M.gA Tp)) Tr))) Tr)) (TH 4 gP.nd) (Tj (Tu 5 gP.nd (TM U G (Th (TM a G (Th (Tg 0) (Th (Tt TV Tp (Tg 4)) Tr))) (Tn Tp)))) (Tj (Tu 6 gP.nd (TM W G (Tn (Tg 5)))) (Tj (Tu 7 gP.nd (TY (Ub (M.sD G) T.list (Th (Tq (Tg 5)) Tr)) (Tt T8 (Tg 1) (TN TZ T.len (Th (Tq (Tg 5)) Tr))))) (To (T4 PassesOwn.never rfl (TX (TM O G (Th (Tg 5) (Th (Tg 7) (Th Tp (Tn Tp)))))) (TH 8 gP.nd) (Tj (Tu 9 gP.nd (TM Z G (Th (Tg 5) (Th (Tg 2) (Tn (Tg 8)))))) (Tj (Tu 10 gP.nd (TM yV G (Th (Tg 6) (Th (Tg 3) (Tn (Tg 8)))))) (To (TJ (Ud (Ue (Tw (Uz G) (TM Y G (Th (Tg 5) (Th (Tg 3) (Tn (Tg 8))))) (Tg 9) (aG _)) (Ue (Tw (Uz G) (Tg 10) (Tg 9) (aG _)) (Ul (Uh (Ua (TN Uv T.isinstance (Th (Tg 10) (Th (Uw "bool" (by rfl) T.bool (by decide+kernel)) Tr))))))))) (To (Tv T7)) TL)))))))))) (To (Tv T7)))))))),λds S Q h=>?_⟩;obtain⟨ns,rfl,rfl,q⟩:=h;have e0:aK GR [.lq ns]=[some (.lq ns),none,none,none,none,none,none,none,none,none,none]:=rfl;rw[e0];refine LD (λδ S'=>S'=[]/\∃z:Int,δ=[some (.lq ns),some (.int z),none,none,none,none,none,none,none,none,none]) (λN hN=>?_) ?_
  ·push_cast[true_and];exact⟨ns,0,rfl,λz=>hN _ _ ⟨rfl,z,rfl⟩⟩
  rintro _ _ ⟨rfl,z,rfl⟩;refine LD (λδ S'=>S'=[]/\∃p:Pt,δ=[some (.lq ns),some (.int z),some (tD p),none,none,none,none,none,none,none,none]/\fK p/\dp p<=12/\oc p<=41) (λN hN=>?_) ?_
  ·push_cast[true_and];exact⟨⟨by decide,by decide⟩,z / 16,rfl,λp p1 p2 p3=>hN _ _ ⟨rfl,p,rfl,p1,by lia,by lia⟩⟩
  rintro _ _ ⟨rfl,p0,rfl,o1,o2,o3⟩;refine LD (λδ S'=>S'=[]/\∃p:Pt,δ=[some (.lq ns),some (.int z),some (tD p),none,none,none,none,none,none,none,none]/\fK p/\dp p<=12/\oc p<=41) (λN hN=>?_) ?_
  ·push_cast[true_and];refine⟨by decide,ee (λ_=>?_) (λ_=>hN _ _ ⟨rfl,p0,rfl,o1,o2,o3⟩)⟩;exact⟨⟨by decide,by decide⟩,z / 16,rfl,λp p1 p2 p3=>hN _ _ ⟨rfl,p,rfl,p1,p2,p3⟩⟩
  clear o1 o2 o3 p0;rintro _ _ ⟨rfl,p,rfl,p1,p2,p3⟩;push_cast[dW,o6];refine⟨p,rfl,p1,by lia,λn mv m0 b1 b2 b3 b4=>?_⟩;have hn2:2<=n:=b1.two;have hmv:∀m∈mv,Bc n m:=λm hm=>by
   have:=b1.G9 (eM m) (zcu.mpr ⟨m,hm,rfl⟩);exact⟨this.1,b4 m hm,this.2⟩
  push_cast[true_and];refine⟨n,mv,rfl,hn2,by lia,hmv,by lia,⟨m0.2.1,m0.2.2⟩,true,rfl,?_⟩;rw[yIn (by decide)];refine⟨p,rfl,p1,by lia,λn' mv' m0' _ _ _ b4'=>?_⟩;refine LQ m0 m0' b4 b4' ?_;refine⟨false,rfl,?_⟩;rw[yIn (by decide)];have h1:(UB ns (some 1) (some 2)).length<=1:=by
   unfold UB;rw[zbr];have a1:HT.lz ns.length ns.length (some (2:Int))<=2:=by
    have:HT.lz ns.length ns.length (some ((2:Nat):Int))<=2:=by rw[HT.zD];lia
    exact this
   have a2:HT.lz ns.length 0 (some (1:Int))=min 1 ns.length:=by
    have:HT.lz ns.length 0 (some ((1:Nat):Int))=min 1 ns.length:=by rw[HT.zD]
    exact this
   have a3:=zbs (i:=HT.lz ns.length 0 (some (1:Int))) (l:=ns);rw[a2] at a3⊢;lia
  show∃x,_;refine⟨((UB ns (some 1) (some 2)).map D.int).length,rfl,by lia,by rw[zbJ];lia,?_⟩;refine bf (λrest δ S'=>∃(v4 v5 v6 v7 v8 v9 L:Option D),δ=[some (.lq ns),some (.int z),some (tD p),some (mD n 0 [1] mv),v4,v5,v6,v7,v8,v9,L]/\∀x∈rest,∃k:Nat,x=.int k) ?_ ?_ _ _ _ ⟨none,none,none,none,none,none,none,rfl,λx hx=>?_⟩
  ·rintro δ S' ⟨v4,v5,v6,v7,v8,v9,L,rfl,_⟩;refine⟨trivial,?_⟩;push_cast[true_and];exact gu (S:=[]) (T:=S') rfl q
  ·rintro x rest δ S' N' ⟨v4,v5,v6,v7,v8,v9,L,rfl,hx⟩ hN';obtain⟨k,rfl⟩:=hx x (by simp);refine⟨trivial,?_⟩;push_cast[yN];refine⟨ns,1+k,by push_cast;rfl,λz2=>⟨z2,rfl,λu ts ro=>?_⟩⟩;refine⟨u,ts,rfl,ro,λS2 X2 _=>?_⟩;push_cast[ia,aq,bP];refine⟨ic u,⟨_,rfl⟩,u.length,by show some (ic u).length=_;rw[ic,zbJ],by have:=ro.k1;lia,?_⟩;rw[show(ic u).map kD=u.map (λk=>D.str k.1) by unfold ic;rw[zct];rfl];have hkl:=ro.k1;obtain⟨i,ei,hi⟩:∃i:Nat,z % (u.length:Int)=(i:Int)/\i<u.length:=⟨(z % (u.length:Int)).toNat,by
    have:=zbW z (show(u.length:Int)≠0 by lia);lia,by
    have:=zaS z (show(0:Int)<(u.length:Int) by lia);lia⟩
   rw[ei,dg];refine⟨.str u[i].1,cE (by rw[zba,zak hi];rfl),?_⟩;have hkn:u[i].1∈nms u:=zcu.mpr ⟨_,zby hi,rfl⟩;generalize u[i].1=kn at hkn;push_cast[dW,cI];refine⟨u,ts,kn,rfl,ro,hkn,λws hw hwl=>?_⟩;show bT _ _ (D.lst (ws.map (pW kn)));simp only[bT];obtain⟨m,t,e,nn,X⟩:=X2;refine bf (λrest δ S3=>∃(w2:List (List Sp))(v8 v9 L:Option D),rest=w2.map (pW kn)/\(∀ss∈w2,ss∈ws)/\S3=S2/\δ=[some (.lq ns),some (.int z),some (tD p),some (mD n 0 [1] mv),some (.int k),some (ia u ts),some (.loc S'.length),some (.str kn),v8,v9,L]) ?_ ?_ _ _ _ ⟨ws,v8,v9,L,rfl,λss h=>h,rfl,rfl⟩
   ·rintro δ S3 ⟨w2,v8,v9,L,_,_,rfl,rfl⟩;exact⟨trivial,hN' _ _ ⟨_,_,_,_,_,_,_,rfl,λx h=>hx x (zay _ h)⟩⟩
   ·rintro y rest δ S3 N2 ⟨w2,v8,v9,L,G,hm,rfl,rfl⟩ hN2;cases w2 with
    |nil=>simp at G
    |cons ss w2=>
     rw[zci] at G;injection G with e1 e2;subst e1;subst e2;obtain⟨so,sl⟩:=hw ss (hm ss (by simp));have wk:mP u kn ss:=⟨hkn,so⟩
     have rv:∀y,y∈nms u->y∈nms u.reverse:=λy hy=>by
      obtain⟨k,hk,rfl⟩:=zcu.mp hy;exact zcu.mpr ⟨k,zbE.mpr hk,rfl⟩
     have wk':mP u.reverse kn ss:=⟨rv _ hkn,λs hs=>⟨rv _ (so s hs).1,(so s hs).2⟩⟩
     have hnr:(nms u.reverse).Nodup:=by unfold nms;rw[List.map_reverse];exact List.pairwise_reverse.mpr (ro.nd.imp λh=>Ne.symm h)
     refine⟨trivial,?_⟩;push_cast[true_and];refine⟨p,u,ts,kn,ss,rfl,p1,p2,wk,by lia,ro.tx,λv1 f1=>?_⟩;refine⟨S'.length,n,S'.length,mv,u.reverse,ts,kn,ss,rfl,⟨_,m,t,e,nn,X⟩,hnr,wk',by lia,by lia,hmv,by lia,λk hk=>ro.tx k (zbE.mp hk),λv2 f2=>?_⟩;refine⟨n,mv,u,ts,kn,ss,rfl,ro.nd,wk,by lia,by lia,hmv,by lia,ro.tx,λv3 f3=>?_⟩;rw[Lh ro.nd wk] at f2;rw[Ml b1] at f2 f3;have e3:v3=v1:=zbX.mpr (f3.trans f1.symm);have e2:v2=v1:=zbX.mpr (f2.trans f1.symm);subst e3;subst e2;have ne:∀{Q':AK},Q' (.dat (.bl false)) S3->Hj (.bl v2) (.bl v2) S3 Q':=λ{Q'} q'=>by
      show Q' (.dat (.bl (!decide (v2=v2)))) S3;rw[yDt rfl];exact q'
     refine ne ⟨false,rfl,?_⟩;rw[yIn (by decide)];refine ne ⟨false,rfl,?_⟩;rw[yIn (by decide)];refine⟨true,rfl,?_⟩;rw[yIn (by decide)];exact hN2 _ _ ⟨w2,_,_,_,rfl,λx h=>hm x (zay _ h),rfl,rfl⟩
  ·simp only[cW,zcu] at hx;obtain⟨k,_,rfl⟩:=hx;exact⟨k,by simp⟩
def zf(K:yaI):L2.Sp:=λvs H Q _=>∃(a:Addr)(ns:List Int),vs=[.ref a]/\cN K H a (ns.map V.int)/\ns.length<=63/\∀e,Q (.bl true) e
theorem Lq{k:Nat}(h:dX P w K mg base nJ k f fd tR (av K Dw)):dX P w K mg base nJ k f fd tR (zf K):=h.imp λvs H Q E z=>by
 obtain⟨a,ns,rfl,i,_,q⟩:=z;refine⟨⟨H,λ_=>none⟩,[.lq ns],[],λr S=>r=.dat (.bl true),⟨ig.refl _,λn o e=>by simp at e,λn m o s e=>by simp at e,λ_ _=>rfl⟩,?_,⟨ns,rfl,rfl,rfl⟩,λr t v l j _ _ rep e=>?_⟩
 ·simp only[ao,Rep];exact⟨_,_,rfl,⟨a,rfl,i⟩,rfl⟩
 ·subst e;have:v=.bl true:=jC rep rfl;subst this;exact q j
open PySem L2
theorem all_mk{l:PySem.W.OpenLaw}{fa:Addr}(X:K.In h)(G:h.Ns yaq mg)(hfa:mg "law"=some (.ref fa)){b4:Tok}{df:Tok}{i:Addr}{I:Option Addr}{a:Array yai}{aw:Nat}{E:Array (Option yai)}{y:Addr}{ca:Option Addr}{o:Array yai}{c1:Nat}{b5:Array (Option yai)}{dk:Tok}{t_K:Tok}{t_T:Tok}(a_C:zcE K yaq "Web"=some (some (.ref C)))(ag:gf K "holds" (top 4))(O:gf K "takes" (top 5))(be:gf K "laid_out" (top 10))(cf:gf K "new_stands" (top 11))(cp:gf K "cut" (top 12))(c5:gf K "by_stand" (top 13))(bi:gf K "gone_without_steps" (top 14))(bm:gf K "gone_by_step" (top 15))(an:gf K "goes_along" (top 16))(ch:gf K "machine_of" (top 18))(bj:gf K "goes" (top 19))(ba:gf K "moves_near" (top 20))(bp:gf K "_law_cell_at" (top 31))(am:gf K "_law_draws" (top 32))(ae:gf K "_law_knots" (top 33))(L:gf K "_law_words" (top 34))(U:gf K "_law_marks" (top 35))(a4:gf K "_law_rows" (top 36))(Z:gf K "_law_laid" (top 37))(S:gf K "_law_steps" (top 38))(bb:gf K "_law_leaf" (top 39))(a8:gf K "_law_part" uv)(a7:gf K "_law_pattern" (top 41))(bo:gf K "_law_ends" ux)(bn:gf K "_law_fits" (top 43))(Q:gf K "_law_still" (top 44))(cm:gf K "_law_by" (top 45))(ac:gf K "_law_gone" (top 46))(a3:gf K "_law_ways" (top 47))(c4:gf K "_law_is_machine" (top 48))(x:gf K "_law_is_stand" (top 49))(Y:gf K "_law_is_name" (top 50))(ab:gf K "_law_is_leaf" (top 51))(ai:gf K "_law_great" (top 52))(ci:gf K "law" xx)(q:CL K C "__init__" "Web.__init__" uw)(a6:CL K C "put_knot" "Web.put_knot" DX)(a5:CL K C "put_tie" "Web.put_tie" DW)(ce:CL K C "marks" "Web.marks" Mb)(cn:CL K C "has_tie" "Web.has_tie" Mg)(a9:CL K C "need_knot" "Web.need_knot" DZ)(bd:CL K C "lay_knot" "Web.lay_knot" D5)(bc:CL K C "lay_tie" "Web.lay_tie" zC)(j:zcE K yaq "isinstance"=some none)(cv:zcE K yaq "dict"=some none)(u:zcE K yaq "reversed"=some none)(c7:zcE K yaq "str"=some none)(de:zcE K yaq "int"=some none)(cw:zcE K yaq "bool"=some none)(dd:zcE K yaq "len"=some none)(b2:zcE K yaq "tuple"=some none)(cs:zcE K yaq "list"=some none)(b3:zcE K yaq "range"=some none)(ap:zcE K yaq "sorted"=some none)(c8:zcE K yaq "set"=some none)(c6:zcE K yaq "zip"=some none)(db:zcE K yaq "max"=some none)(da:zcE K yaq "min"=some none)(cb:zcE K yaq "BEGIN"=some (some (.int 0 b4)))(ds:zcE K yaq "END"=some (some (.int 1 df)))(ax:zcE K yaq "LEAVES"=some (some (.ref i)))(ay:K.lookup i=some ⟨.type "tuple",I,.seq a aw,E⟩)(q_LEAVES:(a.toList.map strOf==(["stay","step","at","off"]:List Str).map some)=true)(c2:zcE K yaq "STAY"=some (some (.ref y)))(c3:K.lookup y=some ⟨.type "tuple",ca,.seq o c1,b5⟩)(q_STAY:(o.toList.map strOf==(["stay"]:List Str).map some)=true)(dt:zcE K yaq "ANY"=some (some (.str "*" dk)))(m_K:zcE K yaq "MOST_KNOTS"=some (some (.int 40 t_K)))(m_T:zcE K yaq "MOST_TIES"=some (some (.int 300 t_T)))(d1:zbG K C Str.empty=true)(d4:zbm K C=true)(d0:PySem.W.plainOver K C=true)(dV:zcd K (.ref C) "__setattr__"=some (some (.builtin "object.__setattr__")))(ar:zcd K (.ref C) "marked"=some none)(cx:zcd K (.ref C) "tied"=some none)(c0:zcd K (.ref C) "near"=some none)(d2:PySem.W.makesIn K C=true)(d3:zce K (.ref C)=true):
  ∃fd:yap,(∀(s:yah)(v:yai),yaA s fd ⟨[v],[]⟩ [("_law_script",v)])/\∀base:Heap,K.In base->base.Ns yaq mg->dX l.prog w K mg base nJ 16 fa fd ["_law_script"] (zf K):=by
 have CD:=ag.src (ps:=iW) X G λ_ _ _ _ _ _=>J.Au (λ_ _=>rfl);have Ct:=O.src (ps:=iO) X G λ_ _ _ _ _ _=>J.Hi (λ_ _ _=>rfl);have GC:=be.src (ps:=kT) X G λ_ _ _ _ _ _=>J.FY (λ_=>rfl);have J3:=cf.src (ps:=l7) X G λ_ _ _ _ _ _=>J.FY (λ_=>rfl);have J7:=cp.src (ps:=pT) X G λ_ _ _ _ _ _=>J.Au (λ_ _=>rfl);have Ou:=c5.src (ps:=vW) X G λ_ _ _ _ _ _=>J.Au (λ_ _=>rfl);have GD:=bi.src (ps:=kU) X G λ_ _ _ _ _ _=>J.Hi (λ_ _ _=>rfl);have GH:=bm.src (ps:=kX) X G λ_ _ _ _ _ _=>J.by4 (λ_ _ _ _=>rfl);have CH:=an.src (ps:=iY) X G λ_ _ _ _ _ _=>J.by5 (λ_ _ _ _ _=>rfl);have J4:=ch.src (ps:=pQ) X G λ_ _ _ _ _ _=>J.FY (λ_=>rfl);have GF:=bj.src (ps:=kW) X G λ_ _ _ _ _ _=>J.Hi (λ_ _ _=>rfl);have Gx:=ba.src (ps:=kP) X G λ_ _ _ _ _ _=>J.FY (λ_=>rfl);have GL:=bp.src (ps:=kZ) X G λ_ _ _ _ _ _=>J.Au (λ_ _=>rfl);have CG:=am.src (ps:=fc) X G λ_ _ _ _ _ _=>J.Au (λ_ _=>rfl);have CC:=ae.src (ps:=iV) X G λ_ _ _ _ _ _=>λus e=>by cases us with|nil=>rfl|cons _ _=>cases e
 have Cs:=L.src (ps:=f7) X G λ_ _ _ _ _ _=>λus e=>by cases us with|nil=>rfl|cons _ _=>cases e
 have Cw:=U.src (ps:=f9) X G λ_ _ _ _ _ _=>λus e=>by cases us with|nil=>rfl|cons _ _=>cases e
 have Gq:=a4.src (ps:=kK) X G λ_ _ _ _ _ _=>J.Au (λ_ _=>rfl);have Cz:=Z.src (ps:=iS) X G λ_ _ _ _ _ _=>J.FY (λ_=>rfl);have Cv:=S.src (ps:=iQ) X G λ_ _ _ _ _ _=>J.Au (λ_ _=>rfl);have Gy:=bb.src (ps:=gO) X G λ_ _ _ _ _ _=>J.Au (λ_ _=>rfl);have Gv:=a8.src (ps:=dM) X G λ_ _ _ _ _ _=>J.Hi (λ_ _ _=>rfl);have Gu:=a7.src (ps:=kO) X G λ_ _ _ _ _ _=>J.Au (λ_ _=>rfl);have GK:=bo.src (ps:=dN) X G λ_ _ _ _ _ _=>J.by4 (λ_ _ _ _=>rfl);have GJ:=bn.src (ps:=kY) X G λ_ _ _ _ _ _=>J.Hi (λ_ _ _=>rfl);have Cu:=Q.src (ps:=iP) X G λ_ _ _ _ _ _=>J.Hi (λ_ _ _=>rfl);have J5:=cm.src (ps:=pR) X G λ_ _ _ _ _ _=>J.by4 (λ_ _ _ _=>rfl);have CB:=ac.src (ps:=iU) X G λ_ _ _ _ _ _=>J.Hi (λ_ _ _=>rfl);have Gp:=a3.src (ps:=kJ) X G λ_ _ _ _ _ _=>J.by4 (λ_ _ _ _=>rfl);have Ot:=c4.src (ps:=vV) X G λ_ _ _ _ _ _=>J.Au (λ_ _=>rfl);have yQ:=x.src (ps:=gc) X G λ_ _ _ _ _ _=>J.Au (λ_ _=>rfl);have Cy:=Y.src (ps:=iR) X G λ_ _ _ _ _ _=>J.FY (λ_=>rfl);have CA:=ab.src (ps:=iT) X G λ_ _ _ _ _ _=>J.FY (λ_=>rfl);have CF:=ai.src (ps:=iX) X G λ_ _ _ _ _ _=>J.FY (λ_=>rfl);have QY:=q.src (ps:=jk) λ_ _ _ _ _ _=>J.FY (λ_=>rfl);have Gs:=a6.src (ps:=kM) λ_ _ _ _ _ _=>J.Hi (λ_ _ _=>rfl);have Gr:=a5.src (ps:=kL) λ_ _ _ _ _ _=>J.by4 (λ_ _ _ _=>rfl);have J2:=ce.src (ps:=pP) λ_ _ _ _ _ _=>J.Au (λ_ _=>rfl);have J6:=cn.src (ps:=pS) λ_ _ _ _ _ _=>J.by4 (λ_ _ _ _=>rfl);have Gw:=a9.src (ps:=jj) λ_ _ _ _ _ _=>J.Au (λ_ _=>rfl);have GB:=bd.src (ps:=kR) λ_ _ _ _ _ _=>J.Hi (λ_ _ _=>rfl);have Gz:=bc.src (ps:=kQ) λ_ _ _ _ _ _=>J.by4 (λ_ _ _ _=>rfl);obtain⟨d5,dL,dE,a0,bt,as,b0,bS,bv,dC,cr,cc,cq,cd⟩:=ci.ex;obtain⟨a2,dr,dq,du,dv,dn,dA,dy,dx,dl,b1,m,t,n,a1⟩:=q.ex;have e:=hfa.symm.trans (zcq X G cr);cases e;have F:=jH (st:=xx) cc cq cd;have T:Txt K mg C a2:=⟨zaW X G j,zaW X G cv,zaW X G u,zaW X G c7,zaW X G de,zaW X G cw,zaW X G dd,zaW X G b2,zaW X G cs,zaW X G b3,zaW X G ap,zaW X G c8,zaW X G c6,zaW X G db,zaW X G da,⟨_,zcq X G cb⟩,⟨_,zcq X G ds⟩,⟨_,zcq X G ax,λH=>Di ay q_LEAVES (by decide) H⟩,⟨_,zcq X G dt⟩,⟨_,zcq X G m_K⟩,⟨_,zcq X G m_T⟩,zcq X G a_C,⟨d1,d4,d0,dV⟩,⟨d2,b1,a1,d3⟩,ar,cx,c0,⟨_,zcq X G c2,λH=>Di c3 q_STAY (by decide) H⟩⟩
 refine⟨zcD "law" "law" (cD xx) (bC xx) (ah xx) .none a0 bt as b0 bS bv,λs v=>.of_eq rfl,λbase _ _=>?_⟩;have Ld:=QE (P:=l.prog) (w:=w) (base:=base) T J3;have tU:=JI (P:=l.prog) (w:=w) (base:=base) T CG;have Be:=Jw (P:=l.prog) (w:=w) (base:=base) T Cs;have k8:=JA (P:=l.prog) (w:=w) (base:=base) T Cw;have G1:=NK T Gy Be k8;have G0:=NI (P:=l.prog) (w:=w) (base:=base) T Gw;have Q9:=QH (P:=l.prog) (w:=w) (base:=base) T J6;have OB:=NQ (P:=l.prog) (w:=w) (base:=base) T (jH (st:=uw) m t n);have OF:=(jH (st:=uw) m t n).binds (ps:=jk) λ_ _ _ _ _ _=>J.FY (λ_=>rfl);have OC:=NS (P:=l.prog) (w:=w) (base:=base) T GD (JG T CD);have OD:=NU (P:=l.prog) (w:=w) (base:=base) T GH (Jx T Ct);have yV:=NT T GF (NJ T Gx (So T Ou)) (JJ T CH OC OD (QD T J2 G0));exact Lq (NO T F (NW T GL) (NH T Gu tU (FH T Gv G1 3 (by lia))) (JH T CF tU G1) (QF T J4 (NP T GC Ld (QI T J7 Ld))) (Sn T Ot (FI T yQ) (JD T CA (JB T Cy))) (ND T Gq tU (JF T CC) Be k8) (JC T Cz OB OF (NG T Gs (NN T GB)) (NF T Gr G0 Q9 (NL T Gz))) (NC T Gp (Jz T Cv)) (NV T GJ (FJ T GK 12 (by lia))) yV (JE T CB (Jy T Cu) (QG T J5)))
theorem walk{l:PySem.W.OpenLaw}{q:yaj}{d:DefRec}{K:Params->yaI}(j:l.most=some 63)(e:d.params.defaults=[])(o:∀(w:yak)(h:Heap),YP w h->(K w.params).In h)(F:∀(w:yak)(mg:Str->Option yai)(i:Addr)(h:Heap),(K w.params).In h->h.Ns yaq mg->mg d.name=some (.ref i)->∃fd:yap,(∀(s:yah)(u:yai),yaA s fd ⟨[u],[]⟩ [("_law_script",u)])/\∀base:Heap,(K w.params).In base->base.Ns yaq mg->dX l.prog w (K w.params) mg base nJ 16 i fd ["_law_script"] (zf (K w.params))):
  PySem.W.WalkO q loose XP YP l.row.toRowW d [] (λf vs=>PySem.call f vs):=
 L2.Hq (n:=63) (k:=16) (x:="_law_script") (CX:=λ_=>nJ) (sp:=λw=>zf (K w.params)) j (by decide) e ⟨rfl,by decide,by decide,rfl⟩ o F (λ_ _ a ns m _ t=>⟨a,ns,rfl,t,m,λ_=>rfl⟩) λ_ _ _ _ _ z=>z
end K32
open PySem PySem.W PyProof.Rows
namespace PySem.Challenge.cw_pathask_k32_whole_machines_of_patterns_holds
def tw8376845035253504135:=Nat
def tw8379271857735190454:=Nat
def tw7378666110175560250:=Nat
def tw13998243362496600822:=Nat
def tw11675514657370116380:=Nat
def tw8384893328303759480:=Nat
def tw17180777291733416896:=Nat
def tw11411556910428333620:=Nat
def tw7395792176016133639:=Nat
def tw3531947295984862277:=Nat
def tw6032252931558280985:=Nat
def tw815175866331047947:=Nat
def tw9742367231630502071:=Nat
def tw17420891046531698107:=Nat
def tw6790664742564264388:=Nat
def tw15248150679119922070:=Nat
def tw6155393145251021046:=Nat
def tw15278377437673782672:=Nat
def tw8918319771459476038:=Nat
def tw5790158083024651898:=Nat
def tw12852958310189936882:=Nat
def tw3326666157079505200:=Nat
def tw16897663101378803036:=Nat
def tw7677655367699439074:=Nat
def tw7353256771248220899:=Nat
def tw9908072036494155605:=Nat
def tw4312290908317540551:=Nat
def tw14755472461930423152:=Nat
def tw7867532000789813597:=Nat
def tw2930907119688550439:=Nat
def tw124101755366751726:=Nat
def tw1535912726909452725:=Nat
def tw13555523216301896060:=Nat
def tw1721035072992952121:=Nat
def tw14497822950587264504:=Nat
def tw15157596152598526485:=Nat
def tw1865050270320679904:=Nat
def tw2316191565692422085:=Nat
def tw7183242902065408273:=Nat
def tw8040929191679663936:=Nat
def tw2312007866305522674:=Nat
def tw12816274234317784506:=Nat
def tw2115123145031976269:=Nat
def tw3064016411877260403:=Nat
def tw11135823045069819177:=Nat
def tw1779645152984559254:=Nat
def tw14027106054136614870:=Nat
def tw7222313425151489922:=Nat
def tw179616069430275826:=Nat
def tw4427924083347478691:=Nat
def tw6204168364367222791:=Nat
def tw9357782860651903455:=Nat
def tw6282943476880886538:=Nat
def tw6810003964788132954:=Nat
def tw16493938235555882281:=Nat
def tw1403465280802570998:=Nat
def tw10411822495443405112:=Nat
def tw2120796327435992622:=Nat
def tw10568469132982494632:=Nat
def tw13072453610364520281:=Nat
def tw8401503277253949523:=Nat
def tw75983365290660256:=Nat
def tw13747885177571608189:=Nat
def tw10988773577028391239:=Nat
def tw7327824041388098309:=Nat
def tw3810392341872404365:=Nat
def tw16301975245715122577:=Nat
def tw6776008071530159994:=Nat
def tw10761835936874069434:=Nat
def tw9355096547987500641:=Nat
def tw5670894793780811532:=Nat
def tw17752081714893416184:=Nat
def tw14069323694879268739:=Nat
def tw5421262101082309055:=Nat
def tw18052221597665422378:=Nat
def tw11381124994632548484:=Nat
def tw11581177085235781876:=Nat
def tw14723163689484097945:=Nat
def tw8097216361323256517:=Nat
def tw10939724419540314599:=Nat
def tw9695516891683348103:=Nat
def tw13464154834270007479:=Nat
def tw8134059573724636040:=Nat
def tw15430603598286364032:=Nat
def tw2997022059673023058:=Nat
def tw506130348124562902:=Nat
def tw5327356499657122413:=Nat
def tw13094986074510879089:=Nat
def tw9518963858179039068:=Nat
def tw17353515333010060583:=Nat
def tw9709460893547785709:=Nat
def tw8501219400766356360:=Nat
def tw13485020097326465962:=Nat
def tw9816046371942652322:=Nat
def tw17619596780978313109:=Nat
def tw13792771104561071238:=Nat
def tw3843582777526320997:=Nat
def tw10028412418397454083:=Nat
def tw13652482622965222206:=Nat
def tw8613337999206265381:=Nat
def tw10572153801348920160:=Nat
def tw13662749019585334429:=Nat
def tw9834175364842218549:=Nat
def tw15843401655444004444:=Nat
def tw12452101311671916289:=Nat
def tw6026253901817144839:=Nat
def tw1339257658205401724:=Nat
def tw16465121179402957452:=Nat
def tw1418688225864942141:=Nat
def tw10657657841830470853:=Nat
def tw10448537029186708858:=Nat
def tw11241593990391317725:=Nat
def tw4069922323675092948:=Nat
def tw8179163076241491592:=Nat
def tw4349787894780699770:=Nat
def tw2402437400840679842:=Nat
def tw503830941425062085:=Nat
def tw11818898877184948764:=Nat
def tw13632257418495165850:=Nat
def tw9270443851608111146:=Nat
def tw1372444448771448671:=Nat
def tw5525366359123912820:=Nat
def tw5912533102046138530:=Nat
def tw16435624069572728461:=Nat
def tw15282775314849270179:=Nat
def tw1886312089003449064:=Nat
def tw5427138034953738900:=Nat
def tw938912022258429609:=Nat
def tw15189465363453777365:=Nat
def tw16792666838947357845:=Nat
def tw7010856524370815574:=Nat
def tw541018536470346399:=Nat
def tw4846165374391892187:=Nat
def tw740845662379375037:=Nat
def tw11821537844544542382:=Nat
def tw16762481332151906927:=Nat
def tw8407027828076856192:=Nat
def tw17117860417113966124:=Nat
def tw6710709932683661254:=Nat
def tw15182733461589104827:=Nat
def tw390381967547151426:=Nat
def tw9520181123286900840:=Nat
def tw2202764497505229489:=Nat
def tw94436222710014396:=Nat
def tw1695199270581057526:=Nat
def tw7140480912640982565:=Nat
def tw17799377273071847433:=Nat
def tw6158136874748724379:=Nat
def tw7152601078307460749:=Nat
def tw9384761145791880468:=Nat
def tw10009541372962755546:=Nat
def tw9215922845462072719:=Nat
def tw3236796864226035148:=Nat
def tw4593703036864522760:=Nat
def tw4919139981517605435:=Nat
def tw16881582295332015104:=Nat
def tw10880197926526127355:=Nat
def tw9934665823530020856:=Nat
def tw8558768489896536302:=Nat
def tw15091330141979146588:=Nat
def tw5925897499373664105:=Nat
def tw14000762422140059736:=Nat
def tw11142157691978616095:=Nat
def tw11865080041134018274:=Nat
def tw7357022958358256019:=Nat
def tw801318014856587718:=Nat
def tw11401517005326932432:=Nat
def tw8304472999322047121:=Nat
def tw6636735343318693856:=Nat
def tw15464862042743787832:=Nat
def tw7367432544953110086:=Nat
def tw8239860423327036628:=Nat
def tw9529306856431795957:=Nat
def tw17316999916233858084:=Nat
def tw13818487626885290284:=Nat
def tw12770645631402209693:=Nat
def tw10089401955958704202:=Nat
def tw7694424614203498959:=Nat
def tw8367110770964653002:=Nat
def tw13390722719585751904:=Nat
def tw979134482909735375:=Nat
def tw4672111367241378333:=Nat
def tw3836175370697342378:=Nat
def tw9856443102909942308:=Nat
def tw10926840180139875658:=Nat
def tw11485553319022270886:=Nat
def tw12264752214121747366:=Nat
def tw12431028137889695249:=Nat
def tw1123620432798108804:=Nat
def tw15734199076909543069:=Nat
def tw8838618979858351606:=Nat
def tw2196564306040786428:=Nat
def tw10599076967260893100:=Nat
def tw16111749588531359956:=Nat
def tw13245585821987550983:=Nat
def tw13266314203697716190:=Nat
def tw18273212626448311949:=Nat
def tw4819573621972993771:=Nat
def tw18391148813454882496:=Nat
def tw5832644638670253675:=Nat
def tw16145919475387617306:=Nat
def tw4241974685990171719:=Nat
def tw16314135741050868475:=Nat
def tw12792220752004277625:=Nat
def tw1479891695714222232:=Nat
def tw15629687789220549228:=Nat
def tw9105682646414403073:=Nat
def tw13313033900945625985:=Nat
def tw12420209269852670385:=Nat
def tw11057888061287606658:=Nat
def tw1696845831766920101:=Nat
def tw10882374433232030020:=Nat
def tw12523918919531774375:=Nat
def tw8326122833118674268:=Nat
def tw4204573976090926888:=Nat
def tw10003954922431771330:=Nat
def tw1730437019975289926:=Nat
def tw9835707322244686337:=Nat
def tw10775563274519301790:=Nat
def tw6029134492862371266:=Nat
def tw9949039753740044002:=Nat
def tw16189091383641753140:=Nat
def tw5045085414358181473:=Nat
def tw13584169689427911888:=Nat
def tw6590487590042525039:=Nat
def tw10799546523570950421:=Nat
def tw2440334879271480574:=Nat
def tw16830880320137421739:=Nat
def tw2915771733759610436:=Nat
def tw17831596439702893424:=Nat
def tw16180481112385856572:=Nat
def tw12224430132743676889:=Nat
def tw11579124199585362680:=Nat
def tw7184989693858524547:=Nat
def tw8625529978758256640:=Nat
def tw17142317037849344104:=Nat
def tw2002972192424806770:=Nat
def tw8518335229447876871:=Nat
def tw7155161593759608373:=Nat
def tw3984961476852548446:=Nat
def tw4396622586555873080:=Nat
def tw16585858935343913324:=Nat
def tw13129558287219451513:=Nat
def tw15879542893550762867:=Nat
def tw3263258358332058118:=Nat
def tw4170835160376510410:=Nat
def tw8977230785479493610:=Nat
def tw13113689254606710810:=Nat
def tw2439280694135617755:=Nat
def tw14713198962487922380:=Nat
def tw13523617675618458763:=Nat
def tw17188414191379915000:=Nat
def tw12119266364822717396:=Nat
def tw5701284488978186686:=Nat
def tw10891087121678699863:=Nat
def tw11106079112597124886:=Nat
def tw18002423290266990430:=Nat
def tw14433874510212643680:=Nat
def tw4938585848002066376:=Nat
def tw7835505607936010547:=Nat
def tw12159413638878207455:=Nat
def tw11145989392441393858:=Nat
def tw5348369526402578437:=Nat
def tw5197967072038327065:=Nat
def tw9433786228929849837:=Nat
def tw15397850386409956893:=Nat
def tw15702969129598859767:=Nat
def tw8203634635744206533:=Nat
def tw1404856414981004743:=Nat
def tw1063892076987043739:=Nat
def tw10096960294749311781:=Nat
def tw13232611080721107851:=Nat
def tw5453483724956728617:=Nat
def tw3968204209822213210:=Nat
def tw6802471856908712959:=Nat
def tw14239120004500581273:=Nat
def tw8262827190719848313:=Nat
def tw17936408769622456262:=Nat
def tw9642736041973362927:=Nat
def tw7893577826954153489:=Nat
def tw6067721444946908264:=Nat
def tw7932786034540478935:=Nat
def tw5704408274993948175:=Nat
def tw7981221311041524168:=Nat
def tw3744870825540474783:=Nat
def tw3136148630439540156:=Nat
def tw12334436704018824184:=Nat
def tw16269985258969327161:=Nat
def tw7807412656838009906:=Nat
def tw17874298125360143351:=Nat
def tw10458277459246341439:=Nat
def tw8227926934176386893:=Nat
def tw1139659536595442388:=Nat
def tw7152951155238491582:=Nat
def tw13727872900336861815:=Nat
def tw6628015614453109114:=Nat
def tw2686997978330193748:=Nat
def tw3407901152408636721:=Nat
def tw14369926495432583397:=Nat
def tw13133486974540424480:=Nat
def tw15986157999409962551:=Nat
def tw9137459926108587811:=Nat
def tw15077742531437066689:=Nat
def tw14586712833625592181:=Nat
def tw12418296250610418920:=Nat
def tw4338447388059655241:=Nat
def tw4530098969544811175:=Nat
def tw15446752308397950120:=Nat
def tw1400565105557735614:=Nat
def tw15092771353347804230:=Nat
def tw11430188139897968891:=Nat
def tw13833220150805372819:=Nat
def tw747094034874966404:=Nat
def tw6542996076716236815:=Nat
def tw6453346965661032027:=Nat
def tw17905154712445120921:=Nat
def tw6689728978878662942:=Nat
def tw10045917758862243789:=Nat
def tw10480985485350657987:=Nat
def tw8819806363941215686:=Nat
def tw10867803808560356512:=Nat
def tw13493621572464781138:=Nat
def tw7572604750306735460:=Nat
def tw10013205523346010133:=Nat
def tw9280463391894165269:=Nat
def tw9691703778738035962:=Nat
def tw15070193244831988411:=Nat
def tw11796418160276108684:=Nat
def tw4554426003626975647:=Nat
def tw7827184391929486458:=Nat
def tw12432903919713146900:=Nat
def tw5242781755460323069:=Nat
def tw6457900517366265295:=Nat
def tw6537891461095695120:=Nat
def tw5820962792078258060:=Nat
def tw4772147954230817864:=Nat
def tw15426378973733330287:=Nat
def tw9785670897830412465:=Nat
def tw6745886664029017587:=Nat
def tw16550759249858138385:=Nat
def tw13466721295241873384:=Nat
def tw16110278756585590126:=Nat
def tw7113028114909952606:=Nat
def tw6370789320342451837:=Nat
def tw14498796484602811165:=Nat
def tw17386875988920020093:=Nat
def tw666992305047091008:=Nat
def tw10751765362875006860:=Nat
end PySem.Challenge.cw_pathask_k32_whole_machines_of_patterns_holds
set_option Elab.async true in
set_option maxRecDepth 100000 in
set_option maxHeartbeats 0 in
theorem PySem.Challenge.cw_pathask_k32_whole_machines_of_patterns_holds : PySem.Challenge.rw_pathask_k32_whole_machines_of_patterns.Holds := by
 w_on;o_law;k_head;(case hw=>w_witness2)
 k_fill
 refine K32.walk (l:=PySem.Challenge.rw_pathask_k32_whole_machines_of_patterns) rfl rfl (λw h Y=>PySem.W.kIn_of Y) ?F
 case F =>
  intro w mg fa h KX G hmg
  refine' K32.all_mk KX G hmg ?_ ?_ ?_ ?_ ?_ ?_ ?_ ?_ ?_ ?_ ?_ ?_ ?_ ?_ ?_ ?_ ?_ ?_ ?_ ?_ ?_ ?_ ?_ ?_ ?_ ?_ ?_ ?_ ?_ ?_ ?_ ?_ ?_ ?_ ?_ ?_ ?_ ?_ ?_ ?_ ?_ ?_ ?_ ?_ ?_ ?_ ?_ ?_ ?_ ?_ ?_ ?_ ?_ ?_ ?_ ?_ ?_ ?_ ?_ ?_ ?_ ?_ ?_ ?q_LEAVES ?_ ?_ ?q_STAY ?_ ?_ ?_ ?_ ?_ ?_ ?_ ?_ ?_ ?_ ?_ ?_
  (case q_LEAVES=>kernel_rfl)
  (case q_STAY=>kernel_rfl)
  all_goals try first | (refine' L2.gf.of ?a ?l ?c ?k;(case a=>k_is);(case l=>k_is);(case c=>k_is);(case k=>k_is)) | (refine' L2.CL.of ?a ?l ?c ?k ?i;(case a=>k_is);(case l=>k_is);(case c=>k_is);(case k=>k_is);(case i=>k_is)) | k_is
