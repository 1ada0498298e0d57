import PyProof.Rows.All
import Wide.All
import OpenK.AllK
import Wide.FinOn
import Lean
import PyProof.EqAt
import PyProof.EqKinds
import PyProof.TupleCall
import KE.KRevIter
import KE.KIntText
import PyProof.Rows.StrNews
import KE.KSortTup
import PyProof.Rows.SetFrom
import PyProof.WalksMore
import KE.KRevSl
import PyProof.ZipIter
import PyProof.TupleIter
import KE.KItemsList
import PyProof.ListRange
import PyProof.Rows.SortRuns
import PySem.Challenge.RW_pathask_k38_what_is_closed
open List renaming eq_nil_of_length_eq_zero->zaa,getElem?_append_right->zab,getElem?_eq_some_iff->zae,getElem?_append_left->zaf,drop_eq_getElem_cons->zag,pairwise_iff_getElem->zah,getElem?_eq_getElem->zak,length_erase_of_mem->zal,getElem?_cons_zero->zam,getElem?_cons_succ->zan,mem_append_right->zat,getElem?_eq_none->zau,set_append_right->zav,length_filter_le->zaw,mem_cons_of_mem->zaz,mem_append_left->zaA,getElem?_set_ne->zaB,mem_of_getElem? -> zaC,filterMap_cons->zaD,replicate_succ->zaE,map_congr_left->zaF,getElem_of_mem->zaG,filter_eq_self->zaH,mem_cons_self->zaK,length_append->zaL,getElem?_take->zaM,zip_cons_cons->zaN,mem_singleton->zaO,set_cons_zero->zaP,size_toArray->zaX,any_eq_false->zaY,getElem?_map->zaZ,flatten_cons->zba,append_assoc->zbb,getElem?_set->zbc,ext_getElem? -> zbd,length_range->zbe,pairwise_map->zbf,nodup_append->zbg,length_cons->zbq,length_take->zbr,length_drop->zbs,lookup_cons->zbt,all_eq_true->zbu,take_length->zbv,cons_append->zbw,ext_getElem->zbx,getElem_mem->zby,getElem_map->zbz,not_mem_nil->zbA,map_fst_zip->zbB,any_eq_true->zbC,getElem_set->zbD,filter_cons->zbE,mem_flatMap->zbF,mem_filter->zbI,mem_append->zbJ,length_map->zbK,append_nil->zbL,nodup_cons->zbM,of_mem_zip->zbN,find?_cons->zbO,length_nil->zbP,foldl_cons->zbQ,nil_append->zbR,map_append->zbS,length_set->zbT,length_zip->zbU,mem_range->zca,replicate->zcb,mem_cons->zcg,map_cons->zch,any_cons->zci,all_cons->zcj,map_take->zck,map_drop->zcl,map_nil->zcr,any_map->zcs,map_map->zct,mem_map->zcu,lookup->zcF,length->zcG,range->zcK,cons->zcN,getD->zcO,map->zcP
open Array renaming getElem?_eq_none_iff->zac,perm_iff_toList_perm->zad,getElem?_eq_getElem->zai,getElem?_eq_none->zap,getElem?_toList->zax,length_toList->zaI,forIn_toList->zaU,getD->zcM
open PySem.Calls renaming call_function_entry->zaj,callWith_builtin->zas,spliced_cons->zaW,spliced_nil->zbp
open Nat renaming add_sub_cancel_left->zao,lt_of_lt_of_le->zaQ,lt_succ_of_lt->zbh,le_of_lt_succ->zbi,lt_trichotomy->zbj,not_lt_zero->zbV,lt_irrefl->zcm,ne_of_lt->zcv,le_trans->zcw,ne_of_gt->zcx,lt_trans->zcy,lt_or_ge->zcz,sub_self->zcA,le_refl->zcH,zero_le->zcI,mod_lt->zcL
open PySem.Heap renaming get?_push_of_some->zaq,get?_update_other->zar,get?_update_self->zay,get?_push_size->zaJ,size_push->zcf,lt_size->zcE
open Int renaming emod_lt_of_pos->zaR,toNat_natCast->zbk
open Bool renaming false_ne_true->zaS,false_eq_true->zaT,and_eq_true->zbG,or_eq_true->zbW,false_or->zcn,and_self->zco,and_true->zcp
open PySem.W renaming mg_none_of->zaV,hasDictIn->zbl,plainOver->zbm,emptyDict->zbn,plainGet->zbH,instObj->zbX,makesIn->zbY,kia_one->zbZ,findIn->zcc,keepIn->zcd,codeIn->zce,mg_of->zcq,isFn->zcB,fnOf->zcC,nsIn->zcD
open Option renaming isSome_map->zbo,some->zcJ
open PySem renaming wpAny_bind->yaa,wpAny_pure->yab,wpAny_mono->yac,wpAny_holding->yad,wpAny_newObj_type->yae,sizeLine_eq->yaf,sizeLine->yag,Shared->yah,Value->yai,Program->yaj,World->yak,Around->yal,PyData->yam,compareOp->yan,starEach->yao,FuncData->yap,mainGlobals->yaq,wpAny->yar,sysModules->yas,swapsWith->yat,backTo->yau,DictEntry->yav,GenState->yaw,codeAny_mono->yax,wpAny_standAt->yay,callWith->yaz,bindArgs->yaA,BindsTo->yaB,getMethod->yaC,keywordEach->yaD,backToKw->yaE,wpAny_execs_nil->yaF,wpAny_execs_cons->yaG,wpAny_call->yaH
open PySem.W renaming Frag->yaI
theorem yDf{p:Prop}[Decidable p](h:¬p):decide p=false:=decide_eq_false h
theorem yDt{p:Prop}[Decidable p](h:p):decide p=true:=decide_eq_true h
theorem yIn.{u}{c:Prop}{h:Decidable c} (n:¬c) {α:Sort u}{t e:α}:(ite c t e)=e:=if_neg n
theorem yIp.{u}{c:Prop}{h:Decidable c} (n:c) {α:Sort u}{t e:α}:(ite c t e)=t:=if_pos n
theorem ySz(n:Nat)(h:n<=100:=by decide):n<=PySem.sizeLine:=by rw[PySem.sizeLine_eq];lia
set_option Elab.async false
set_option linter.all false
set_option maxRecDepth 100000
namespace L2
open PySem PySem.Spec PyProof.Rows
abbrev Key:=Sum Int Str
noncomputable def ng:Key->yai->Bool
 |.inl k,v=>Value.isInt k v
 |.inr x,v=>Value.isStrOf x v
noncomputable def OO(w:yak):Key->Int
 |.inl k=>hashInt k
 |.inr x=>hashStr w x
theorem bJ:∀{k:Key}{v:yai},ng k v=true->(∃i t,k=Sum.inl i/\v=Value.int i t)∨(∃x t,k=Sum.inr x/\v=Value.str x t)
 |.inl i,v,h=>by
  obtain⟨t,e⟩:=Value.isInt_shape (k:=i) (v:=v) h;exact .inl ⟨i,t,rfl,e⟩
 |.inr x,v,h=>by
  obtain⟨t,e⟩:=Value.isStrOf_shape (x:=x) (v:=v) h;exact .inr ⟨x,t,rfl,e⟩
theorem yW(i:Int)(t:Tok):ng (.inl i) (.int i t)=true:=by simp[ng,Value.isInt]
theorem yV(x:Str)(t:Tok):ng (.inr x) (.str x t)=true:=by simp[ng,Value.isStrOf]
theorem JR(a b:Int):decide ((Sum.inl a:Key)=Sum.inl b)=(a==b):=by
 by_cases e:a=b
 ·subst e;simp
 ·have h:¬(Sum.inl a:Key)=Sum.inl b:=λq=>e (Sum.inl.inj q);rw[yDf h];exact(beq_eq_false_iff_ne.mpr e).symm
theorem JO(a b:Str):decide ((Sum.inr a:Key)=Sum.inr b)=decide (a=b):=by
 by_cases e:a=b
 ·subst e;simp
 ·have h:¬(Sum.inr a:Key)=Sum.inr b:=λq=>e (Sum.inr.inj q);rw[yDf h,yDf e]
theorem JQ(a:Int)(b:Str):decide ((Sum.inl a:Key)=Sum.inr b)=false:=yDf (λq=>nomatch q)
theorem JP(a:Str)(b:Int):decide ((Sum.inr a:Key)=Sum.inl b)=false:=yDf (λq=>nomatch q)
noncomputable def bM(prog:yaj)(w:yak):PySem.KeyKind prog w Key where
 is:=ng
 hash:=OO w
 inj:=λv a b l f=>by
  rcases bJ l with⟨i,t,rfl,rfl⟩|⟨x,t,rfl,rfl⟩
  ·rcases bJ f with⟨j,u,rfl,e⟩|⟨y,u,rfl,e⟩
   ·injection e with e1 _;rw[e1]
   ·exact nomatch e
  ·rcases bJ f with⟨j,u,rfl,e⟩|⟨y,u,rfl,e⟩
   ·exact nomatch e
   ·injection e with e1 _;rw[e1]
 byValue:=λk v h=>by
  rcases bJ h with⟨i,t,rfl,rfl⟩|⟨x,t,rfl,rfl⟩<;>rfl
 pyHash:=λc h=>by
  rcases bJ c with⟨i,t,rfl,rfl⟩|⟨x,t,rfl,rfl⟩
  ·exact wpAny_pyHash_int h
  ·exact wpAny_pyHash_str h
 eqBool:=λg c h=>by
  rcases bJ g with⟨i,t,rfl,rfl⟩|⟨x,t,rfl,rfl⟩
  ·rcases bJ c with⟨j,u,rfl,rfl⟩|⟨y,u,rfl,rfl⟩
   ·rw[JR] at h;exact wpAny_eqBool_int h
   ·rw[JQ] at h;exact SeqAt.EqAt.int_str i t y u _ _ _ _ h
  ·rcases bJ c with⟨j,u,rfl,rfl⟩|⟨y,u,rfl,rfl⟩
   ·rw[JP] at h;exact SeqAt.EqAt.str_int x t j u _ _ _ _ h
   ·rw[JO] at h;exact wpAny_eqBool_str h
 «strs»:=λk x t v h=>by
  rcases bJ h with⟨i,u,rfl,e⟩|⟨y,u,rfl,e⟩
  ·exact nomatch e
  ·injection e with e1 _;subst e1;cases v<;>rfl
theorem r9(prog:yaj)(w:yak)(i:Int)(t:Tok):(bM prog w).is (.inl i) (.int i t)=true:=yW i t
theorem rZ(prog:yaj)(w:yak)(x:Str)(t:Tok):(bM prog w).is (.inr x) (.str x t)=true:=yV x t
inductive V where
 |bq|bl (b:Bool)|int (i:Int)|str (x:Str)|t7 (b:Array UInt8)|J3 (b:UInt64)|ref (a:Addr)|ty (n:String)
 deriving DecidableEq
def RelV:V->yai->Prop
 |.bq,u=>u=Value.none
 |.bl b,u=>u=Value.bool b
 |.int i,u=>∃t,u=Value.int i t
 |.str x,u=>∃t,u=Value.str x t
 |.t7 b,u=>∃t,u=Value.bytes b t
 |.J3 b,u=>∃t,u=Value.float b t
 |.ref a,u=>u=Value.ref a
 |.ty n,u=>u=Value.type n
abbrev Vals:List V->List yai->Prop:=Paired RelV
theorem Vals.length{a:List V}{us:List yai}(r:Vals a us):a.length=us.length:=Paired.length r
theorem Vals.get:∀{a:List V}{us:List yai}{i:Nat}{x:V},Vals a us->a[i]? =some x->∃u,us[i]? =some u/\RelV x u
 |_,_,_,_,.nil,e=>by simp at e
 |_,_,0,_,.cons r _,e=>by simp at e;subst e;exact⟨_,rfl,r⟩
 |_,_,i+1,x,.cons _ t,e=>by
  obtain⟨u,f,c⟩:=Vals.get (i:=i) (x:=x) t (by simpa using e);exact⟨u,by simpa using f,c⟩
theorem Vals.append:∀{c a:List V}{us e:List yai},Vals c us->Vals a e->Vals (c++a) (us++e)
 |_,_,_,_,.nil,s=>s
 |_,_,_,_,.cons r t,s=>.cons r (Vals.append t s)
theorem Vals.take:∀{a:List V}{us:List yai}(n:Nat),Vals a us->Vals (a.take n) (us.take n)
 |_,_,0,_=>.nil
 |_,_,_+1,.nil=>.nil
 |_,_,n+1,.cons r t=>.cons r (Vals.take n t)
theorem Vals.drop:∀{a:List V}{us:List yai}(n:Nat),Vals a us->Vals (a.drop n) (us.drop n)
 |_,_,0,r=>r
 |_,_,_+1,.nil=>.nil
 |_,_,n+1,.cons _ t=>Vals.drop n t
def iA:Option V->Option yai->Prop
 |some v,some u=>RelV v u
 |none,none=>True
 |_,_=>False
def KV{κ:Type}:List (κ×V)->List (κ×yai)->Prop:=Paired λ(p:κ×V)(q:κ×yai)=>p.1=q.1/\RelV p.2 q.2
noncomputable def kV:Key->V
 |.inl i=>.int i
 |.inr x=>.str x
inductive HO where
 |lst (xs:List V)
 |tup (xs:List V)
 |dK (kvs:List (Key×V))|dT (kvs:List (List Key×V))
 |set (S:Int->Bool) (n:Nat)
 |ins (C dx:Addr) (fs:List (Str×V))
 |own (x:Addr)
 |xd (fs:List (Str×V))
 |met (f x:Addr)
 |Ot (lo hi:Int)
 |xE (o:Obj) (u:HO)
 |HM (ps:Array yai)
 |ext (φ:Heap->Prop)
abbrev Hp:=Addr->Option HO
noncomputable def upd(H:Hp)(a:Addr)(o:HO):Hp:=λb=>if b=a then some o else H b
theorem bx{H:Hp}{a:Addr}{o:HO}:upd H a o a=some o:=by unfold upd;rw[yIp rfl]
theorem aN{H:Hp}{a b:Addr}{o:HO}(h:b≠a):upd H a o b=H b:=by unfold upd;rw[yIn h]
theorem Mp{H:Hp}{a b:Addr}{o u:HO}(h:H a=some o)(h':H b=some u)(d:o≠u):a≠b:=by
 intro e;subst e;rw[h] at h';exact d (zcJ.inj h')
theorem bC{H:Hp}{a b:Addr}{o:HO}(h:H a=some o)(h':H b=none):a≠b:=by
 intro e;subst e;rw[h] at h';cases h'
section
variable (P:yaj)(w:yak)
def aJ(H:Hp)(h:Heap)(a:Addr):HO->Prop
 |.lst e=>e.length<=yag/\∃(c:List yai)(n:Nat),Vals e c/\h.get? a=some {cls:=.type "list",data:=.seq c.toArray n}
 |.tup e=>e.length<=yag/\∃c:List yai,Vals e c/\IsTup h a c.toArray
 |.dK kvs=>kvs.length<=yag/\(a==yas)=false/\∃g,KV kvs g/\h.DictOf (bM P w) a g
 |.dT kvs=>kvs.length<=yag/\(a==yas)=false/\∃e:List (List Key×Addr×yai),
   Paired (λ(p:List Key×V)(q:List Key×Addr×yai)=>p.1=q.1/\H q.2.1=some (.tup (p.1.map kV))/\RelV p.2 q.2.2) kvs e/\
   ∃o l m,h.get? a=some o/\o.ExactDict/\o.data=.dict l m/\l.toList=e.map (entryOfKey (tupleKind (bM P w)))/\(e.map (·.1)).Nodup
 |.set S n=>h.SetOf (intKind P w) a S n
 |.ins C dx fs=>H dx=some (.own a)/\fs.length<=1000/\dx≠a/\h.get? a=some (zbX C dx)/\
   ∃mA,h.Ns1 dx mA/\(∀f,iA (fs.lookup f) (mA f))/\PySem.Within mA (fs.map (·.1))
 |.own _=>∃o,h.get? a=some o
 |.xd fs=>∃mA,h.Ns1 a mA/\∀f,iA (fs.lookup f) (mA f)
 |.Ot lo hi=>∃t u v,h.get? a=some {cls:=.type "range",data:=.fields #[.int lo t,.int hi u,.int 1 v]}
 |.xE o u=>h.get? a=some o/\aJ H h a u
 |.HM ps=>h.get? a=some {cls:=.none,data:=.fields ps}
 |.met f x=>h.get? a=some (PySem.W.methodObj (.ref f) (.ref x))
 |.ext φ=>φ h/\(∃o,h.get? a=some o)/\∀j i:Heap,φ j->(∀o,j.get? a=some o->i.get? a=some o)->φ i
def iC(H:Hp)(h:Heap):Prop:=∀a o,H a=some o->aJ P w H h a o
end
section
variable {P:yaj}{w:yak}{H H':Hp}{h h':Heap}{a:Addr}{o:HO}
theorem aJ.lt(x:aJ P w H h a o):a<h.objs.size:=by
 cases o with
 |lst xs=>obtain⟨_,_,_,_,e⟩:=x;exact zcE e
 |tup xs=>obtain⟨_,_,_,p⟩:=x;exact p.lt
 |dK kvs=>obtain⟨_,_,_,_,o,_,_,e,_⟩:=x;exact zcE e
 |dT kvs=>obtain⟨_,_,_,_,o,_,_,e,_⟩:=x;exact zcE e
 |set S n=>obtain⟨o,_,_,_,e,_⟩:=x;exact zcE e
 |ins C dx fs=>obtain⟨_,_,_,e,_⟩:=x;exact zcE e
 |own y=>obtain⟨_,e⟩:=x;exact zcE e
 |xd fs=>obtain⟨_,⟨_,_,_,e,_⟩,_⟩:=x;exact zcE e
 |Ot lo hi=>obtain⟨_,_,_,e⟩:=x;exact zcE e
 |xE ob u=>obtain⟨e,_⟩:=x;exact zcE e
 |HM ps=>exact zcE (show h.get? a=some _ from x)
 |met f y=>exact zcE (show h.get? a=some _ from x)
 |ext φ=>obtain⟨_,⟨_,e⟩,_⟩:=x;exact zcE e
theorem Paired.JI{α g:Type}{F G:α->g->Prop}:∀{e:List α}{c:List g},Paired F e c->(∀a b,F a b->G a b)->Paired G e c
 |_,_,.nil,_=>.nil
 |_,_,.cons r t,f=>.cons (f _ _ r) (Paired.JI t f)
theorem aJ.stay(x:aJ P w H h a o)(k:∀b u,(b=a∨H b=some (.own a))->h.get? b=some u->h'.get? b=some u)(I:∀b,H b=some (.own a)->H' b=some (.own a))(G:∀b m,H b=some (.tup m)->H' b=some (.tup m)):aJ P w H' h' a o:=by
 induction o with
 |lst m=>obtain⟨z,l,n,r,e⟩:=x;exact⟨z,l,n,r,k _ _ (.inl rfl) e⟩
 |tup m=>obtain⟨z,l,r,g,e,c⟩:=x;exact⟨z,l,r,g,k _ _ (.inl rfl) e,c⟩
 |dK kvs=>obtain⟨z,y,F,r,g,i,j,e,c⟩:=x;exact⟨z,y,F,r,g,i,j,k _ _ (.inl rfl) e,c⟩
 |dT kvs=>
  obtain⟨z,y,m,r,g,i,j,e,c⟩:=x;exact⟨z,y,m,Paired.JI r λp q z=>⟨z.1,G _ _ z.2.1,z.2.2⟩,g,i,j,k _ _ (.inl rfl) e,c⟩
 |set S n=>obtain⟨g,i,j,t,e,c⟩:=x;exact⟨g,i,j,t,k _ _ (.inl rfl) e,c⟩
 |ins C dx fs=>
  obtain⟨d,z,ne,e,mA,⟨s,i,j,L,c⟩,r⟩:=x;exact⟨I _ d,z,ne,k _ _ (.inl rfl) e,mA,⟨s,i,j,k _ _ (.inr d) L,c⟩,r⟩
 |own y=>obtain⟨g,e⟩:=x;exact⟨g,k _ _ (.inl rfl) e⟩
 |xd fs=>obtain⟨mA,⟨s,i,j,e,c⟩,r⟩:=x;exact⟨mA,⟨s,i,j,k _ _ (.inl rfl) e,c⟩,r⟩
 |Ot lo hi=>obtain⟨t,u,v,e⟩:=x;exact⟨t,u,v,k _ _ (.inl rfl) e⟩
 |xE g u ih=>obtain⟨e,q⟩:=x;exact⟨k _ _ (.inl rfl) e,ih q⟩
 |HM ps=>
  have e:h.get? a=some {cls:=.none,data:=.fields ps}:=x;show h'.get? a=some {cls:=.none,data:=.fields ps};exact k a _ (.inl rfl) e
 |met f y=>
  have e:h.get? a=some (PySem.W.methodObj (.ref f) (.ref y)):=x;show h'.get? a=some (PySem.W.methodObj (.ref f) (.ref y));exact k a _ (.inl rfl) e
 |ext φ=>obtain⟨p,⟨o,e⟩,E⟩:=x;exact⟨E _ _ p λo q=>k _ _ (.inl rfl) q,⟨o,k _ _ (.inl rfl) e⟩,E⟩
theorem iC.lt(x:iC P w H h)(e:H a=some o):a<h.objs.size:=(x a o e).lt
theorem iC.fresh(x:iC P w H h)(e:h.objs.size<=a):H a=none:=by
 cases q:H a with
 |none=>rfl
 |some u=>exact absurd (zaQ (x.lt q) e) (zcm _)
theorem iC.kept(x:iC P w H h)(k:∀b u,h.get? b=some u->h'.get? b=some u):iC P w H h':=λa o e=>
 (x a o e).stay (λb u _ q=>k b u q) (λ_ q=>q) λ_ _ q=>q
theorem iC.laid(x:iC P w H h)(k:∀b u,h.get? b=some u->h'.get? b=some u)(i:h.objs.size<=a)(new:aJ P w (upd H a o) h' a o):iC P w (upd H a o) h':=λb u e=>by
 have f:=x.fresh i;by_cases g:b=a
 ·subst g;rw[bx] at e;cases e;exact new
 ·rw[aN g] at e;exact(x b u e).stay (λc v _ q=>k c v q) (λc q=>by rw[aN (bC q f)];exact q) λc j q=>by rw[aN (bC q f)];exact q
end
def Rd(H:Hp)(a:Addr)(u:HO):Prop:=H a=some u∨∃o,H a=some (.xE o u)
theorem Rd.ok{P:yaj}{w:yak}{H:Hp}{h:Heap}{a:Addr}{u:HO}(r:Rd H a u)(x:iC P w H h):aJ P w H h a u:=by
 rcases r with r|⟨o,r⟩
 ·exact x a u r
 ·obtain⟨_,q⟩:=x a _ r;exact q
def K9:Option HO->Prop
 |some (.lst _)=>True
 |some (.dK _)=>True
 |some (.dT _)=>True
 |some (.set _ _)=>True
 |some (.ins _ _ _)=>True
 |some (.ext _)=>True
 |_=>False
section
variable {P:yaj}{w:yak}{H:Hp}{h h':Heap}{x e:Addr}{o':HO}
theorem iC.write(ok:iC P w H h)(g:K9 (H x))(n:e=x∨H e=some (.own x))(k:∀b u,b≠e->h.get? b=some u->h'.get? b=some u)(l:∃u,h'.get? e=some u)(new:aJ P w (upd H x o') h' x o'):iC P w (upd H x o') h':=λb u q=>by
 have o:∀c y,H c=some (.own y)->c≠x:=λc y r z=>by subst z;rw[r] at g;exact g
 have t:∀c f,H c=some (.tup f)->c≠x:=λc f r z=>by subst z;rw[r] at g;exact g
 by_cases j:b=x
 ·subst j;rw[bx] at q;cases q;exact new
 ·rw[aN j] at q;by_cases a:b=e
  ·have m:H b=some (.own x):=by
    rcases n with z|z
    ·exact absurd (a.trans z) j
    ·rw[a];exact z
   rw[q] at m;cases m;obtain⟨v,s⟩:=l;exact⟨v,by rw[a];exact s⟩
  ·refine(ok b u q).stay (λc v i r=>k c v ?_ r) (λc r=>by rw[aN (o c b r)];exact r) λc f r=>by rw[aN (t c f r)];exact r
   rcases i with rfl|i
   ·exact a
   ·rintro rfl;rcases n with z|z
    ·exact o c b i z
    ·rw[i] at z;cases z;exact j rfl
end
structure Un(fs ex:List Addr)(H H':Hp)(h h':Heap):Prop where
 keep:∀b o,h.get? b=some o->H b=none->b ∉ fs->b ∉ ex->h'.get? b=some o
 slot:∀b o,h.get? b=some o->H b=none->b∈fs->b ∉ ex->∃sl,h'.get? b=some {o with slots:=sl}
 free:∀b o,h.get? b=some o->H b=none->b ∉ ex->H' b=none
 there:∀b o,h.get? b=some o->b ∉ ex->∃o',h'.get? b=some o'
 tups:∀b xs,H b=some (.tup xs)->H' b=some (.tup xs)
 oA:∀b o u,H b=some (.xE o u)->H' b=some (.xE o u)
 p6:∀b ps,H b=some (.HM ps)->∃more,H' b=some (.HM (ps++more))
section
variable {fs fs' ex ex':List Addr}{H H1 H2:Hp}{h h1 h2 h':Heap}{a x e:Addr}{o:HO}
theorem Un.any(u:Un fs ex H H1 h h1){b:Addr}{ob:Obj}(q:h.get? b=some ob)(n:H b=none)(c:b ∉ ex):∃sl,h1.get? b=some {ob with slots:=sl}:=by
 by_cases f:b∈fs
 ·exact u.slot b ob q n f c
 ·exact⟨ob.slots,u.keep b ob q n f c⟩
theorem Un.kept(k:∀b u,h.get? b=some u->h'.get? b=some u):Un fs ex H H h h':=
 ⟨λb c q _ _ _=>k b c q,λb c q _ _ _=>⟨c.slots,k b c q⟩,λ_ _ _ n _=>n,λb c q _=>⟨c,k b c q⟩,λ_ _ q=>q,λ_ _ _ q=>q,λ_ f q=>⟨#[],by rw[q];simp⟩⟩
theorem Un.refl:Un fs ex H H h h:=Un.kept λ_ _ q=>q
theorem Un.laid(k:∀b u,h.get? b=some u->h'.get? b=some u)(g:h.objs.size<=a)(c:H a=none):Un fs ex H (upd H a o) h h' where
 keep:=λb u q _ _ _=>k b u q
 slot:=λb u q _ _ _=>⟨u.slots,k b u q⟩
 free:=λb u q n _=>by rw[aN (zcv (zaQ (zcE q) g))];exact n
 there:=λb u q _=>⟨u,k b u q⟩
 tups:=λb f q=>by rw[aN (bC q c)];exact q
 oA:=λb u f q=>by rw[aN (bC q c)];exact q
 p6:=λb i q=>⟨#[],by rw[aN (bC q c),q];simp⟩
theorem Un.write(f:K9 (H x))(s:e=x∨H e=some (.own x))(k:∀b u,b≠e->h.get? b=some u->h'.get? b=some u)(i:∃u,h'.get? e=some u):Un fs ex H (upd H x o) h h':=by
 have j:∀b,H b=none->b≠x:=λb n z=>by subst z;rw[n] at f;exact f
 have l:∀b,H b=none->b≠e:=λb n z=>by
  subst z;rcases s with r|r
  ·exact j b n r
  ·rw[n] at r;cases r
 have g:∀b u,H b=some u->¬K9 (some u)->b≠x:=λb u q nm z=>by subst z;rw[q] at f;exact nm f
 refine⟨λb u q n _ _=>k b u (l b n) q,λb u q n _ _=>⟨u.slots,k b u (l b n) q⟩,λb u q n _=>by rw[aN (j b n)];exact n,λb u q _=>?_,
  λb m q=>by rw[aN (g b _ q λz=>z)];exact q,λb u m q=>by rw[aN (g b _ q λz=>z)];exact q,λb t q=>⟨#[],by rw[aN (g b _ q λz=>z),q];simp⟩⟩
 by_cases c:b=e
 ·subst c;exact i
 ·exact⟨u,k b u c q⟩
end
noncomputable def NO(h:Heap)(H:Hp):List Addr:=(zcK h.objs.size).filter λa=>(H a).isSome
noncomputable def qz(h:Heap)(H:Hp):Heap:=PySem.W.hideAll h (NO h H)
theorem zc(h:Heap)(H:Hp):(qz h H).objs.size=h.objs.size:=PySem.W.hideAll_size _ _
theorem Cd{h:Heap}{H:Hp}{b:Addr}{o:Obj}(e:h.get? b=some o)(n:H b=none):(qz h H).get? b=some o:=
 PySem.W.hideAll_get _ e λa=>by
  have q:(H b).isSome=true:=(zbI.mp a).2;rw[n] at q;simp at q
theorem EU{h:Heap}{H:Hp}{b:Addr}{o:Obj}(e:(qz h H).get? b=some o):h.get? b=some o/\H b=none:=by
 have a:h.get? b=some o:=PySem.W.of_hideAll (NO h H) e;refine⟨a,?_⟩;cases q:H b with
 |none=>rfl
 |some x=>
  have c:b∈NO h H:=zbI.mpr ⟨zca.mpr (zcE a),by simp[q]⟩;have z:(qz h H).get? b=none:=PySem.W.hideAll_none (NO h H) c;rw[z] at e;cases e
noncomputable def F1(g h:Heap)(L:Addr):List (Addr×Obj):=(zcK h.objs.size).filterMap λa=>if a=L∨(g.get? a).isSome=true then none else(h.get? a).map λo=>(a,o)
noncomputable def rest(g h:Heap)(L d:Addr):List (Addr×Obj):=(F1 g h L).filter λp=>decide (p.1≠d)
structure Mod(K:yaI)(mg:Str->Option yai)(base:Heap):Prop where
 Mz:K.In base
 glob:base.Ns yaq mg
 blt:∃mb,base.Ns builtinsNs mb/\∀x:Str,x≠"__name__"->mb x=bootBuiltins x
 nolimit:base.NoLimit
structure Cx where
 prog:yaj
 w:yak
 K:yaI
 mg:Str->Option yai
 base:Heap
 A:yal
 N:List Str
 s₀:yah
 H₀:Hp
 env:Env
 outer:List Env
 stack:List Env
 ex:List Addr
 fn:Str->Bool
 calm:Bool
 pn:List (Addr×Obj)
 xe:yai->yah->Prop
noncomputable def frs(l:List Env):List Addr:=l.filterMap (·.frame)
noncomputable abbrev Cx.fs(X:Cx):List Addr:=frs X.outer
def Ph(a:Scope)(x:Str):Prop:=a.names.lookup x=some .local∨a.names.lookup x=some .cell∨a.names.lookup x=some .free
def Loc(a:Scope)(x:Str):Prop:=a.names.lookup x=some .local∨a.names.lookup x=some .cell
def Look(env:Env)(h:Heap)(m:Str->Option yai)(x:Str)(u:yai):Prop:=
 (env.kindOf x=some .local/\m x=some u)∨((env.kindOf x=some .cell∨env.kindOf x=some .free)/\∃c,env.cells.lookup x=some c/\h.IsCell c (some u))
structure Cx.Ok(X:Cx):Prop where
 mod:Mod X.K X.mg X.base
 kind:X.env.scope.kind=.function
 glob:X.env.globals=yaq
 blt:X.env.builtins=builtinsNs
 above:X.s₀.heap.objs.size<=X.env.locals
 inj:∀x y c,X.env.cells.lookup x=some c->X.env.cells.lookup y=some c->x=y
 has:∀x,(X.env.kindOf x=some .cell∨X.env.kindOf x=some .free)->∃c,X.env.cells.lookup x=some c
 Nl:∀x c,X.fn x=true->X.env.cells.lookup x=some c->X.s₀.heap.objs.size<=c
 hd:X.calm=true->X.A.handled=none
 frames:X.A.frames=some X.stack
 stk:X.stack=X.outer∨(X.stack=X.env::X.outer/\X.env.frame=some X.env.locals)
 O1:∀b∈X.ex,b≠X.env.locals/\∀x c,X.env.cells.lookup x=some c->c≠b
 bs:∀b o,X.base.get? b=some o->X.s₀.heap.get? b=some o/\X.H₀ b=none
 FQ:X.base.objs.size<=X.s₀.heap.objs.size
 BU:∀b o,X.base.get? b=some o->b ∉ X.ex
 Fq:∀b∈X.ex,b ∉ X.fs
 kP:X.s₀.heap.FunFrames X.base X.outer
 J2:∀b∈X.fs,X.H₀ b=none
structure Inv(X:Cx)(pins:List (Addr×Obj))(σ:List (Option V))(H:Hp)(s:yah):Prop where
 ok:X.Ok
 os:s.os=X.s₀.os
 bare:AllBare s.gens
 base:Un X.fs X.ex X.H₀ H X.s₀.heap s.heap
 loc:∃m,s.heap.Ns X.env.locals m/\∀(i:Nat)(x:Str)(v:V),X.N[i]? =some x->σ[i]? =some (some v)->Ph X.env.scope x->∃u,RelV v u/\Look X.env s.heap m x u
 cell:∀x c,X.env.cells.lookup x=some c->∃v,s.heap.IsCell c v
 free:H X.env.locals=none
 gj:∀x c,X.env.cells.lookup x=some c->H c=none
 pin:∀p∈X.pn++pins,s.heap.get? p.1=some p.2/\H p.1=none/\p.1≠X.env.locals/\p.1 ∉ X.fs/\∀v,p.2.data≠ .cell v
 hok:iC X.prog X.w H s.heap
 len:σ.length=X.N.length
section
variable {X:Cx}{pins:List (Addr×Obj)}{σ:List (Option V)}{H H':Hp}{s:yah}{h':Heap}
theorem Cx.Ok.OL(ok:X.Ok){b:Addr}{o:Obj}(e:X.base.get? b=some o):b ∉ X.fs:=λa=>by
 have:=(ok.kP.mem a).1;rw[e] at this;cases this
theorem Inv.bs(I:Inv X pins σ H s):∀b o,X.base.get? b=some o->s.heap.get? b=some o/\H b=none:=λb o e=>
 ⟨I.base.keep b o (I.ok.bs b o e).1 (I.ok.bs b o e).2 (I.ok.OL e) (I.ok.BU b o e),I.base.free b o (I.ok.bs b o e).1 (I.ok.bs b o e).2 (I.ok.BU b o e)⟩
theorem Inv.bk(I:Inv X pins σ H s):∀b o,X.base.get? b=some o->s.heap.get? b=some o:=λb o e=>(I.bs b o e).1
theorem Inv.mod(I:Inv X pins σ H s):Mod X.K X.mg X.base:=I.ok.mod
theorem Inv.jN(I:Inv X pins σ H s):X.K.In s.heap:=I.ok.mod.Mz.keeps I.bk
theorem Inv.lt(I:Inv X pins σ H s):X.env.locals<s.heap.objs.size:=let⟨_,hn,_⟩:=I.loc;hn.lt
theorem Inv.sz(I:Inv X pins σ H s):X.s₀.heap.objs.size<=s.heap.objs.size:=zcw I.ok.above (Nat.le_of_lt I.lt)
theorem Inv.Ml(I:Inv X pins σ H s){a:Addr}(h:s.heap.objs.size<=a):a ∉ X.fs:=λe=>by
 obtain⟨_,o,c,_⟩:=I.ok.kP.mem e;exact absurd (zaQ (zcE c) (zcw I.sz h)) (zcm _)
theorem Inv.Kx(I:Inv X pins σ H s):∀x c,X.env.cells.lookup x=some c->c≠X.env.locals:=λx c e z=>by
 obtain⟨v,o,g,hd⟩:=I.cell x c e;obtain⟨m,⟨h,i,j,a,f,_⟩,_⟩:=I.loc;rw[z,a] at g;cases g;rw[f] at hd;cases hd
theorem Inv.kP(I:Inv X pins σ H s):s.heap.FunFrames X.base X.outer:=by
 have all:∀(l:List Env),(∀b∈frs l,b∈X.fs)->X.s₀.heap.FunFrames X.base l->s.heap.FunFrames X.base l:=by
  intro l
  induction l with
  |nil=>intro _ _;trivial
  |cons env r ih=>
   intro g m;obtain⟨n,⟨L,o,a,j,i,hd⟩,h⟩:=m;have f:L∈X.fs:=g L (by unfold frs;rw[zaD,a];exact zaK);obtain⟨q,e⟩:=I.base.slot L o i (I.ok.J2 L f) f λz=>I.ok.Fq L z f;exact⟨n,⟨L,_,a,j,e,hd⟩,ih (λb c=>g b (by unfold frs;rw[zaD,a];exact zaz _ c)) h⟩
 exact all X.outer (λ_ c=>c) I.ok.kP
theorem Inv.stack(I:Inv X pins σ H s):s.heap.FunFrames X.base X.stack:=by
 rcases I.ok.stk with e|⟨e,c⟩
 ·rw[e];exact I.kP
 ·rw[e];obtain⟨m,a,_⟩:=I.loc;refine .cons (by rw[I.ok.kind];decide) c a ?_ I.kP;exact Heap.get?_none_of_le (zcw I.ok.FQ I.ok.above)
theorem Inv.lT(I:Inv X pins σ H s):∀b∈frs X.stack,b∈X.env.locals::X.fs:=λb a=>by
 rcases I.ok.stk with e|⟨e,c⟩
 ·rw[e] at a;exact zaz _ a
 ·rw[e] at a;unfold frs at a;rw[zaD,c] at a;exact a
theorem Inv.wm(I:Inv X pins σ H s):∀b∈frs X.stack,H b=none:=λb a=>by
 rcases zcg.mp (I.lT b a) with e|a
 ·rw[e];exact I.free
 ·obtain⟨_,o,c,_⟩:=I.ok.kP.mem a;exact I.base.free b o c (I.ok.J2 b a) λz=>I.ok.Fq b z a
theorem Inv.step{g':Array yaw}{t':Nat}{d':Drawn}{ch:List Addr}(I:Inv X pins σ H s)(g:∀b∈ch,(b∈X.ex∨X.s₀.heap.objs.size<=b)/\b≠X.env.locals/\(∀x c,X.env.cells.lookup x=some c->c≠b)/\∀p∈X.pn++pins,p.1≠b)(keep:∀b o,b≠X.env.locals->b ∉ X.fs->b ∉ ch->s.heap.get? b=some o->H b=none->h'.get? b=some o)(slot:∀b o,b≠X.env.locals->b∈X.fs->b ∉ ch->s.heap.get? b=some o->H b=none->∃sl,h'.get? b=some {o with slots:=sl})(free:∀b o,b ∉ ch->s.heap.get? b=some o->H b=none->H' b=none)(there:∀b o,b ∉ ch->s.heap.get? b=some o->∃o',h'.get? b=some o')(tups:∀b y,H b=some (.tup y)->H' b=some (.tup y))(oA:∀b o u,H b=some (.xE o u)->H' b=some (.xE o u))(p6:∀b ps,H b=some (.HM ps)->∃more,H' b=some (.HM (ps++more)))(ns:∀m,s.heap.Ns X.env.locals m->h'.Ns X.env.locals m)(hok:iC X.prog X.w H' h')(U:AllBare g'):
  Inv X pins σ H' {s with heap:=h',gens:=g',drawn:=d',toks:=t'}:=by
 have F:∀b o,X.s₀.heap.get? b=some o->b≠X.env.locals:=λb o e=>zcv (zaQ (zcE e) I.ok.above);have j:∀b o,X.s₀.heap.get? b=some o->b ∉ X.ex->b ∉ ch:=λb o e a C=>by
  rcases(g b C).1 with z|z
  ·exact a z
  ·exact absurd (zaQ (zcE e) z) (zcm _)
 have h:∀x c,X.env.cells.lookup x=some c->∀v,s.heap.IsCell c v->h'.IsCell c v:=λx c e v ⟨o,E,hd⟩=>by
  have f:c ∉ ch:=λz=>(g c z).2.2.1 x c e rfl;by_cases P:c∈X.fs
  ·obtain⟨sl,q⟩:=slot c o (I.Kx x c e) P f E (I.gj x c e);exact⟨_,q,hd⟩
  ·exact⟨o,keep c o (I.Kx x c e) P f E (I.gj x c e),hd⟩
 refine⟨I.ok,I.os,U,⟨λb o e n C a=>?_,λb o e n C a=>?_,λb o e n a=>?_,λb o e a=>?_,λb y e=>tups b y (I.base.tups b y e),λb o y e=>oA b o y (I.base.oA b o y e),λb ps e=>?_⟩,?_,λx c e=>?_,?_,λx c e=>?_,λp O=>?_,hok,I.len⟩
 ·exact keep b o (F b o e) C (j b o e a) (I.base.keep b o e n C a) (I.base.free b o e n a)
 ·obtain⟨sl,t⟩:=I.base.slot b o e n C a;obtain⟨L,G⟩:=slot b _ (F b o e) C (j b o e a) t (I.base.free b o e n a);exact⟨L,G⟩
 ·obtain⟨o',t⟩:=I.base.there b o e a;exact free b o' (j b o e a) t (I.base.free b o e n a)
 ·obtain⟨o',t⟩:=I.base.there b o e a;exact there b o' (j b o e a) t
 ·obtain⟨m1,t⟩:=I.base.p6 b ps e;obtain⟨m2,G⟩:=p6 b _ t;exact⟨m1++m2,by rw[G,Array.append_assoc]⟩
 ·obtain⟨m,Q,S⟩:=I.loc;refine⟨m,ns m Q,λi x v t G W=>?_⟩;obtain⟨u,r,l⟩:=S i x v t G W;refine⟨u,r,?_⟩;rcases l with l|⟨k,c,e,z⟩
  ·exact .inl l
  ·exact .inr ⟨k,c,e,h x c e _ z⟩
 ·obtain⟨v,z⟩:=I.cell x c e;exact⟨v,h x c e v z⟩
 ·obtain⟨m,⟨o,_,_,E,_⟩,_⟩:=I.loc;exact free _ o (λz=>(g _ z).2.1 rfl) E I.free
 ·obtain⟨v,o,E,hd⟩:=I.cell x c e;exact free c o (λz=>(g c z).2.2.1 x c e rfl) E (I.gj x c e)
 ·obtain⟨e,n,ne,nf,d⟩:=I.pin p O;have f:p.1 ∉ ch:=λz=>(g p.1 z).2.2.2 p O rfl;exact⟨keep p.1 p.2 ne nf f e n,free p.1 p.2 f e n,ne,nf,d⟩
theorem Inv.un{t':Nat}(I:Inv X pins σ H s)(u:Un X.fs [] H H' s.heap h')(hok:iC X.prog X.w H' h'):Inv X pins σ H' {s with heap:=h',toks:=t'}:=by
 obtain⟨m,⟨o,x,y,h,r⟩,_⟩:=id I.loc;obtain⟨q,l⟩:=u.any h I.free (by simp);exact I.step (g':=s.gens) (d':=s.drawn) (ch:=[]) (λ_ z=>nomatch z) (λb o _ c _ e n=>u.keep b o e n c (by simp)) (λb o _ c _ e n=>u.slot b o e n c (by simp)) (λb o _ e n=>u.free b o e n (by simp)) (λb o _ e=>u.there b o e (by simp)) u.tups u.oA u.p6 (λv j=>by
  obtain⟨t,f,g,a,i⟩:=j;rw[h] at a;cases a;exact⟨_,f,g,l,i⟩) hok I.bare
theorem Inv.call{g':Array yaw}{t':Nat}{d':Drawn}{ch:List Addr}(I:Inv X pins σ H s)(u:Un (frs X.stack) ch H H' s.heap h')(hok:iC X.prog X.w H' h')(v:AllBare g')(g:∀b∈ch,(b∈X.ex∨X.s₀.heap.objs.size<=b)/\b≠X.env.locals/\(∀x c,X.env.cells.lookup x=some c->c≠b)/\∀p∈X.pn++pins,p.1≠b):
  Inv X pins σ H' {s with heap:=h',gens:=g',drawn:=d',toks:=t'}:=by
 obtain⟨m,⟨o,G,L,l,r⟩,_⟩:=id I.loc;obtain⟨C,h⟩:=u.any l I.free λz=>(g _ z).2.1 rfl;exact I.step (ch:=ch) g (λb o h y a e n=>u.keep b o e n (λz=>(zcg.mp (I.lT b z)).elim h y) a) (λb o _ _ a e n=>u.any e n a) (λb o a e n=>u.free b o e n a) (λb o a e=>u.there b o e a) u.tups u.oA u.p6 (λF t=>by
  obtain⟨E,i,j,f,q⟩:=t;rw[l] at f;cases f;exact⟨_,i,j,h,q⟩) hok v
theorem Inv.turned{t':Nat}{it:Addr}(I:Inv X pins σ H s)(k:∀b o,b≠it->s.heap.get? b=some o->h'.get? b=some o)(i:H it=none)(g:it≠X.env.locals)(h1:it∈X.ex∨X.s₀.heap.objs.size<=it)(y:∀x c,X.env.cells.lookup x=some c->c≠it)(t:∀p∈X.pn++pins,p.1≠it):Inv X pins σ H {s with heap:=h',toks:=t'}:=by
 have f:∀b u,H b=some u->b≠it:=λb u e z=>by rw[z,i] at e;cases e
 refine I.step (g':=s.gens) (d':=s.drawn) (ch:=[it]) (λb l=>?_) (λb o _ _ a e _=>k b o (λz=>a (by simp[z])) e) (λb o _ _ a e _=>⟨o.slots,k b o (λz=>a (by simp[z])) e⟩) (λ_ _ _ _ n=>n)
  (λb o a e=>⟨o,k b o (λz=>a (by simp[z])) e⟩) (λ_ _ e=>e) (λ_ _ _ e=>e) (λb F e=>⟨#[],by rw[e];simp⟩) (λm j=>?_) (λb u e=>?_) I.bare
 ·have e:b=it:=by simpa using l
  subst e;exact⟨h1,g,y,t⟩
 ·obtain⟨o,C,E,h,r⟩:=j;exact⟨o,C,E,k _ o (Ne.symm g) h,r⟩
 ·refine(I.hok b u e).stay (λc v a q=>k c v ?_ q) (λ_ q=>q) λ_ _ q=>q;rcases a with z|z
  ·rw[z];exact f b u e
  ·exact f c _ z
theorem Inv.tok(I:Inv X pins σ H s)(t:Nat):Inv X pins σ H {s with toks:=t}:=I.un (h':=s.heap) (t':=t) Un.refl I.hok
theorem Inv.kept{t':Nat}(I:Inv X pins σ H s)(k:∀b u,s.heap.get? b=some u->h'.get? b=some u):Inv X pins σ H {s with heap:=h',toks:=t'}:=I.un (Un.kept k) (I.hok.kept k)
theorem Inv.laid{a:Addr}{o:HO}{t':Nat}(I:Inv X pins σ H s)(k:∀b u,s.heap.get? b=some u->h'.get? b=some u)(c:s.heap.objs.size<=a)(new:aJ X.prog X.w (upd H a o) h' a o):
  Inv X pins σ (upd H a o) {s with heap:=h',toks:=t'}:=I.un (Un.laid k c (I.hok.fresh c)) (I.hok.laid k c new)
theorem Inv.write{x e:Addr}{o:HO}{t':Nat}(I:Inv X pins σ H s)(c:K9 (H x))(f:e=x∨H e=some (.own x))(k:∀b u,b≠e->s.heap.get? b=some u->h'.get? b=some u)(a:∃u,h'.get? e=some u)(new:aJ X.prog X.w (upd H x o) h' x o):Inv X pins σ (upd H x o) {s with heap:=h',toks:=t'}:=I.un (Un.write c f k a) (I.hok.write c f k a new)
theorem Inv.i0{pins':List (Addr×Obj)}(I:Inv X pins σ H s)(h:∀p∈pins',s.heap.get? p.1=some p.2/\H p.1=none/\p.1≠X.env.locals/\p.1 ∉ X.fs/\∀v,p.2.data≠ .cell v):Inv X pins' σ H s:=
 ⟨I.ok,I.os,I.bare,I.base,I.loc,I.cell,I.free,I.gj,λp a=>(zbJ.mp a).elim (λz=>I.pin p (zaA _ z)) (h p),I.hok,I.len⟩
theorem rY{N:List Str}(c:N.Nodup){i j:Nat}{x:Str}(a:N[i]? =some x)(b:N[j]? =some x):i=j:=by
 obtain⟨h,f⟩:=zae.mp a;obtain⟨g,e⟩:=zae.mp b;exact(List.getElem_inj c).mp (f.trans e.symm)
theorem yv{M:Model}{A:yal}{E:yai->yah->Prop}{i:Nat}{x:Str}{v:V}{u:yai}{Q:Unit->yah->Prop}(I:Inv X pins σ H s)(hN:X.N.Nodup)(Z:X.N[i]? =some x)(C:Loc X.env.scope x)(r:RelV v u)(h:∀s',Inv X pins (σ.set i (some v)) H s'->(∃a,Heap.SameBut a s.heap s'.heap/\(a=X.env.locals∨X.env.cells.lookup x=some a))->Q () s')(hf:X.fn x=true∨X.env.scope.names.lookup x=some .local:=by first|exact .inl rfl|exact .inr rfl|assumption):yar M A (storeName X.env x u) Q E s:=by
 obtain⟨m,hn,hl⟩:=id I.loc;have hcls:(X.env.scope.kind== .class||(X.env.scope.kind== .module&&X.env.locals != X.env.globals))=false:=by rw[I.ok.kind];rfl
 have O:i<σ.length:=by rw[I.len];exact(zae.mp Z).1
 have Kx:=I.Kx;have g:∀{a:Addr}{h':Heap},(∃o,s.heap.get? a=some o/\H a=none)->Heap.SameBut a s.heap h'->iC X.prog X.w H h':=λ{a h'} ha f b ob e=>by
  obtain⟨_,_,F⟩:=ha;refine(I.hok b ob e).stay (λc w' t q=>(f.2 c ?_).trans q) (λ_ q=>q) λ_ _ q=>q;rintro rfl;rcases t with rfl|t
  ·rw[F] at e;cases e
  ·rw[F] at t;cases t
 rcases C with L|L
 ·refine wpAny_storeName_local L hn (λh' hn' f=>?_) hcls;obtain⟨oL,_,_,hoL,_⟩:=id hn;refine h _ ⟨I.ok,I.os,I.bare,⟨λb o e n U C=>?_,λb o e n U C=>?_,I.base.free,λb o e C=>?_,I.base.tups,I.base.oA,I.base.p6⟩,⟨_,hn',λj y v' l G e3=>?_⟩,λy c e=>?_,I.free,I.gj,λp hp=>?_,g ⟨oL,hoL,I.free⟩ f,by simpa using I.len⟩ ⟨_,f,.inl rfl⟩
  ·exact(f.2 b (zcv (zaQ (zcE e) I.ok.above))).trans (I.base.keep b o e n U C)
  ·obtain⟨sl,l⟩:=I.base.slot b o e n U C;exact⟨sl,(f.2 b (zcv (zaQ (zcE e) I.ok.above))).trans l⟩
  ·obtain⟨o',l⟩:=I.base.there b o e C;exact⟨o',(f.2 b (zcv (zaQ (zcE e) I.ok.above))).trans l⟩
  ·by_cases P:j=i
   ·subst P;rw[Z] at l;cases l;rw[List.getElem?_set_self O] at G;cases G;exact⟨u,r,.inl ⟨L,by simp⟩⟩
   ·rw[zaB (Ne.symm P)] at G;obtain⟨u',r',q⟩:=hl j y v' l G e3;refine⟨u',r',?_⟩;rcases q with⟨k,e⟩|⟨k,c,e,z⟩
    ·refine .inl ⟨k,?_⟩;have:y≠x:=λe=>P (rY hN l (e▸Z));simp[this,e]
    ·exact .inr ⟨k,c,e,z.sameBut f (Kx y c e)⟩
  ·obtain⟨w',z⟩:=I.cell y c e;exact⟨w',z.sameBut f (Kx y c e)⟩
  ·obtain⟨e,n,ne,nf,d⟩:=I.pin p hp;exact⟨(f.2 p.1 ne).trans e,n,ne,nf,d⟩
 ·have S:X.fn x=true:=by
   rcases hf with z|z
   ·exact z
   ·rw[z] at L;cases L
  obtain⟨c,t⟩:=I.ok.has x (.inl L);obtain⟨w',z⟩:=I.cell x c t;refine wpAny_storeName_cell I.ok.kind L t z (λh' hc' f=>?_);obtain⟨oc,Y,W⟩:=id z;refine h {s with heap:=h'} ⟨I.ok,I.os,I.bare,⟨λb o e n U C=>?_,λb o e n U C=>?_,I.base.free,λb o e C=>?_,I.base.tups,I.base.oA,I.base.p6⟩,⟨m,hn.sameBut f (Ne.symm (Kx x c t)),λj y v' l G e3=>?_⟩,λy c' e=>?_,I.free,I.gj,λp hp=>?_,g ⟨oc,Y,I.gj x c t⟩ f,by simpa using I.len⟩ ⟨c,f,.inr t⟩
  ·exact(f.2 b (zcv (zaQ (zcE e) (I.ok.Nl x c S t)))).trans (I.base.keep b o e n U C)
  ·obtain⟨sl,l⟩:=I.base.slot b o e n U C;exact⟨sl,(f.2 b (zcv (zaQ (zcE e) (I.ok.Nl x c S t)))).trans l⟩
  ·obtain⟨o',l⟩:=I.base.there b o e C;exact⟨o',(f.2 b (zcv (zaQ (zcE e) (I.ok.Nl x c S t)))).trans l⟩
  ·by_cases P:j=i
   ·subst P;rw[Z] at l;cases l;rw[List.getElem?_set_self O] at G;cases G;exact⟨u,r,.inr ⟨.inl L,c,t,hc'⟩⟩
   ·rw[zaB (Ne.symm P)] at G;obtain⟨u',r',q⟩:=hl j y v' l G e3;refine⟨u',r',?_⟩;rcases q with q|⟨k,c',e,z'⟩
    ·exact .inl q
    ·refine .inr ⟨k,c',e,z'.sameBut f ?_⟩;rintro rfl;exact P (rY hN l (I.ok.inj _ _ _ e t▸Z))
  ·by_cases hcc:c'=c
   ·subst hcc;exact⟨_,hc'⟩
   ·obtain⟨w2,z2⟩:=I.cell y c' e;exact⟨w2,z2.sameBut f hcc⟩
  ·obtain⟨e,n,ne,nf,d⟩:=I.pin p hp;refine⟨(f.2 p.1 ?_).trans e,n,ne,nf,d⟩;intro q;rw[q,Y] at e;have q':oc=p.2:=zcJ.inj e;exact d w' (by rw[<-q'];exact W)
theorem lR{M:Model}{A:yal}{E:yai->yah->Prop}{i:Nat}{x:Str}{v:V}{u:yai}{Q:Unit->yah->Prop}(I:Inv X pins σ H s)(f:X.N.Nodup)(c:X.N[i]? =some x)(a:Loc X.env.scope x)(r:RelV v u)(h:∀s',Inv X pins (σ.set i (some v)) H s'->Q () s')(e:X.fn x=true∨X.env.scope.names.lookup x=some .local:=by first|exact .inl rfl|exact .inr rfl|assumption):yar M A (storeName X.env x u) Q E s:=
 yv I f c a r (λs' g _=>h s' g) e
theorem Inv.Nk{s':yah}{ch:List Addr}(I:Inv X pins σ H s)(g:s'.os=s.os)(u:Un (frs X.stack) ch H H' s.heap s'.heap)(hok:iC X.prog X.w H' s'.heap)(h:AllBare s'.gens)(a:∀b∈ch,(b∈X.ex∨X.s₀.heap.objs.size<=b)/\b≠X.env.locals/\(∀x c,X.env.cells.lookup x=some c->c≠b)/\∀p∈X.pn++pins,p.1≠b):Inv X pins σ H' s':=by
 obtain⟨h',g',d',t',f⟩:=s';have e:f=s.os:=g;subst e;exact I.call (g':=g') (t':=t') (d':=d') u hok h a
end
abbrev XK:=yai->Option Addr->Hp->Prop
abbrev St:=List (Option V)
abbrev VK:=V->Hp->Prop
abbrev TE:=St->Hp->VK->Prop
abbrev TT:=St->Hp->(Bool->Hp->Prop)->Prop
abbrev TA:=St->Hp->(List V->Hp->Prop)->Prop
structure Ends where
 nx:St->Hp->Prop
 rt:VK
 bk:St->Hp->Prop:=λ_ _=>False
 ct:St->Hp->Prop:=λ_ _=>False
abbrev TS:=Ends->St->Hp->Prop
def EP(X:Cx)(a:List (Addr×Obj))(e:St)(Q:VK)(u:yai)(s':yah):Prop:=∃v c,Inv X a e c s'/\RelV v u/\Q v c
def TP(X:Cx)(a:List (Addr×Obj))(e:St)(Q:Bool->Hp->Prop)(b:Bool)(s':yah):Prop:=∃c,Inv X a e c s'/\Q b c
def AP(X:Cx)(a:List (Addr×Obj))(f:St)(Q:List V->Hp->Prop)(us:List yai)(s':yah):Prop:=∃c e,Inv X a f e s'/\Vals c us/\Q c e
def SP(X:Cx)(c:List (Addr×Obj))(D:Ends)(f:Flow)(s':yah):Prop:=
 match f with
 |.next=>∃a e,Inv X c a e s'/\D.nx a e
 |.brk=>∃a e,Inv X c a e s'/\D.bk a e
 |.cont=>∃a e,Inv X c a e s'/\D.ct a e
 |.ret u=>∃v a e,Inv X c a e s'/\RelV v u/\D.rt v e
def PE(X:Cx)(e:Expr)(t:TE):Prop:=
 ∀(a:List (Addr×Obj))(s:yah)(c:St)(H:Hp)(Q:VK),Inv X a c H s->t c H Q->yar (model X.prog X.w) X.A (eval e X.env) (EP X a c Q) X.xe s
def PT(X:Cx)(e:Expr)(t:TT):Prop:=
 ∀(a:List (Addr×Obj))(s:yah)(c:St)(H:Hp)(Q:Bool->Hp->Prop),Inv X a c H s->t c H Q->yar (model X.prog X.w) X.A (isTrue e X.env (eval e X.env)) (TP X a c Q) X.xe s
def PW(X:Cx)(e:Expr)(t:TT):Prop:=
 ∀(c:Sem yai)(a:List (Addr×Obj))(s:yah)(f:St)(H:Hp)(Q:Bool->Hp->Prop),Inv X a f H s->t f H Q->yar (model X.prog X.w) X.A (isTrue e X.env c) (TP X a f Q) X.xe s
theorem PW.pt{X:Cx}{e:Expr}{t:TT}(h:PW X e t):PT X e t:=h _
def PA(X:Cx)(es:List Expr)(t:TA):Prop:=
 ∀(e:Pos)(a:List (Addr×Obj))(s:yah)(c:St)(H:Hp)(Q:List V->Hp->Prop),Inv X a c H s->t c H Q->yar (model X.prog X.w) X.A (spliced (yau e (yao es X.env))) (AP X a c Q) X.xe s
def PS(X:Cx)(st:Stmt)(t:TS):Prop:=
 ∀(a:List (Addr×Obj))(s:yah)(c:St)(H:Hp)(D:Ends),Inv X a c H s->t D c H->yar (model X.prog X.w) X.A (exec st X.env) (SP X a D) X.xe s
def tP(X:Cx)(st:List Stmt)(t:TS):Prop:=
 ∀(a:List (Addr×Obj))(s:yah)(c:St)(H:Hp)(D:Ends),Inv X a c H s->t D c H->yar (model X.prog X.w) X.A (execs st X.env) (SP X a D) X.xe s
theorem b6{α:Type}{t:Sem α}{Q c:α->yah->Prop}{M:Model}{A:yal}{E:yai->yah->Prop}{s:yah}(h:yar M A t Q E s)(e:∀a s,Q a s->c a s):yar M A t c E s:=yac h e λ_ _ x=>x
section
variable {X:Cx}
def Lg(i:Nat):TE:=λa H Q=>∃v,a[i]? =some (some v)/\Q v H
def tC(v:V):TE:=λ_ H Q=>Q v H
theorem Jf{i:Nat}{x:Str}{n:Pos}(F:X.N[i]? =some x)(y:Ph X.env.scope x)(hd:(x==("__debug__":Str))=false:=by decide)(o:(x==("__classdict__":Str))=false:=by decide):PE X (.Name x n) (Lg i):=by
 intro j s t H Q I h;obtain⟨v,e,h⟩:=h;obtain⟨m,z,E⟩:=I.loc;obtain⟨u,r,l⟩:=E i x v F e y;have g:EP X j t Q u s:=⟨v,H,I,r,h⟩
 rcases l with⟨f,C⟩|⟨f,c,q,a⟩
 ·exact wpAny_Name (wpAny_loadName_local I.ok.kind f z C g) hd
 ·rcases f with f|f
  ·exact wpAny_Name (wpAny_loadName_cell I.ok.kind f q a g) hd
  ·exact wpAny_Name (wpAny_loadName_free I.ok.kind f q a g o) hd
theorem aa{i j pos}:PE X (.Constant (.int i) j pos) (tC (.int i)):=λ_ _ _ H _ I h=>wpAny_Constant_int ⟨.int i,H,I.tok _,⟨_,rfl⟩,h⟩
theorem c9{b j pos}:PE X (.Constant (.bool b) j pos) (tC (.bl b)):=λ_ _ _ H _ I h=>Constant_bool ⟨.bl b,H,I,rfl,h⟩
theorem uK{j pos}:PE X (.Constant .none j pos) (tC .bq):=λ_ _ _ H _ I h=>Constant_none ⟨.bq,H,I,rfl,h⟩
theorem aW{x j pos}:PE X (.Constant (.str x) j pos) (tC (.str x)):=λ_ _ _ H _ I h=>Calls.Constant_str ⟨.str x,H,I.tok _,⟨_,rfl⟩,h⟩
def Gl(X:Cx)(x:Str):Prop:=X.env.kindOf x=some .globalImplicit
theorem je{E:yai->yah->Prop}{a:List (Addr×Obj)}{s:yah}{e:St}{H:Hp}{x:Str}{u:yai}{c:Pos}{Q:yai->yah->Prop}(I:Inv X a e H s)(g:Gl X x)(f:X.mg x=some u)(h:Q u s)(hd:(x==("__debug__":Str))=false:=by decide):yar (model X.prog X.w) X.A (eval (.Name x c) X.env) Q E s:=
 Calls.Name_function_global I.ok.kind g (Calls.loadGlobal_global (by rw[I.ok.glob];exact I.mod.glob.keeps I.bk) f h) hd
theorem iM{E:yai->yah->Prop}{a:List (Addr×Obj)}{s:yah}{e:St}{H:Hp}{x:Str}{u:yai}{c:Pos}{Q:yai->yah->Prop}(I:Inv X a e H s)(j:Gl X x)(i:X.mg x=none)(f:bootBuiltins x=some u)(h:Q u s)(g:x≠"__name__":=by decide)(hd:(x==("__debug__":Str))=false:=by decide):yar (model X.prog X.w) X.A (eval (.Name x c) X.env) Q E s:=by
 obtain⟨mb,m,l⟩:=I.mod.blt;exact Calls.Name_function_global I.ok.kind j (Calls.loadGlobal_builtin (by rw[I.ok.glob];exact I.mod.glob.keeps I.bk) i (by rw[I.ok.blt];exact m.keeps I.bk) ((l x g).trans f) h) hd
theorem k9{x:Str}{v:V}{u:yai}{a:Pos}(e:Gl X x)(c:X.mg x=some u)(r:RelV v u)(hd:(x==("__debug__":Str))=false:=by decide):PE X (.Name x a) (tC v):=
 λ_ _ _ H _ I h=>je I e c ⟨v,H,I,r,h⟩ hd
theorem EH{x:Str}{v:V}{u:yai}{a:Pos}(g:Gl X x)(f:X.mg x=none)(c:bootBuiltins x=some u)(r:RelV v u)(e:x≠"__name__":=by decide)(hd:(x==("__debug__":Str))=false:=by decide):PE X (.Name x a) (tC v):=
 λ_ _ _ H _ I h=>iM I g f c ⟨v,H,I,r,h⟩ e hd
variable {a b:Expr}{ta tb:TE}{pos:Pos}
def tB(t:TE):TT:=λe H Q=>t e H λx f=>∃c,x=.bl c/\Q c f
variable {tA tB':TT}{rest:List Expr}
def Py(t u:TT):TT:=λe H Q=>t e H λc f=>if c=true then Q true f else u e f Q
def Ll(t:TT):TT:=λe H Q=>t e H λc f=>Q (!c) f
theorem pw_or1(i:PT X a tA):PW X (.BoolOp .Or [a] pos) tA:=by
 intro j f s g H Q I h;refine isTrue_or (b6 (i f s g H Q I h) λc l e=>?_);cases c with
 |false=>exact isTrue_or_nil e
 |true=>exact e
theorem pw_or(o:PT X a tA)(n:PW X (.BoolOp .Or (b::rest) pos) tB'):PW X (.BoolOp .Or (a::b::rest) pos) (Py tA tB'):=by
 intro l e s f H Q I h;refine isTrue_or (b6 (o e s f H _ I h) λc m ⟨j,i,g⟩=>?_);cases c with
 |true=>exact⟨j,i,g⟩
 |false=>exact n l e m f j Q i g
theorem jS(g:PT X a tA):PT X (.UnaryOp .Not a pos) (Ll tA):=by
 intro e s f H Q I h;exact isTrue_not (g e s f H (λc i=>Q (!c) i) I h)
def Gv(ta tb:TE):TE:=λe H Q=>ta e H λx f=>∃c,x=.bl c/\if c=true then tb e f Q else Q (.bl false) f
theorem uJ{op}{t:TE}(h:PE X a t):PE X (.BoolOp op [a] pos) t:=λc s e H Q I hw=>BoolOp_one (h c s e H Q I hw)
theorem uL(o:PE X a ta)(n:PE X (.BoolOp .And (b::rest) pos) tb):PE X (.BoolOp .And (a::b::rest) pos) (Gv ta tb):=by
 intro e s g H Q I h;refine BoolOp_and (b6 (o e s g H _ I h) λv l ⟨x,j,i,m,f⟩=>?_);obtain⟨c,rfl,f⟩:=f;cases m;refine wpAny_truthy_bool ?_;cases c with
 |true=>exact n e l g j Q i f
 |false=>exact⟨.bl false,j,i,rfl,f⟩
end
def cV(K:yaI)(H:Hp)(a:Addr)(e:List V):Prop:=
 Rd H a (.lst e)∨
  ∃(o:Obj)(c:Array yai)(n:Nat),K.lookup a=some o/\o.cls=.type "list"/\o.dict=none/\o.data=.seq c n/\c.size<=yag/\Vals e c.toList
def ef(K:yaI)(H:Hp)(a:Addr)(e:List V):Prop:=
 Rd H a (.tup e)∨
  ∃(o:Obj)(c:Array yai)(n:Nat),K.lookup a=some o/\o.cls=.type "tuple"/\o.data=.seq c n/\c.size<=yag/\Vals e c.toList
noncomputable def Pa:yai->Option V
 |.none=>some .bq
 |.bool b=>some (.bl b)
 |.int i _=>some (.int i)
 |.str x _=>some (.str x)
 |.bytes b _=>some (.t7 b)
 |.float b _=>some (.J3 b)
 |.ref a=>some (.ref a)
 |.type n=>some (.ty n)
 |_=>none
theorem RelV.abs{x:V}{u:yai}(r:RelV x u):Pa u=some x:=by
 cases x with
 |bq=>cases r;rfl
 |bl _=>cases r;rfl
 |int _=>obtain⟨t,rfl⟩:=r;rfl
 |str _=>obtain⟨t,rfl⟩:=r;rfl
 |t7 _=>obtain⟨t,rfl⟩:=r;rfl
 |J3 _=>obtain⟨t,rfl⟩:=r;rfl
 |ref _=>cases r;rfl
 |ty _=>cases r;rfl
theorem RelV.inj{x y:V}{u:yai}(r:RelV x u)(q:RelV y u):x=y:=zcJ.inj (r.abs.symm.trans q.abs)
theorem Vals.inj:∀{c a:List V}{us:List yai},Vals c us->Vals a us->c=a
 |_,_,_,.nil,.nil=>rfl
 |_,_,_,.cons r t,.cons r' t'=>by rw[r.inj r',Vals.inj t t']
section
variable {X:Cx}{pins:List (Addr×Obj)}{σ:St}{H:Hp}{s:yah}{a:Addr}{xs ys:List V}
theorem cV.of{K:yaI}(h:H a=some (.lst xs)):cV K H a xs:=.inl (.inl h)
theorem ef.of{K:yaI}(h:H a=some (.tup xs)):ef K H a xs:=.inl (.inl h)
theorem Inv.list(I:Inv X pins σ H s)(h:cV X.K H a xs):∃its:List yai,Vals xs its/\PlainL s.heap a its.toArray/\xs.length<=yag:=by
 rcases h with h|⟨o,its,n,f,g,hd,c,i,r⟩
 ·obtain⟨z,its,n,r,e⟩:=h.ok I.hok;exact⟨its,r,⟨_,n,e,rfl,rfl,rfl⟩,z⟩
 ·refine⟨its.toList,r,⟨o,n,I.jN a o f,g,hd,by simpa using c⟩,?_⟩;have e:=r.length;simp only[zaI] at e;lia
theorem Inv.tuple(I:Inv X pins σ H s)(h:ef X.K H a xs):∃its:List yai,Vals xs its/\IsTup s.heap a its.toArray/\xs.length<=yag:=by
 rcases h with h|⟨o,its,n,f,g,c,i,r⟩
 ·obtain⟨z,its,r,p⟩:=h.ok I.hok;exact⟨its,r,p,z⟩
 ·refine⟨its.toList,r,⟨o,I.jN a o f,g,n,by simpa using c⟩,?_⟩;have e:=r.length;simp only[zaI] at e;lia
theorem Inv.sj(I:Inv X pins σ H s)(h:cV X.K H a xs)(h':cV X.K H a ys):xs=ys:=by
 obtain⟨f,r,⟨o,n,e,_,_,d⟩,_⟩:=I.list h;obtain⟨c,j,⟨l,m,g,_,_,i⟩,_⟩:=I.list h';rw[e] at g;cases g;rw[d] at i;injection i with d1 _;have:f=c:=by simpa using congrArg Array.toList d1
 subst this;exact r.inj j
theorem Inv.yu(I:Inv X pins σ H s)(h:ef X.K H a xs)(h':ef X.K H a ys):xs=ys:=by
 obtain⟨f,r,⟨o,e,_,n,d⟩,_⟩:=I.tuple h;obtain⟨c,j,⟨l,g,_,m,i⟩,_⟩:=I.tuple h';rw[e] at g;cases g;rw[d] at i;injection i with d1 _;have:f=c:=by simpa using congrArg Array.toList d1
 subst this;exact r.inj j
end
noncomputable abbrev Cx.om(X:Cx)(E:yai->yah->Prop):Cx:={X with xe:=E}
noncomputable abbrev Cx.BS(X:Cx):Cx:=X.om λ_ _=>False
theorem Cx.Ok.om{X:Cx}(ok:X.Ok)(E:yai->yah->Prop):(X.om E).Ok:=
 ⟨ok.mod,ok.kind,ok.glob,ok.blt,ok.above,ok.inj,ok.has,ok.Nl,ok.hd,ok.frames,ok.stk,ok.O1,ok.bs,ok.FQ,ok.BU,ok.Fq,ok.kP,ok.J2⟩
theorem Cx.Ok.gB{X:Cx}{E:yai->yah->Prop}(ok:(X.om E).Ok):X.Ok:=
 ⟨ok.mod,ok.kind,ok.glob,ok.blt,ok.above,ok.inj,ok.has,ok.Nl,ok.hd,ok.frames,ok.stk,ok.O1,ok.bs,ok.FQ,ok.BU,ok.Fq,ok.kP,ok.J2⟩
section
variable {X:Cx}{pins:List (Addr×Obj)}{σ:St}{H:Hp}{s:yah}{E:yai->yah->Prop}
theorem Inv.om(I:Inv X pins σ H s)(E:yai->yah->Prop):Inv (X.om E) pins σ H s:=⟨I.ok.om E,I.os,I.bare,I.base,I.loc,I.cell,I.free,I.gj,I.pin,I.hok,I.len⟩
theorem Inv.gB(I:Inv (X.om E) pins σ H s):Inv X pins σ H s:=⟨I.ok.gB,I.os,I.bare,I.base,I.loc,I.cell,I.free,I.gj,I.pin,I.hok,I.len⟩
theorem SP.gB{D:Ends}{f:Flow}{s':yah}(h:SP (X.om E) pins D f s'):SP X pins D f s':=by
 cases f with
 |next=>obtain⟨a,c,I,q⟩:=h;exact⟨a,c,I.gB,q⟩
 |brk=>obtain⟨a,c,I,q⟩:=h;exact⟨a,c,I.gB,q⟩
 |cont=>obtain⟨a,c,I,q⟩:=h;exact⟨a,c,I.gB,q⟩
 |ret u=>obtain⟨v,a,c,I,r,q⟩:=h;exact⟨v,a,c,I.gB,r,q⟩
theorem tP.BS{st:List Stmt}{t:TS}(h:tP X.BS st t):tP X st t:=λpins s σ H D I hw=>
 yac (h pins s σ H D (I.om _) hw) (λ_ _ q=>q.gB) λ_ _ z=>False.elim z
end
section
variable {X:Cx}{st:Stmt}{rest:List Stmt}{t u:TS}{e:Expr}{te:TE}{pos:Pos}
def Gn:TS:=λD a H=>D.nx a H
def Li(t u:TS):TS:=λD a H=>t {D with nx:=u D} a H
theorem aV:tP X [] Gn:=λ_ _ a H _ I h=>yaF ⟨a,H,I,h⟩
theorem ah(h1:PS X st t)(j:tP X rest u):tP X (st::rest) (Li t u):=by
 intro a s g H D I h;refine yaG (b6 (h1 a s g H {D with nx:=u D} I h) λf i q=>?_);cases f with
 |next=>
  obtain⟨c,m,l,q⟩:=q;exact j a i c m D l q
 |ret v=>exact q
 |brk=>exact q
 |cont=>exact q
theorem aj(h1:PS X st t):tP X [st] t:=by
 intro a s c H D I h;refine yaG (b6 (h1 a s c H D I h) λf g q=>?_);cases f with
 |next=>exact yaF q
 |ret v=>exact q
 |brk=>exact q
 |cont=>exact q
theorem Inv.quiet{a:List (Addr×Obj)}{c:St}{H:Hp}{s:yah}(I:Inv X a c H s):interactive X.env=false:=by simp[interactive,I.ok.kind]
def Gs(te:TE):TS:=λD a H=>te a H λ_ c=>D.nx a c
theorem bL(i:PE X e te)(g:yat e none pos.line X.env=pure false:=by rfl):PS X (.Expr e pos) (Gs te):=by
 intro a s c H D I h;exact wpAny_Expr_any (b6 (i a s c H _ I h) λv m ⟨x,l,j,n,f⟩=>⟨c,l,j,f⟩) I.quiet g
def Lj(te:TE):TS:=λD a H=>te a H D.rt
theorem aK(i:PE X e te):PS X (.Return (some e) pos) (Lj te):=by
 intro a s c H D I h;exact wpAny_Return_some (b6 (i a s c H _ I h) λv m ⟨x,l,j,f,g⟩=>⟨x,c,l,j,f,g⟩)
def Ln(c:TT)(t u:TS):TS:=λD a H=>c a H λb f=>if b=true then t D a f else u D a f
theorem bR{c:Expr}{a b:List Stmt}{tc:TT}(n:PT X c tc)(q:tP X a t)(o:tP X b u):PS X (.If c a b pos) (Ln tc t u):=by
 intro f s g H D I h;refine wpAny_If (b6 (n f s g H _ I h) λd i ⟨m,l,j⟩=>?_);cases d with
 |true=>exact q f i g m D l j
 |false=>exact o f i g m D l j
def HN:TS:=λ_ _ _=>False
theorem eK:PS X st HN:=λ_ _ _ _ _ _ h=>h.elim
end
abbrev TG:=V->St->Hp->(St->Hp->Prop)->Prop
abbrev C9:=List V->St->Hp->(St->Hp->Prop)->Prop
def PG(X:Cx)(a:Expr)(t:TG):Prop:=
 ∀(c:List (Addr×Obj))(s:yah)(f:St)(H:Hp)(v:V)(u:yai)(Q:St->Hp->Prop),Inv X c f H s->RelV v u->t v f H Q->
  yar (model X.prog X.w) X.A (assign a X.env u) (λ_ h=>∃e g,Inv X c e g h/\Q e g) X.xe s
def Hw(X:Cx)(ts:List Expr)(t:C9):Prop:=
 ∀(a:List (Addr×Obj))(s:yah)(e:St)(H:Hp)(f:List V)(g:List yai)(Q:St->Hp->Prop),Inv X a e H s->Vals f g->t f e H Q->
  yar (model X.prog X.w) X.A (assignInOrder ((assignEach ts X.env).map (·.2)) g) (λ_ i=>∃c h,Inv X a c h i/\Q c h) X.xe s
section
variable {X:Cx}{pos:Pos}
def xB(i:Nat):TG:=λv a H Q=>Q (a.set i (some v)) H
theorem aq{i:Nat}{x:Str}(g:X.N.Nodup)(e:X.N[i]? =some x)(c:Loc X.env.scope x)(f:X.fn x=true∨X.env.scope.names.lookup x=some .local:=by first|exact .inl rfl|exact .inr rfl|assumption):PG X (.Name x pos) (xB i):=by
 intro a s l H v u Q I r h;exact wpAny_assign_Name (lR I g e c r (λm j=>⟨_,H,j,h⟩) f)
def MP:C9:=λc a H Q=>c=[]/\Q a H
def Hg(t:TG)(u:C9):C9:=λe c H Q=>∃v r,e=v::r/\t v c H λa f=>u r a f Q
theorem cR:Hw X [] MP:=by
 intro a s c H f g Q I r h;obtain⟨e,h⟩:=h;subst e;cases r;exact assignInOrder_nil ⟨c,H,I,h⟩
theorem aL{e:Expr}{es:List Expr}{t:TG}{u:C9}(h1:PG X e t)(l:Hw X es u)(j:(assignEach (e::es) X.env).map (·.2)=assign e X.env::(assignEach es X.env).map (·.2):=by rfl):Hw X (e::es) (Hg t u):=by
 intro a s f H q y Q I r h;obtain⟨v,x,m,h⟩:=h;subst m;cases r with
 |cons r rr=>
  rw[j];refine assignInOrder_cons (b6 (h1 a s f H _ _ _ I r h) λ_ g ⟨c,o,n,i⟩=>?_);exact l a g c o _ _ Q n rr i
def MN(K:yaI)(n:Nat)(t:C9):TG:=λv e H Q=>∃a c,v=.ref a/\ef K H a c/\c.length=n/\t c e H Q
theorem eN{es:List Expr}{k:Nat}{t:C9}{n:Nat}(C:X.calm=true)(h:Hw X es t)(y:(assignEach es X.env).length=n:=by rfl)(f:(assignEach es X.env).findIdx? (·.1)=none:=by rfl):PG X (.Tuple es k pos) (MN X.K n t):=by
 intro c s g H v u Q I r hw;obtain⟨a,j,F,x,z,hw⟩:=hw;subst F;cases r;obtain⟨l,i,q,L⟩:=I.tuple x;refine assign_Tuple_tuple (I.ok.hd C) q (by simp[y,<-z,i.length]) f λE m=>?_;have G:Inv X c g H {s with heap:=E}:=I.kept (t':=s.toks) λb o e=>m b o (zcv (zcE e)) e;exact h c _ g H j _ Q G (by simpa using i) hw
def DW(te:TE)(g:TG):TS:=λD a H=>te a H λx c=>g x a c D.nx
theorem uG{c e:Expr}{te:TE}{g:TG}(o:PE X e te)(n:PG X c g)(m:swapsWithSole [c] e pos.line X.env=pure false:=by rfl)(hw:swappedStores [c] e X.env=pure none:=by rfl)(h1:(assignEach [c] X.env).map (·.2)=[assign c X.env]:=by rfl):PS X (.Assign [c] e pos) (DW te g):=by
 intro a s f H D I h;refine wpAny_Assign_stores (b6 (o a s f H _ I h) λv i ⟨x,u,t,j,l⟩=>?_) m hw;rw[h1];exact b6 (n a i f u x v _ t j l) λ_ y q=>q
theorem aO{i:Nat}{x:Str}{e:Expr}{te:TE}{a:Pos}(t:X.N.Nodup)(n:X.N[i]? =some x)(l:Loc X.env.scope x)(q:PE X e te)(m:yat e (some (.Name x a)) pos.line X.env=pure false:=by rfl)(o:X.fn x=true∨X.env.scope.names.lookup x=some .local:=by first|exact .inl rfl|exact .inr rfl|assumption):
  PS X (.Assign [.Name x a] e pos) (DW te (xB i)):=by
 intro c s f H D I h;refine wpAny_Assign_Name (b6 (q c s f H _ I h) λv F ⟨y,C,z,g,j⟩=>?_) m;exact lR z t n l g (λE u=>⟨_,C,u,j⟩) o
def z9(c:TT)(tb:TS):TS:=λD a H=>∃W:Nat->St->Hp->Prop,(∃m,W m a H)/\∀m a H,W m a H->
 c a H λb g=>if b=true then∃N:St->Hp->Prop,(∀e h,N e h->∃f,f<m/\W f e h)/\tb {D with nx:=N,ct:=N,bk:=D.nx} a g else D.nx a g
theorem mj{c:Expr}{i:List Stmt}{tc:TT}{tb:TS}(y:PassesOwn (model X.prog X.w) X.A X.env X.xe)(Z:PT X c tc)(hb:tP X i tb):PS X (.While c i [] pos) (z9 tc tb):=by
 intro e s L H D I h;obtain⟨W,⟨Y,P⟩,l⟩:=h;refine wpAny_While (codeAny_whileLoop (λn U=>∃j G,Inv X e j G U/\W n j G) ?_ Y ⟨L,H,I,P⟩);rintro n S ⟨g,F,I1,O⟩;refine wpAny_passesOwn y (b6 (Z e S g F _ I1 (l n g F O)) λb Q ⟨E,C,q2⟩=>?_);cases b with
 |true=>
  obtain⟨N,z,q2⟩:=q2;rw[yIp rfl];refine wpAny_passesOwn y (b6 (hb e Q g E _ C q2) λf s3 q3=>?_);cases f with
  |next=>
   obtain⟨a,m,x,q⟩:=q3;obtain⟨t,u,o⟩:=z a m q;exact⟨t,u,a,m,x,o⟩
  |cont=>
   obtain⟨a,m,x,q⟩:=q3;obtain⟨t,u,o⟩:=z a m q;exact⟨t,u,a,m,x,o⟩
  |brk=>exact q3
  |ret v=>exact q3
 |false=>
  rw[yIn zaS];exact yaF ⟨g,E,C,q2⟩
end
structure It where
 go:Nat->Hp->Prop
 zQ:Nat->Hp->V->Hp->Prop
 stop:Nat->Hp->Prop
def kY(X:Cx)(a:List (Addr×Obj))(H:Hp)(b:Addr):Prop:=
 H b=none/\b≠X.env.locals/\b ∉ X.fs/\(b∈X.ex∨X.s₀.heap.objs.size<=b)/\(∀x c,X.env.cells.lookup x=some c->c≠b)/\∀p∈X.pn++a,p.1≠b
theorem Inv.sD{X:Cx}{a:List (Addr×Obj)}{h:St}{H g:Hp}{s:yah}{b:Addr}(I:Inv X a h H s)(f:s.heap.objs.size<=b)(j:g b=none):kY X a g b:=by
 refine⟨j,zcx (zaQ I.lt f),I.Ml f,.inr (zcw I.sz f),λx c e z=>?_,λp i z=>?_⟩
 ·obtain⟨v,q⟩:=I.cell x c e;exact absurd (zaQ q.lt (by rw[z];exact f)) (zcm _)
 ·exact absurd (zaQ (zcE (I.pin p i).1) (by rw[z];exact f)) (zcm _)
structure Turn(P:yaj)(w:yak)(K:yaI)(tg:Expr)(J:It)(fp:List Addr)(it:Addr)(tn:Nat->Heap->Prop):Prop where
 mem:it∈fp
 obj:∀i h,tn i h->∀b∈fp,∃o,h.get? b=some o/\∀v,o.data≠ .cell v
 keep:∀i h h',tn i h->(∀b∈fp,∀o,h.get? b=some o->h'.get? b=some o)->tn i h'
 item:∀(X:Cx),X.prog=P->X.w=w->X.K=K->X.calm=true->∀(i:Nat)(pins:List (Addr×Obj))(s:yah)(σ:St)(H:Hp)(E:yai->yah->Prop),Inv X pins σ H s->(∀b∈fp,kY X pins H b)->tn i s.heap->J.go i H->
  yar (model P w) X.A (pyNext (.ref it)) (λr s1=>∃u,r=some u/\yar (model P w) X.A (letOwnedTupleGo tg (.ref it) u) (λ_ s2=>∃x H',Inv X pins σ H' s2/\RelV x u/\J.zQ i H x H'/\tn (i+1) s2.heap/\∀b∈fp,H' b=none) E s1) E s
 done:∀(X:Cx),X.prog=P->X.w=w->X.K=K->X.calm=true->∀(i:Nat)(pins:List (Addr×Obj))(s:yah)(σ:St)(H:Hp)(E:yai->yah->Prop),Inv X pins σ H s->(∀b∈fp,kY X pins H b)->tn i s.heap->J.stop i H->
  yar (model P w) X.A (pyNext (.ref it)) (λr s1=>r=none/\Inv X pins σ H s1) E s
 self:∀(A:yal)(i:Nat)(s:yah)(Q:yai->yah->Prop)(E:yai->yah->Prop),tn i s.heap->Q (.ref it) s->yar (model P w) A (pyIter (.ref it)) Q E s
abbrev TI:=St->Hp->(It->Hp->Prop)->Prop
def Pk(X:Cx)(a:List (Addr×Obj))(h:St)(i:Expr)(R:It->Hp->Prop)(c:yai)(f:yah):Prop:=
 ∃(it:Addr)(g:List Addr)(tn:Nat->Heap->Prop)(J:It)(e:Hp),c=.ref it/\Inv X a h e f/\Turn X.prog X.w X.K i J g it tn/\tn 0 f.heap/\(∀b∈g,kY X a e b)/\R J e
def PI(X:Cx)(g c:Expr)(f:TI):Prop:=
 ∀(a:List (Addr×Obj))(s:yah)(e:St)(H:Hp)(R:It->Hp->Prop),Inv X a e H s->f e H R->
  yar (model X.prog X.w) X.A (eval c X.env) (λv h=>yar (model X.prog X.w) X.A (pyIter v) (Pk X a e g R) X.xe h) X.xe s
theorem pP{M:Model}{A:yal}{E:yai->yah->Prop}{s:yah}{c:Expr}{it:Addr}{u:yai}{o:Obj}{n:String}{vs:Array yai}{Q:Unit->yah->Prop}(e:s.heap.get? it=some o)(g:o.cls=.type n)(hd:o.data=.fields vs)(f:["enumerate","zip","dict_itemiterator","dict_reverseitemiterator","odict_iterator","itertools.zip_longest","itertools.pairwise"].contains n=false)(a:Q () s):yar M A (letOwnedTupleGo c (.ref it) u) Q E s:=by
 unfold letOwnedTupleGo;cases c<;>first
  |exact yab a
  |(cases u<;>first|exact yab a|(refine yaa (wpAny_load e ?_);rw[g,hd];show yar M A (if(["enumerate","zip","dict_itemiterator","dict_reverseitemiterator","odict_iterator","itertools.zip_longest","itertools.pairwise"].contains n&&vs[0]? ==some (rawInt _))=true then _ else _) Q E s;rw[yIn (by intro h;rw[f,Bool.false_and] at h;cases h)];exact yab a))
noncomputable def NC(K:yaI)(a:Addr):It:=
 ⟨λi H=>∃c x,cV K H a c/\c[i]? =some x,λi H x e=>e=H/\∀c,cV K H a c->c[i]? =some x,λi H=>∃c,cV K H a c/\c.length<=i⟩
noncomputable def NZ(K:yaI)(a:Addr):It:=
 ⟨λi H=>∃c x,ef K H a c/\c[i]? =some x,λi H x e=>e=H/\∀c,ef K H a c->c[i]? =some x,λi H=>∃c,ef K H a c/\c.length<=i⟩
noncomputable def Pq(a:Int)(n:Nat):It:=⟨λi _=>i<n,λi H x c=>c=H/\x=.int (a+i),λi _=>n<=i⟩
theorem yr{P:yaj}{w:yak}{K:yaI}{tg:Expr}(a it:Addr):Turn P w K tg (NC K a) [it] it (λi h=>h.IsListIter it a i) where
 mem:=by simp
 obj:=λi h f b j=>by
  have e:b=it:=by simpa using j
  subst e;obtain⟨o,e,c,d⟩:=f;exact⟨o,e,λv z=>by rw[d] at z;cases z⟩
 keep:=λi h q f k=>f.at λo e=>k it (by simp) o e
 item:=by
  intro X G hw L Z i g s Y H E I n f F;subst G hw L;obtain⟨xs,x,m,C⟩:=F;obtain⟨y,t,p,hz⟩:=I.list m;obtain⟨u,hu,ru⟩:=t.get C;obtain⟨W,U,f2,S,Q,O⟩:=n it (by simp);refine wpAny_pyNext_list_item f p.isList (x:=u) (by simpa using hu) λq l sb=>?_;have I1:Inv X g Y H {s with heap:=q}:=I.turned (t':=s.toks) (λb o j e=>(sb.2 b j).trans e) W U S Q O;obtain⟨o,e,c,d⟩:=id l;exact⟨u,rfl,pP (s:={s with heap:=q}) e c d (by decide) ⟨x,H,I1,ru,⟨rfl,λys hy=>by rw[I.sj hy m];exact C⟩,l,λb j=>(n b j).1⟩⟩
 done:=by
  intro X G hw L Z i g s Y H E I n f F;subst G hw L;obtain⟨xs,m,C⟩:=F;obtain⟨y,t,p,hz⟩:=I.list m;obtain⟨W,U,f2,S,Q,O⟩:=n it (by simp);have hl:=t.length;exact wpAny_pyNext_list_end (I.ok.hd Z) f p.isList (by simp;lia) λq eb=>⟨rfl,I.turned (t':=s.toks) (λb o j e=>eb b o j e) W U S Q O⟩
 self:=λ_ _ _ _ _ f h=>wpAny_pyIter_listiter f h
theorem uf{P:yaj}{w:yak}{K:yaI}{tg:Expr}(a it:Addr):Turn P w K tg (NZ K a) [it] it (λi h=>h.IsTupleIter it a i) where
 mem:=by simp
 obj:=λi h f b l=>by
  have e:b=it:=by simpa using l
  subst e;obtain⟨o,e,c,d⟩:=f;exact⟨o,e,λv z=>by rw[d] at z;cases z⟩
 keep:=λi h t f k=>f.at λo e=>k it (by simp) o e
 item:=by
  intro X G hw L Z i g s Y H E I q f F;subst G hw L;obtain⟨xs,x,n,C⟩:=F;obtain⟨j,y,p,hz⟩:=I.tuple n;obtain⟨u,hu,ru⟩:=y.get C;obtain⟨W,U,f2,S,Q,O⟩:=q it (by simp);refine wpAny_pyNext_tuple_item f (show s.heap.IsTuple a j.toArray from p) (x:=u) (by simpa using hu) λt m sb=>?_;have I1:Inv X g Y H {s with heap:=t}:=I.turned (t':=s.toks) (λb o l e=>(sb.2 b l).trans e) W U S Q O;obtain⟨o,e,c,d⟩:=id m;exact⟨u,rfl,pP (s:={s with heap:=t}) e c d (by decide) ⟨x,H,I1,ru,⟨rfl,λys hy=>by rw[I.yu hy n];exact C⟩,m,λb l=>(q b l).1⟩⟩
 done:=by
  intro X G hw L Z i g s Y H E I q f F;subst G hw L;obtain⟨xs,n,C⟩:=F;obtain⟨j,y,p,hz⟩:=I.tuple n;obtain⟨W,U,f2,S,Q,O⟩:=q it (by simp);have hl:=y.length;exact wpAny_pyNext_tuple_end (I.ok.hd Z) f (show s.heap.IsTuple a j.toArray from p) (by simp;lia) λt eb=>⟨rfl,I.turned (t':=s.toks) (λb o l e=>eb b o l e) W U S Q O⟩
 self:=λ_ _ _ _ _ f h=>wpAny_pyIter_tupleiter f h
theorem ug{P:yaj}{w:yak}{K:yaI}{U:Expr}(it:Addr)(j:Int)(n:Nat):Turn P w K U (Pq j n) [it] it (λi h=>IsRangeIter h it (j+(i:Nat)*1) ((n:Int) - (i:Nat)) 1) where
 mem:=by simp
 obj:=λi h a b f=>by
  have e:b=it:=by simpa using f
  subst e;exact⟨_,a,λv z=>by
   have S:Data.fields _=Data.cell v:=z;cases S⟩
 keep:=λi h m a k=>k it (by simp) _ a
 item:=by
  intro X x hw y u i c s Q H E I l a q;subst x hw y;obtain⟨O,L,Z,G,F,C⟩:=l it (by simp);have W:=Walks.range (prog:=X.prog) (w:=X.w) (I.ok.hd u) it j 1 n;refine W.item i s _ _ q a λv m tk Y g kk=>?_;obtain⟨t,rfl⟩:=Y;have I1:Inv X c Q H {s with heap:=m,toks:=tk}:=I.turned (λb o f e=>kk b o (by simpa using f) e) O L G F C;refine⟨_,rfl,pP (s:={s with heap:=m,toks:=tk}) (n:="range_iterator") g rfl rfl (by decide) ⟨.int (j+i),H,I1,⟨t,?_⟩,⟨rfl,rfl⟩,g,λb f=>(l b f).1⟩⟩;rw[Int.mul_one]
 done:=by
  intro X x hw y u i c s Q H E I l a q;subst x hw y;obtain⟨O,L,Z,G,F,C⟩:=l it (by simp);exact wpAny_pyNext_range_end (I.ok.hd u) a (by have:n<=i:=q;lia) λm eb=>⟨rfl,I.turned (t':=s.toks) (λb o f e=>eb b o f e) O L G F C⟩
 self:=λ_ _ _ _ _ a h=>wpAny_pyIter_rangeiter a h
section
variable {X:Cx}{tg:Expr}
theorem Bt{f:List (Addr×Obj)}{g:St}{H:Hp}{s:yah}{R:It->Hp->Prop}{E:yai->yah->Prop}{a c:Int}{t u v:Tok}{tk:Nat}(I:Inv X f g H s)(h1: -(2 ^ 62)<=a)(m:a<2 ^ 62)(l: -(2 ^ 62)<=c)(j:c<2 ^ 62)(q:R (Pq a (c - a).toNat) H):yar (model X.prog X.w) X.A (pyIter (.ref s.heap.objs.size)) (Pk X f g tg R) E {s with heap:=s.heap.push {cls:=.type "range",data:=.fields #[.int a t,.int c u,.int 1 v]},toks:=tk}:=by
 refine wpAny_pyIter_range (IsRange.new ..) (small_one h1 m l j) ?_;have h:Inv X f g H {s with heap:=s.heap.push {cls:=.type "range",data:=.fields #[.int a t,.int c u,.int 1 v]},toks:=tk}:=I.kept λb o e=>zaq _ e;refine⟨(s.heap.push {cls:=.type "range",data:=.fields #[.int a t,.int c u,.int 1 v]}).objs.size,[(s.heap.push {cls:=.type "range",data:=.fields #[.int a t,.int c u,.int 1 v]}).objs.size],_,_,H,rfl,h.kept (t':=tk) λb o e=>zaq _ e,ug _ a (c - a).toNat,?_,λb i=>?_,q⟩
 ·have x:a+((0:Nat):Int)*1=a:=by simp
  have n:(((c - a).toNat:Nat):Int) - ((0:Nat):Int)=Builtin.Range.rangeSize a c 1:=by rw[rangeSize_one];split<;>lia
  show IsRangeIter _ _ (a+((0:Nat):Int)*1) ((((c - a).toNat:Nat):Int) - ((0:Nat):Int)) 1;rw[x,n];exact zaJ _ rfl
 ·have e:b=(s.heap.push {cls:=.type "range",data:=.fields #[.int a t,.int c u,.int 1 v]}).objs.size:=by simpa using i
  subst e;exact h.sD (zcH _) (h.hok.fresh (zcH _))
def G6(e:TA):TI:=λa H R=>e a H λc f=>∃j:Int,c=[.int j]/\-(2 ^ 62)<=j/\j<2 ^ 62/\R (Pq 0 j.toNat) f
theorem bN{a:Expr}{i:TA}{p c:Pos}(u:Gl X "range")(o:X.mg "range"=none)(v:PA X [a] i)(n:yao [a] X.env=[(false,eval a X.env)]:=by rfl):PI X tg (.Call (.Name "range" p) [a] [] c) (G6 i):=by
 intro f s l H R I h;refine Call_ (iM I u o boot_range (PyProof.Rows.callWith_type1 (b6 (v c f s l H _ I h) λz C ⟨y,E,x,m,g⟩=>?_) n rfl));obtain⟨j,e,g,q2,q⟩:=g;subst e;cases m with
 |cons r rr=>
  cases rr;obtain⟨t,rfl⟩:=r;exact call_range_1 (Bt x (by lia) (by lia) g q2 (by simpa using q))
def Lo(j:TI)(g:TG)(tb:TS):TS:=λD a H=>j a H λJ n=>∃W:Nat->Nat->St->Hp->Prop,(∃m,W 0 m a n)/\∀i m a H,W i m a H->
 (J.stop i H/\D.nx a H)∨(J.go i H/\∃N:St->Hp->Prop,(∀c e,N c e->∃h,h<m/\W (i+1) h c e)/\∀x e,J.zQ i H x e->g x a e λf l=>tb {D with nx:=N,ct:=N,bk:=D.nx} f l)
noncomputable def mF(fp:List Addr)(h:Heap):List (Addr×Obj):=fp.filterMap λb=>(h.get? b).map λo=>(b,o)
theorem f7{fp:List Addr}{h:Heap}{b:Addr}{o:Obj}(a:b∈fp)(e:h.get? b=some o):(b,o)∈mF fp h:=List.mem_filterMap.mpr ⟨b,a,by rw[e];rfl⟩
theorem yK{fp:List Addr}{h:Heap}{p:Addr×Obj}(a:p∈mF fp h):p.1∈fp/\h.get? p.1=some p.2:=by
 obtain⟨b,c,e⟩:=List.mem_filterMap.mp a;cases q:h.get? b with
 |none=>rw[q] at e;cases e
 |some o=>
  rw[q] at e;have f:(b,o)=p:=zcJ.inj e;subst f;exact⟨c,q⟩
theorem Inv.pinned{a:List (Addr×Obj)}{c:St}{H:Hp}{s:yah}{fp:List Addr}(I:Inv X a c H s)(j:∀b∈fp,kY X a H b)(i:∀b∈fp,∃o,s.heap.get? b=some o/\∀v,o.data≠ .cell v):Inv X (a++mF fp s.heap) c H s:=
 I.i0 λp h=>(zbJ.mp h).elim (λz=>I.pin p (zat _ z)) λz=>by
  obtain⟨f,e⟩:=yK z;obtain⟨n,m,l,_⟩:=j p.1 f;obtain⟨o,g,d⟩:=i p.1 f;rw[e] at g;cases g;exact⟨e,n,m,l,d⟩
theorem Inv.gC{a pl:List (Addr×Obj)}{c:St}{H:Hp}{s:yah}(I:Inv X (a++pl) c H s):Inv X a c H s:=I.i0 λp e=>I.pin p (zat _ (zaA _ e))
theorem cA{q:Expr}{G:List Stmt}{wi:TI}{g:TG}{tb:TS}{pos:Pos}(S:PassesOwn (model X.prog X.w) X.A X.env X.xe)(hc:X.calm=true)(hi:PI X tg q wi)(hg:PG X tg g)(t:tP X G tb)(hs:∀x,foldedSetIterable q X.env x=pure x:=by intro _;rfl):PS X (.For tg q G [] pos) (Lo wi g tb):=by
 intro c s σ H D I h;refine wpAny_For (b6 (hi c s σ H _ I h) λv s1 h1=>b6 h1 λitv s2 h2=>?_) hs;obtain⟨it,Y,tn,J,H2,e,I2,T,st2,f2,W,⟨m0,w0⟩,O⟩:=h2;subst e;have HP:∀{E:Hp},(∀b∈Y,E b=none)->∀b∈Y,kY X c E b:=λhn b t=>⟨hn b t,(f2 b t).2⟩
 refine codeAny_forLoop_any (λn s'=>∃i l E,Inv X c l E s'/\tn i s'.heap/\(∀b∈Y,E b=none)/\W i n l E) ?_ m0 ⟨0,σ,H2,I2,st2,λb t=>(f2 b t).1,w0⟩;rintro n s3 ⟨i,j,Z,I3,P,U,w3⟩;rcases O i n j Z w3 with⟨stop,qn⟩|⟨go,N,hN,step⟩
 ·refine wpAny_passesOwn S (b6 (T.done X rfl rfl rfl hc i c s3 j Z X.xe I3 (HP U) P stop) λr s4 ⟨hr,I4⟩=>?_);subst hr;exact yaF ⟨j,Z,I4,qn⟩
 ·refine wpAny_passesOwn S (b6 (T.item X rfl rfl rfl hc i c s3 j Z X.xe I3 (HP U) P go) λr s4 ⟨u,hr,h4⟩=>?_);subst hr;refine wpAny_passesOwn S (b6 h4 λ_ s5 ⟨x,H5,I5,r5,y5,L,fr5⟩=>?_);have I5':=I5.pinned (HP fr5) (T.obj _ _ L);refine wpAny_passesOwn S (b6 (hg _ s5 j H5 x u _ I5' r5 (step x H5 y5)) λ_ s6 ⟨σ6,H6,I6,q6⟩=>?_);refine wpAny_passesOwn S (b6 (t _ s6 σ6 H6 _ I6 q6) λf s7 F=>?_);have y:∀{a:St}{C:Hp},Inv X (c++mF Y s5.heap) a C s7->N a C->∃m,m<n/\∃i l E,Inv X c l E s7/\tn i s7.heap/\(∀b∈Y,E b=none)/\W i m l E:=λ{a C} z Q=>by
   obtain⟨m',hm,w7⟩:=hN a C Q;refine⟨m',hm,i+1,a,C,z.gC,T.keep _ _ _ L λb t o e=>(z.pin (b,o) (zat _ (zat _ (f7 t e)))).1,λb t=>?_,w7⟩;obtain⟨o,e,d⟩:=T.obj _ _ L b t;exact(z.pin (b,o) (zat _ (zat _ (f7 t e)))).2.1
  cases f with
  |next=>obtain⟨a,C,z,Q⟩:=F;exact y z Q
  |cont=>obtain⟨a,C,z,Q⟩:=F;exact y z Q
  |brk=>obtain⟨a,C,z,F⟩:=F;exact⟨a,C,z.gC,F⟩
  |ret v=>obtain⟨x7,a,C,z,r7,F⟩:=F;exact⟨x7,a,C,z.gC,r7,F⟩
end
abbrev R2:=V->V->Hp->VK->Prop
def fG(X:Cx)(f:yai->yai->Sem yai)(r:R2):Prop:=
 ∀(a:List (Addr×Obj))(s:yah)(c:St)(H:Hp)(x y:V)(v u:yai)(Q:VK),Inv X a c H s->RelV x v->RelV y u->r x y H Q->
  yar (model X.prog X.w) X.A (f v u) (EP X a c Q) X.xe s
def K8(X:Cx)(f:yai->Sem yai)(r:V->Hp->VK->Prop):Prop:=
 ∀(a:List (Addr×Obj))(s:yah)(c:St)(H:Hp)(x:V)(v:yai)(Q:VK),Inv X a c H s->RelV x v->r x H Q->
  yar (model X.prog X.w) X.A (f v) (EP X a c Q) X.xe s
def bW(X:Cx)(f:yai)(r:List V->Hp->VK->Prop):Prop:=
 ∀(a:List (Addr×Obj))(s:yah)(c:St)(H:Hp)(e:List V)(g:List yai)(Q:VK),Inv X a c H s->Vals e g->r e H Q->
  yar (model X.prog X.w) X.A (call f g) (EP X a c Q) X.xe s
def Pj(X:Cx)(r:V->Hp->(Bool->Hp->Prop)->Prop):Prop:=
 ∀(a:List (Addr×Obj))(s:yah)(c:St)(H:Hp)(x:V)(v:yai)(Q:Bool->Hp->Prop),Inv X a c H s->RelV x v->r x H Q->
  yar (model X.prog X.w) X.A (truthy v) (TP X a c Q) X.xe s
def Lk(r:R2)(c tb:TE):TE:=λa H Q=>c a H λx f=>tb a f λy e=>r x y e Q
def Pw(r:V->Hp->VK->Prop)(c:TE):TE:=λa H Q=>c a H λx e=>r x e Q
def rI(C:Int->Int->Prop)(g:Int->Int->V):R2:=λx y H Q=>∃i j,x=.int i/\y=.int j/\C i j/\Q (g i j) H
def GP(g:Int->Int->V):R2:=λx y H Q=>∃i j,x=.int i/\y=.int j/\Q (g i j) H
def rU(g:Int->V):V->Hp->VK->Prop:=λx H Q=>∃i,x=.int i/\Q (g i) H
section
variable {X:Cx}{a b c:Expr}{ta tb tc:TE}{pos:Pos}
theorem Kz(F:PE X a ta)(E:PE X b tb){e:List (Addr×Obj)}{s:yah}{g:St}{H:Hp}{R:V->V->Hp->Prop}(I:Inv X e g H s)(h:ta g H λx n=>tb g n λy i=>R x y i){Q:yai->yah->Prop}{f:yai->yai->Sem yai}(C:∀v u m x y i,Inv X e g i m->RelV x v->RelV y u->R x y i->yar (model X.prog X.w) X.A (f v u) Q X.xe m):
  yar (model X.prog X.w) X.A (eval a X.env) (λv l=>yar (model X.prog X.w) X.A (eval b X.env) (λu j=>yar (model X.prog X.w) X.A (f v u) Q X.xe j) X.xe l) X.xe s:=by
 refine b6 (F e s g H _ I h) λv o ⟨x,n,L,t,z⟩=>?_;refine b6 (E e o g n _ L z) λu m ⟨y,i,G,q,q2⟩=>?_;exact C v u m x y i G t q q2
theorem av{f:Operator}{r:R2}(m:fG X (binaryOp f) r)(o:PE X a ta)(n:PE X b tb):PE X (.BinOp a f b pos) (Lk r ta tb):=by
 intro e s g H Q I h;exact wpAny_BinOp (Kz o n I h λv u i x y z t l j q=>m e i g z x y v u Q t l j q)
theorem BH{g:UnaryOp}{r:V->Hp->VK->Prop}(m:K8 X (unaryOp g) r)(n:PE X a ta):PE X (.UnaryOp g a pos) (Pw r ta):=by
 intro e s f H Q I h;exact UnaryOp_ (b6 (n e s f H _ I h) λv i ⟨x,q,o,j,l⟩=>m e i f q x v Q o j l)
theorem NP{f:yai->yai->Sem yai}{C:Int->Int->Prop}{g:Int->Int->Int}(e:∀(i j:Int)(t u:Tok)(s:yah)(Q:yai->yah->Prop)(E:yai->yah->Prop),C i j->Q (.int (g i j) s.toks) {s with toks:=s.toks+1}->yar (model X.prog X.w) X.A (f (.int i t) (.int j u)) Q E s):
  fG X f (rI C λi j=>.int (g i j)):=by
 intro l s F H x y v u Q I o n h;obtain⟨i,j,rfl,rfl,z,q⟩:=h;obtain⟨t,rfl⟩:=o;obtain⟨m,rfl⟩:=n;exact e i j t m s _ _ z ⟨.int (g i j),H,I.tok _,⟨_,rfl⟩,q⟩
theorem Ma{f:yai->yai->Sem yai}{g:Int->Int->Int}(e:∀(i j:Int)(t u:Tok)(s:yah)(Q:yai->yah->Prop)(E:yai->yah->Prop),Q (.int (g i j) s.toks) {s with toks:=s.toks+1}->yar (model X.prog X.w) X.A (f (.int i t) (.int j u)) Q E s):
  fG X f (GP λi j=>.int (g i j)):=by
 intro l s z H x y v u Q I o n h;obtain⟨i,j,rfl,rfl,q⟩:=h;obtain⟨t,rfl⟩:=o;obtain⟨m,rfl⟩:=n;exact e i j t m s _ _ ⟨.int (g i j),H,I.tok _,⟨_,rfl⟩,q⟩
theorem Jw{f:yai->yai->Sem yai}{g:Int->Int->Bool}(e:∀(i j:Int)(t u:Tok)(s:yah)(Q:yai->yah->Prop)(E:yai->yah->Prop),Q (.bool (g i j)) s->yar (model X.prog X.w) X.A (f (.int i t) (.int j u)) Q E s):
  fG X f (GP λi j=>.bl (g i j)):=by
 intro l s z H x y v u Q I o n h;obtain⟨i,j,rfl,rfl,q⟩:=h;obtain⟨t,rfl⟩:=o;obtain⟨m,rfl⟩:=n;exact e i j t m s _ _ ⟨.bl (g i j),H,I,rfl,q⟩
def K0(i j:Int):Prop:=0<j/\j<1073741824
def NI(i j:Int):Prop:=0<=j/\j<=1000000/\i.natAbs<2 ^ 64
def zJ(i j:Int):Prop:=(-(2 ^ 64)<i/\i<2 ^ 64)∨(-(2 ^ 64)<j/\j<2 ^ 64)
theorem zJ.ok{i j:Int}(h:zJ i j):IntMulOk i j:=by
 rcases h with⟨f,e⟩|⟨f,e⟩
 ·exact .of_left (intBits_le_64 f e)
 ·exact .of_right (intBits_le_64 f e)
theorem Jv:fG X (binaryOp .Add) (GP λi j=>.int (i+j)):=Ma λ_ _ _ _ _ _ _ q=>add_int q
theorem Ji:fG X (binaryOp .Sub) (GP λi j=>.int (i - j)):=Ma λ_ _ _ _ _ _ _ q=>sub_int q
theorem Jm:fG X (binaryOp .Mult) (rI zJ λi j=>.int (i*j)):=NP λ_ _ _ _ _ _ _ e q=>mul_int q e.ok
theorem EM:fG X (binaryOp .FloorDiv) (rI K0 λi j=>.int (i / j)):=NP λi j _ _ _ _ _ e q=>by
 have g:(0:Int)<j:=e.1;have f:j<1073741824:=e.2;exact floordiv_int (by lia) (by rw[Int.fdiv_eq_ediv_of_nonneg i (by lia)];exact q) (.inl (PyProof.noPylong_small (by lia)))
theorem Jo:fG X (binaryOp .Mod) (rI (λ_ j=>0<j) λi j=>.int (i % j)):=NP λi j _ _ _ _ _ e q=>by
 have f:(0:Int)<j:=e;exact mod_int' (by lia) (by rw[Int.fmod_eq_emod_of_nonneg i (by lia)];exact q)
theorem Jk:fG X (binaryOp .Pow) (rI NI λi j=>.int (i ^ j.toNat)):=NP λ_ _ _ _ _ _ _ e q=>pow_int_small e.1 e.2.1 e.2.2 q
theorem unI{f:yai->Sem yai}{g:Int->Int}(e:∀(i:Int)(t:Tok)(s:yah)(Q:yai->yah->Prop)(E:yai->yah->Prop),Q (.int (g i) s.toks) {s with toks:=s.toks+1}->yar (model X.prog X.w) X.A (f (.int i t)) Q E s):
  K8 X f (rU λi=>.int (g i)):=by
 intro j s m H x v Q I l h;obtain⟨i,rfl,q⟩:=h;obtain⟨t,rfl⟩:=l;exact e i t s _ _ ⟨.int (g i),H,I.tok _,⟨_,rfl⟩,q⟩
theorem HC:K8 X (unaryOp .USub) (rU λi=>.int (-i)):=unI λ_ _ _ _ _ q=>neg_int q
end
noncomputable def Lu:V->V->Bool
 |.bq,.bq=>true|.bq,.int _=>true|.int _,.bq=>true|.bq,.bl _=>true|.bl _,.bq=>true|.bq,.str _=>true|.str _,.bq=>true
 |.int _,.int _=>true|.bl _,.bl _=>true|.str _,.str _=>true|.t7 _,.t7 _=>true
 |.int _,.str _=>true|.str _,.int _=>true|.bl _,.str _=>true|.str _,.bl _=>true
 |_,_=>false
def rEq:R2:=λx y H Q=>Lu x y=true/\Q (.bl (decide (x=y))) H
def rNe:R2:=λx y H Q=>Lu x y=true/\Q (.bl (!decide (x=y))) H
theorem xH{i j:Int}:decide (V.int i=V.int j)=(i==j):=by
 rw[Bool.eq_iff_iff];simp
theorem Cv{i j:Bool}:decide (V.bl i=V.bl j)=(i==j):=by
 rw[Bool.eq_iff_iff];simp
theorem xG{i j:Str}:decide (V.str i=V.str j)=(i==j):=by
 rw[Bool.eq_iff_iff];simp
theorem xJ{i j:Array UInt8}:decide (V.t7 i=V.t7 j)=(i.toList==j.toList):=by
 rw[Bool.eq_iff_iff];cases i;cases j;simp
section
variable {X:Cx}{a b c:Expr}{ta tb tc:TE}{pos:Pos}
theorem aX{f:List (Addr×Obj)}{g:St}{H:Hp}{s:yah}{Q:VK}{k h:Bool}(I:Inv X f g H s)(q:Q (.bl k) H)(e:k=h):EP X f g Q (.bool h) s:=by
 subst e;exact⟨.bl k,H,I,rfl,q⟩
theorem L8:fG X (yan .Eq) rEq:=by
 intro m s n H x y v u Q I l e h;obtain⟨g,q⟩:=h;cases x with
 |bq=>
  cases l;cases y with
  |bq=>cases e;exact PySem.EqNone.eq_none_none (aX I q (by simp))
  |bl j=>cases e;exact PySem.EqNone.eq_none_bool (aX I q (by simp))
  |int j=>obtain⟨f,rfl⟩:=e;exact PySem.EqNone.eq_none_int (aX I q (by simp))
  |str j=>obtain⟨f,rfl⟩:=e;exact PySem.EqNone.eq_none_str (aX I q (by simp))
  |_=>exact absurd (show false=true from g) zaS
 |bl i=>
  cases l;cases y with
  |bq=>cases e;exact PySem.EqNone.eq_bool_none (aX I q (by simp))
  |bl j=>cases e;exact eq_bool (aX I q Cv)
  |str j=>obtain⟨f,rfl⟩:=e;exact PySem.EqMixed.eq_bool_str (aX I q (by simp))
  |_=>exact absurd (show false=true from g) zaS
 |int i=>
  obtain⟨t,rfl⟩:=l;cases y with
  |bq=>cases e;exact PySem.EqNone.eq_int_none (aX I q (by simp))
  |int j=>obtain⟨f,rfl⟩:=e;exact eq_int (aX I q xH)
  |str j=>obtain⟨f,rfl⟩:=e;exact PySem.EqMixed.eq_int_str (aX I q (by simp))
  |_=>exact absurd (show false=true from g) zaS
 |str i=>
  obtain⟨t,rfl⟩:=l;cases y with
  |bq=>cases e;exact PySem.EqNone.eq_str_none (aX I q (by simp))
  |bl j=>cases e;exact PySem.EqMixed.eq_str_bool (aX I q (by simp))
  |int j=>obtain⟨f,rfl⟩:=e;exact PySem.EqMixed.eq_str_int (aX I q (by simp))
  |str j=>obtain⟨f,rfl⟩:=e;exact eq_str (aX I q xG)
  |_=>exact absurd (show false=true from g) zaS
 |t7 i=>
  obtain⟨t,rfl⟩:=l;cases y with
  |t7 j=>obtain⟨f,rfl⟩:=e;exact PySem.W.eq_bytes (aX I q xJ)
  |_=>exact absurd (show false=true from g) zaS
 |_=>cases y<;>exact absurd (show false=true from g) zaS
theorem L4:fG X (yan .NotEq) rNe:=by
 intro m s n H x y v u Q I l e h;obtain⟨g,q⟩:=h;cases x with
 |bq=>
  cases l;cases y with
  |bq=>cases e;exact PySem.EqNone.ne_none_none (aX I q (by simp))
  |bl j=>cases e;exact PySem.EqNone.ne_none_bool (aX I q (by simp))
  |int j=>obtain⟨f,rfl⟩:=e;exact PySem.EqNone.ne_none_int (aX I q (by simp))
  |str j=>obtain⟨f,rfl⟩:=e;exact PySem.EqNone.ne_none_str (aX I q (by simp))
  |_=>exact absurd (show false=true from g) zaS
 |bl i=>
  cases l;cases y with
  |bq=>cases e;exact PySem.EqNone.ne_bool_none (aX I q (by simp))
  |bl j=>cases e;exact ne_bool (aX I q (congrArg not Cv))
  |str j=>obtain⟨f,rfl⟩:=e;exact PySem.EqMixed.ne_bool_str (aX I q (by simp))
  |_=>exact absurd (show false=true from g) zaS
 |int i=>
  obtain⟨t,rfl⟩:=l;cases y with
  |bq=>cases e;exact PySem.EqNone.ne_int_none (aX I q (by simp))
  |int j=>obtain⟨f,rfl⟩:=e;exact ne_int (aX I q (congrArg not xH))
  |str j=>obtain⟨f,rfl⟩:=e;exact PySem.EqMixed.ne_int_str (aX I q (by simp))
  |_=>exact absurd (show false=true from g) zaS
 |str i=>
  obtain⟨t,rfl⟩:=l;cases y with
  |bq=>cases e;exact PySem.EqNone.ne_str_none (aX I q (by simp))
  |bl j=>cases e;exact PySem.EqMixed.ne_str_bool (aX I q (by simp))
  |int j=>obtain⟨f,rfl⟩:=e;exact PySem.EqMixed.ne_str_int (aX I q (by simp))
  |str j=>obtain⟨f,rfl⟩:=e;exact ne_str (aX I q (congrArg not xG))
  |_=>exact absurd (show false=true from g) zaS
 |t7 i=>
  obtain⟨t,rfl⟩:=l;cases y with
  |t7 j=>obtain⟨f,rfl⟩:=e;exact PySem.W.ne_bytes (aX I q (congrArg not xJ))
  |_=>exact absurd (show false=true from g) zaS
 |_=>cases y<;>exact absurd (show false=true from g) zaS
theorem L5:fG X (yan .Lt) (GP λi j=>.bl (decide (i<j))):=Jw λ_ _ _ _ _ _ _ q=>lt_int q
theorem L6:fG X (yan .LtE) (GP λi j=>.bl (decide (i<=j))):=Jw λ_ _ _ _ _ _ _ q=>le_int q
theorem L7:fG X (yan .GtE) (GP λi j=>.bl (decide (j<=i))):=Jw λ_ _ _ _ _ _ _ q=>ge_int q
theorem yI:fG X (yan .Lt) (λx y H Q=>∃i j,x=.str i/\y=.str j/\Q (.bl (decide (i.cps.toList<j.cps.toList))) H):=by
 intro e s l H x y v u Q I g f h;obtain⟨i,j,rfl,rfl,q⟩:=h;obtain⟨t,rfl⟩:=g;obtain⟨m,rfl⟩:=f;exact lt_str (aX I q rfl)
theorem bf(b:Expr){e:CmpOp}(h:e≠ .In:=by decide)(f:e≠ .NotIn:=by decide):behindInMarks e b=false:=by
 have i:(e==CmpOp.In)=false:=by cases e<;>first|rfl|exact absurd rfl h
 have g:(e==CmpOp.NotIn)=false:=by cases e<;>first|rfl|exact absurd rfl f
 cases b<;>simp[behindInMarks,i,g]
theorem cZ{f:CmpOp}{r:R2}(m:fG X (yan f) r)(t:PE X a ta)(o:PE X b tb)(n:behindInMarks f b=false):PE X (.Compare a [f] [b] pos) (Lk r ta tb):=by
 intro e s g H Q I h;exact wpAny_Compare1 (Kz t o I h λv u i x y C z l j q=>m e i g C x y v u Q z l j q) n
def Gk(t:TE):TT:=λe H Q=>t e H λx f=>∃k,x=.bl k/\Q k f
theorem aH{i:CmpOp}{r:R2}(t:fG X (yan i) r)(F:PE X a ta)(E:PE X b tb)(C:behindInMarks i b=false):PT X (.Compare a [i] [b] pos) (Gk (Lk r ta tb)):=by
 intro f s g H Q I h;refine wpAny_isTrue_Compare1 (b6 (F f s g H _ I h) λv l ⟨x,U,O,o,q⟩=>b6 (E f l g U _ O q) λu j ⟨y,S,L,n,q2⟩=>b6 (t f j g S x y v u _ L o n q2) λc W ⟨z,P,G,m,k,e,q3⟩=>?_) C;subst e;cases m;exact wpAny_truthy_bool ⟨P,G,q3⟩
def Ai(r h:R2)(ta tb tc:TE):TE:=λe H Q=>ta e H λx l=>tb e l λy j=>r x y j λz f=>∃k,z=.bl k/\
 (if k=true then tc e f λg i=>h y g i Q else Q (.bl false) f)
theorem mh{j g:CmpOp}{r n:R2}(Z:fG X (yan j) r)(l:fG X (yan g) n)(ha:PE X a ta)(hb:PE X b tb)(hc:PE X c tc)(hm:lastMarks [j,g] [b,c]=false:=by with_unfolding_all rfl):PT X (.Compare a [j,g] [b,c] pos) (Gk (Ai r n ta tb tc)):=by
 intro f s i H Q I h;refine isTrue_chain (b6 (ha f s i H _ I h) λv L ⟨x,H1,I1,U,W⟩=>test_link (b6 (hb f L i H1 _ I1 W) λu G ⟨y,H2,I2,m,q2⟩=>b6 (Z f G i H2 x y v u _ I2 U m q2) λd F ⟨z,q,o,S,k,e,q3⟩=>?_)) hm;subst e;cases S;refine wpAny_truthy_bool ?_;cases k with
 |false=>
  obtain⟨k',e',Y⟩:=q3;cases e';exact ite_ff ⟨q,o,Y⟩
 |true=>
  refine ite_tt (test_last (b6 (hc f F i q _ o q3) λC E ⟨t,H4,I4,P,q4⟩=>b6 (l f E i H4 y t u C _ I4 m P q4) λd' s5 ⟨z2,H5,I5,O,k2,e2,q5⟩=>?_));subst e2;cases O;exact wpAny_truthy_bool ⟨H5,I5,q5⟩
def C8(K:yaI)(x:V)(H:Hp)(k:Bool):Prop:=
 match x with
 |.bq=>k=false
 |.bl b=>k=b
 |.int i=>k=(i != 0)
 |.str y=>y.length<=yag/\k=((y.length:Int) != 0)
 |.t7 y=>y.size<=yag/\k=((y.size:Int) != 0)
 |.ref p=>(∃e,cV K H p e/\k= !e.isEmpty)∨(∃e,ef K H p e/\k= !e.isEmpty)∨∃f,H p=some (.dK f)/\k= !f.isEmpty
 |_=>False
theorem u5{κ:Type}{kvs:List (κ×V)}{vs:List (κ×yai)}(r:KV kvs vs):(!vs.isEmpty)= !kvs.isEmpty:=by
 cases r<;>rfl
theorem nj{e:List V}{its:List yai}(r:Vals e its):(!its.toArray.isEmpty)= !e.isEmpty:=by
 cases r<;>simp
theorem m7:(yag:Nat)<2 ^ 63:=by rw[yaf];decide
theorem HH:Pj X (λx H Q=>∃k,C8 X.K x H k/\Q k H):=by
 intro C s L H x v Q I n h;obtain⟨k,e,q⟩:=h;have S:=m7;have O:yag=16777216:=yaf;cases x with
 |bq=>
  cases n;have f:k=false:=e;subst f;exact truthy_none ⟨H,I,q⟩
 |bl b=>
  cases n;have f:k=b:=e;subst f;exact wpAny_truthy_bool ⟨H,I,q⟩
 |int i=>
  obtain⟨t,rfl⟩:=n;have f:k=(i != 0):=e;subst f;exact PySem.P.truthy_int ⟨H,I,q⟩
 |str y=>
  obtain⟨t,rfl⟩:=n;obtain⟨F,f⟩:y.length<=yag/\k=((y.length:Int) != 0):=e;subst f;exact PySem.P.truthy_str (by lia) ⟨H,I.tok _,q⟩
 |t7 y=>
  obtain⟨t,rfl⟩:=n;obtain⟨F,f⟩:y.size<=yag/\k=((y.size:Int) != 0):=e;subst f;exact PySem.W.truthy_bytes (by lia) ⟨H,I.tok _,q⟩
 |ref p=>
  cases n;have f:(∃l,cV X.K H p l/\k= !l.isEmpty)∨(∃l,ef X.K H p l/\k= !l.isEmpty)∨∃g,H p=some (.dK g)/\k= !g.isEmpty:=e;rcases f with⟨l,o,f⟩|⟨l,o,f⟩|⟨g,o,f⟩
  ·subst f;obtain⟨z,r,pl,E⟩:=I.list o;have j:=r.length;exact wpAny_truthy_list pl.isList (by simp only[zaX];lia) ⟨H,I.tok _,by rw[nj r];exact q⟩
  ·subst f;obtain⟨z,r,pl,E⟩:=I.tuple o;have j:=r.length;exact truthy_tuple pl (by simp only[zaX];lia) ⟨H,I.tok _,by rw[nj r];exact q⟩
  ·subst f;obtain⟨E,G,u,r,m⟩:g.length<=yag/\(p==yas)=false/\∃u,KV g u/\s.heap.DictOf (bM X.prog X.w) p u:=I.hok p _ o;have j:g.length=u.length:=Paired.length r;exact wpAny_truthy_dict G m (by lia) ⟨H,I.tok _,by rw[u5 r];exact q⟩
 |_=>exact(show False from e).elim
theorem BD(o:PE X a ta)(n:∀e,isTrue a X.env e=(do let v <-e;standAt a.pos;holding [v] (truthy v))):
  PT X a (λg H Q=>ta g H λx i=>∃k,C8 X.K x i k/\Q k i):=by
 intro f s g H Q I h;exact isTrue_plain (b6 (o f s g H _ I h) λv j ⟨x,t,q,l,m⟩=>HH f j g t x v Q q l m) (n _)
theorem uO:fG X (binaryOp .Add) (λx y H Q=>∃i j,x=.str i/\y=.str j/\i.length+j.length<=yag/\Q (.str (i++j)) H):=by
 intro e s n H x y v u Q I l g h;obtain⟨i,j,rfl,rfl,m,q⟩:=h;obtain⟨t,rfl⟩:=l;obtain⟨f,rfl⟩:=g;exact add_str (λf tk=>⟨.str (i++j),H,I.tok _,⟨_,rfl⟩,q⟩) m
theorem vals1{x:V}{us:List yai}(r:Vals [x] us):∃u,us=[u]/\RelV x u:=by
 cases r with
 |cons r1 r2=>cases r2;exact⟨_,rfl,r1⟩
theorem vals2{x y:V}{us:List yai}(r:Vals [x,y] us):∃u e,us=[u,e]/\RelV x u/\RelV y e:=by
 cases r with
 |cons r1 r2=>
  cases r2 with
  |cons r3 r4=>cases r4;exact⟨_,_,rfl,r1,r3⟩
def Po(K:yaI)(x:V)(H:Hp)(n:Nat):Prop:=
 match x with
 |.str y=>y.length<=yag/\n=y.length
 |.t7 y=>y.size<=yag/\n=y.size
 |.ref p=>(∃e,cV K H p e/\n=e.length)∨∃e,ef K H p e/\n=e.length
 |_=>False
theorem CD:bW X (.builtin "len") (λf H Q=>∃x n,f=[x]/\Po X.K x H n/\Q (.int n) H):=by
 intro v s E H f F Q I r h;obtain⟨x,n,rfl,e,q⟩:=h;obtain⟨u,rfl,j⟩:=vals1 r;have L:=m7;have G:yag=16777216:=yaf;cases x with
 |str y=>
  obtain⟨t,rfl⟩:=j;obtain⟨C,i⟩:y.length<=yag/\n=y.length:=e;subst i;exact len_str (by lia) ⟨.int _,H,I.tok _,⟨_,rfl⟩,q⟩
 |t7 y=>
  obtain⟨t,rfl⟩:=j;obtain⟨C,i⟩:y.size<=yag/\n=y.size:=e;subst i;exact PySem.W.len_bytes (by lia) ⟨.int _,H,I.tok _,⟨_,rfl⟩,q⟩
 |ref p=>
  cases j;have i:(∃f,cV X.K H p f/\n=f.length)∨∃f,ef X.K H p f/\n=f.length:=e;rcases i with⟨f,o,i⟩|⟨f,o,i⟩
  ·subst i;obtain⟨m,l,pl,z⟩:=I.list o;have g:=l.length;exact Calls.call_len_list pl.isList (by simp only[zaX];lia) ⟨.int f.length,H,I.tok _,⟨_,by simp only[zaX];rw[g]⟩,q⟩
  ·subst i;obtain⟨m,l,pl,z⟩:=I.tuple o;have g:=l.length;exact len_tuple pl (by simp only[zaX];lia) ⟨.int f.length,H,I.tok _,⟨_,by simp only[zaX];rw[g]⟩,q⟩
 |_=>exact(show False from e).elim
end
structure vQ(h:Heap)(x dx C:Addr)(mA:Str->Option yai):Prop where
 obj:h.get? x=some (zbX C dx)
 ns:h.Ns1 dx mA
 ne:dx≠x
theorem yT{h:Heap}{i:Addr}{mA:Str->Option yai}(n:h.Ns1 i mA):∃f,h.get? i=some f/\∀name,PySem.W.lookIn name f=some (mA name):=by
 obtain⟨o,g,v,l,hd,s,_,m⟩:=n;refine⟨o,l,λname=>?_⟩;have e:=m name;unfold nsFind findBy at e;rw[<-Array.find?_toList] at e;unfold PySem.W.lookIn;rw[hd];dsimp only;split
 ·rename_i y q;rw[q] at e;exact congrArg some e
 ·rename_i q;rw[q] at e;have a:g.toList.any (·.refKey)=false:=by
   rw[zaY];intro y j;obtain⟨z,t,c⟩:=s y (Array.mem_toList_iff.mp j);simp[DictEntry.refKey,c]
  have u:¬g.toList.any (·.refKey)=true:=by rw[a];exact zaS
  rw[yIn u];exact congrArg some e
theorem vQ.look{h:Heap}{x c C:Addr}{mA:Str->Option yai}(I:vQ h x c C mA):∃a,PySem.W.InstAt h x (zbX C c) C (some a)/\∀name,PySem.W.lookIn name a=some (mA name):=
 let⟨a,ho,hl⟩:=yT I.ns
 ⟨a,⟨I.obj,rfl,rfl,ho⟩,hl⟩
section
variable {prog:yaj}{w:yak}{A:yal}{E:yai->yah->Prop}{s:yah}{K:yaI}{x dx C f:Addr}{mA:Str->Option yai}{name:Str}{v:yai}
theorem get_map{a:Bool}{Q:yai->yah->Prop}(X:K.In s.heap)(I:vQ s.heap x dx C mA)(j:zbH K C name=true)(i:zbl K C=true)(l:zcc K (.ref C) name=some none)(e:mA name=some v)(c:PySem.W.handedIn v=true)(h:Q v {s with toks:=s.toks+1}):
  yar (model prog w) A (getAttr (.ref x) name a) Q E s:=by
 obtain⟨m,J,g⟩:=I.look;exact PySem.W.get_value X J (PySem.W.plainGet_of j).1 (PySem.W.findObj_own i l rfl (by rw[g,e])) c h
theorem Ci{pl:Sem Bool}{Q:yai×List yai->yah->Prop}(X:K.In s.heap)(I:vQ s.heap x dx C mA)(a:zbH K C name=true)(j:zcc K (.ref C) name=some (some (.ref f)))(g:zcB K (.ref f)=true)(e:mA name=none)(h:Q (.ref f,[.ref x]) s):
  yar (model prog w) A (yaC (.ref x) name pl) Q E s:=by
 obtain⟨c,J,i⟩:=I.look;exact PySem.W.method_fn X J (PySem.W.plainGet_of a).1 (PySem.W.plainGet_of a).2 j (beq_iff_eq.mp g) (by show(PySem.W.lookIn name c).map (·.isSome)=some false;rw[i,e];rfl) h
theorem D6{ns:List Str}{Q:Unit->yah->Prop}(X:K.In s.heap)(I:vQ s.heap x dx C mA)(o:zcc K (.ref C) "__setattr__"=some (some (.builtin "object.__setattr__")))(q:zbm K C=true)(n:PySem.W.takerIn K C name=some none)(t:zbl K C=true)(hw:PySem.Within mA ns)(hsz:ns.length<=yag)(h:∀h',vQ h' x dx C (λy=>if y=name then some v else mA y)->Heap.SameBut dx s.heap h'->Q () {s with heap:=h',toks:=s.toks+2}):
  yar (model prog w) A (setAttr (.ref x) name v) Q E s:=by
 obtain⟨G,J,L⟩:=I.look;refine PySem.W.set_plain X J o (PySem.W.osa_open (s:={s with toks:=s.toks+1}) (r:=none) X J q n λb=>?_);obtain⟨O,u,j⟩:=PySem.W.any_some t;have m:s.heap.get? x=some ⟨.ref C,some dx,.plain,#[]⟩:=I.obj;refine yaa (yab (yaa (yaa (wpAny_loadPart m (yaa (PySem.W.Looks.here (s:={s with toks:=s.toks+1}) (PySem.W.looks_clsIn X u) ?_))))));rw[j];refine yab (a:=some dx) (yaa (yab (yaa ?_)));refine wpAny_nsSet1 (s:={s with toks:=s.toks+1}) I.ns λh' e c=>?_;obtain⟨H,z,F,g,i,l⟩:=e.count (PySem.Within.cons name v hw);refine yaa (wpAny_lookBehind g (by rw[i];exact pastItsLine_dict (zcw l (by rw[zbq];lia))) ?_);exact yab (h _ ⟨(c.2 _ (Ne.symm I.ne)).trans I.obj,e,I.ne⟩ c)
theorem BX{R:Result->yah->Prop}{vs:List yai}{a:List (Str×yai)}(X:K.In s.heap)(c:zbY K C=true)(e:zcc K (.ref C) "__init__"=some (some (.ref f)))(i:PySem.W.typeIn K (.ref f)=some (.type "function"))(h:codeAny (model prog w) (A.under (.builtin "type.__call__" ⟨.ref C::vs,a⟩)) (.call (.ref f) ⟨.ref (s.heap.objs.size+1)::vs,a⟩) (PySem.W.InitBack (s.heap.objs.size+1) R) {s with heap:=(s.heap.push zbn).push (zbX C s.heap.objs.size)}):
  codeAny (model prog w) A (.call (.ref C) ⟨vs,a⟩) R s:=by
 obtain⟨j,g,d,t,os⟩:=s;exact PySem.W.make_core (PySem.W.makes_of X c) (PySem.W.looks_findIn X e) (λself=>PySem.W.bind_fn X self i) (.inl rfl) h
end
noncomputable def fW(f:Str)(v:V):List (Str×V)->List (Str×V)
 |[]=>[(f,v)]
 |(g,x)::r=>if g=f then(g,v)::r else(g,x)::fW f v r
theorem kq(f g:Str)(v:V):∀fs:List (Str×V),(fW f v fs).lookup g=if g=f then some v else fs.lookup g
 |[]=>by
  show zcF g [(f,v)]=_;by_cases h:g=f
  ·have a:(g==f)=true:=beq_iff_eq.mpr h;simp only[zcF,a,yIp h]
  ·have a:(g==f)=false:=beq_eq_false_iff_ne.mpr h;simp only[zcF,a,yIn h]
 |(k,x)::r=>by
  have i:=kq f g v r;rw[show fW f v ((k,x)::r)=(if k=f then(k,v)::r else(k,x)::fW f v r) from rfl];by_cases c:k=f
  ·rw[yIp c];by_cases h:g=k
   ·have a:(g==k)=true:=beq_iff_eq.mpr h;simp only[zcF,a,yIp (h.trans c)]
   ·have a:(g==k)=false:=beq_eq_false_iff_ne.mpr h;simp only[zcF,a,yIn (λe:g=f=>h (e.trans c.symm))]
  ·rw[yIn c];by_cases h:g=k
   ·have a:(g==k)=true:=beq_iff_eq.mpr h;simp only[zcF,a,yIn (λe:g=f=>c (h.symm.trans e))]
   ·have a:(g==k)=false:=beq_eq_false_iff_ne.mpr h;simp only[zcF,a];exact i
theorem jZ(f:Str)(v:V):∀fs:List (Str×V),f∈(fW f v fs).map (·.1)/\∀g,g∈fs.map (·.1)->g∈(fW f v fs).map (·.1)
 |[]=>⟨by simp[fW],λg h=>by simp at h⟩
 |(k,x)::r=>by
  obtain⟨i,c⟩:=jZ f v r;rw[show fW f v ((k,x)::r)=(if k=f then(k,v)::r else(k,x)::fW f v r) from rfl];by_cases a:k=f
  ·rw[yIp a];subst a;exact⟨by simp,λg h=>by simpa using h⟩
  ·rw[yIn a];refine⟨?_,λg h=>?_⟩
   ·rw[zch];exact zaz _ i
   ·rw[zch] at h⊢;rcases zcg.mp h with e|e
    ·exact zcg.mpr (.inl e)
    ·exact zaz _ (c g e)
theorem kB(f:Str)(v:V):∀fs:List (Str×V),(fW f v fs).length<=fs.length+1
 |[]=>by simp[fW]
 |(k,x)::r=>by
  have c:=kB f v r;rw[show fW f v ((k,x)::r)=(if k=f then(k,v)::r else(k,x)::fW f v r) from rfl];by_cases a:k=f
  ·rw[yIp a,zbq,zbq];lia
  ·rw[yIn a,zbq,zbq];lia
theorem iA.some_of{v:V}{o:Option yai}(r:iA (some v) o):∃u,o=some u/\RelV v u:=by
 cases o with
 |none=>exact(show False from r).elim
 |some u=>exact⟨u,rfl,r⟩
theorem iA.none_of{o:Option yai}(r:iA none o):o=none:=by
 cases o with
 |none=>rfl
 |some u=>exact(show False from r).elim
theorem zd{v:V}{u:yai}(r:RelV v u):PySem.W.handedIn u=true:=by
 cases v with
 |bq=>cases(show u=Value.none from r);rfl
 |bl b=>cases(show u=Value.bool b from r);rfl
 |int i=>obtain⟨t,e⟩:=(show∃t,u=Value.int i t from r);cases e;rfl
 |str x=>obtain⟨t,e⟩:=(show∃t,u=Value.str x t from r);cases e;rfl
 |t7 b=>obtain⟨t,e⟩:=(show∃t,u=Value.bytes b t from r);cases e;rfl
 |J3 b=>obtain⟨t,e⟩:=(show∃t,u=Value.float b t from r);cases e;rfl
 |ref a=>cases(show u=Value.ref a from r);rfl
 |ty n=>cases(show u=Value.type n from r);rfl
section
variable {P:yaj}{w:yak}{H H':Hp}{h h':Heap}{a C dx:Addr}{fs fs':List (Str×V)}
theorem lq(hok:iC P w H h)(e:H a=some (.ins C dx fs)):∃mA,vQ h a dx C mA/\(∀f,iA (fs.lookup f) (mA f))/\PySem.Within mA (fs.map (·.1))/\fs.length<=1000/\H dx=some (.own a):=by
 obtain⟨d,z,ne,c,mA,n,r,q⟩:=(show aJ P w H h a (.ins C dx fs) from hok a _ e)
 exact⟨mA,⟨c,n,ne⟩,r,q,z,d⟩
end
structure ud(K:yaI)(C:Addr):Prop where
 pg:zbH K C Str.empty=true
 hd:zbl K C=true
 po:zbm K C=true
 sa:zcc K (.ref C) "__setattr__"=some (some (.builtin "object.__setattr__"))
theorem ud.get{K:yaI}{C:Addr}(c:ud K C)(f:Str):zbH K C f=true:=c.pg
def dw(K:yaI)(C:Addr)(f:Str):Prop:=zcc K (.ref C) f=some none
theorem dw.Ld{K:yaI}{C:Addr}{f:Str}(n:dw K C f):PySem.W.takerIn K C f=some none:=by
 unfold PySem.W.takerIn;rw[show zcc K (.ref C) f=some none from n];rfl
structure Meth(K:yaI)(C:Addr)(m:Str)(f:Addr):Prop where
 at_:zcc K (.ref C) m=some (some (.ref f))
 fn:zcB K (.ref f)=true
 kp:zcd K (.ref f)=true
section
variable {X:Cx}{pins:List (Addr×Obj)}{σ:St}{H:Hp}{s:yah}{a C dx:Addr}{fs:List (Str×V)}{f:Str}{v:V}{A:yal}{E:yai->yah->Prop}
theorem u6{b:Bool}{Q:yai->yah->Prop}(I:Inv X pins σ H s)(e:H a=some (.ins C dx fs))(c:ud X.K C)(n:dw X.K C f)(l:fs.lookup f=some v)(h:∀u s',Inv X pins σ H s'->RelV v u->Q u s'):yar (model X.prog X.w) A (getAttr (.ref a) f b) Q E s:=by
 obtain⟨mA,O,r,_,_,_⟩:=lq I.hok e;obtain⟨u,g,ru⟩:=iA.some_of (v:=v) (o:=mA f) (by rw[<-l];exact r f);exact get_map I.jN O (c.get f) c.hd n g (zd ru) (h u _ (I.tok _) ru)
theorem ny{m:Str}{g:Addr}{pl:Sem Bool}{Q:yai×List yai->yah->Prop}(I:Inv X pins σ H s)(e:H a=some (.ins C dx fs))(c:ud X.K C)(k:Meth X.K C m g)(l:fs.lookup m=none)(h:Q (.ref g,[.ref a]) s):yar (model X.prog X.w) A (yaC (.ref a) m pl) Q E s:=by
 obtain⟨mA,O,r,_,_,_⟩:=lq I.hok e;have i:mA m=none:=iA.none_of (by rw[<-l];exact r m);exact Ci I.jN O (c.get m) k.at_ k.fn i h
theorem uq{y:V}{u:yai}{Q:Unit->yah->Prop}(I:Inv X pins σ H s)(e:H a=some (.ins C dx fs))(c:ud X.K C)(n:dw X.K C f)(P:fs.length<1000)(m:RelV y u)(h:∀s',Inv X pins σ (upd H a (.ins C dx (fW f y fs))) s'->Q () s'):yar (model X.prog X.w) A (setAttr (.ref a) f u) Q E s:=by
 obtain⟨mA,O,r,j,_,l⟩:=lq I.hok e;have t:(fs.map (·.1)).length<=yag:=by rw[zbK,yaf];lia
 refine D6 I.jN O c.sa c.po n.Ld c.hd j t λL i sb=>h _ ?_;have hd:∃o,L.get? dx=some o:=let⟨o,_,_,e',_⟩:=i.ns;⟨o,e'⟩;refine I.write (x:=a) (e:=dx) (by rw[e];exact True.intro) (.inr l) (λb q G z=>(sb.2 b G).trans z) hd ?_;refine⟨by rw[aN O.ne];exact l,?_,O.ne,i.obj,_,i.ns,λg=>?_,λg F=>?_⟩
 ·have:=kB f y fs;lia
 ·show iA ((fW f y fs).lookup g) (if g=f then some u else mA g);rw[kq];by_cases q:g=f
  ·rw[yIp q,yIp q];exact m
  ·rw[yIn q,yIn q];exact r g
 ·by_cases q:g=f
  ·rw[q];exact(jZ f y fs).1
  ·refine(jZ f y fs).2 g (j g λz=>F ?_);show(if g=f then some u else mA g)=none;rw[yIn q];exact z
theorem Inv.made(I:Inv X pins σ H s):Inv X pins σ (upd (upd H s.heap.objs.size (.own (s.heap.objs.size+1))) (s.heap.objs.size+1) (.ins C s.heap.objs.size []))
  {s with heap:=(s.heap.push zbn).push (zbX C s.heap.objs.size)}:=by
 have c:(s.heap.push zbn).get? s.heap.objs.size=some zbn:=zaJ s.heap rfl;have j:((s.heap.push zbn).push (zbX C s.heap.objs.size)).get? (s.heap.objs.size+1)=some (zbX C s.heap.objs.size):=by
  have:=zaJ (s.heap.push zbn) (o:=zbX C s.heap.objs.size) rfl
  rwa [zcf] at this
 have i:(s.heap.push zbn).Ns s.heap.objs.size (λ_=>none):=⟨zbn,#[],_,c,rfl,(λe h=>absurd h (by simp)),λ_=>rfl⟩
 have l:=I.laid (a:=s.heap.objs.size) (o:=.own (s.heap.objs.size+1)) (h':=s.heap.push zbn) (t':=s.toks) (λb u q=>zaq _ q) (zcH _) ⟨_,c⟩;refine l.laid (a:=s.heap.objs.size+1) (o:=.ins C s.heap.objs.size []) (t':=s.toks) (λb u q=>zaq _ q) (Nat.le_of_eq (zcf _ _)) ?_;have ne:s.heap.objs.size≠s.heap.objs.size+1:=zcv (Nat.lt_succ_self _);refine⟨by rw[aN ne,bx],zcI _,ne,j,λ_=>none,(Heap.Ns1.of_empty i).at λo q=>zaq _ q,λ_=>True.intro,λy g=>absurd rfl g⟩
theorem FW{prog:yaj}{w:yak}{env:Env}{e:Expr}{f:Str}{g:Pos}{s:yah}{Q:yai->yah->Prop}(i:attributeBase e f env (eval e env)=eval e env)(h:yar (model prog w) A (eval e env) (λo c=>yar (model prog w) A (getAttr o f true) Q E c) E s):yar (model prog w) A (eval (.Attribute e f g) env) Q E s:=
 Attribute_any_ h (by rw[arm_eval_Attribute,i])
end
def Oe(K:yaI)(g:TE)(f:Str):TE:=λe H Q=>g e H λx c=>∃a C h fs v,x=.ref a/\c a=some (.ins C h fs)/\ud K C/\dw K C f/\fs.lookup f=some v/\Q v c
def Om(K:yaI)(i h:TE)(f:Str):TS:=λD c H=>h c H λy j=>i c j λx g=>∃a C e fs,x=.ref a/\g a=some (.ins C e fs)/\ud K C/\dw K C f/\fs.length<1000/\
 D.nx c (upd g a (.ins C e (fW f y fs)))
section
variable {X:Cx}{o e value:Expr}{f:Str}{pos pos' tpos:Pos}{ta tv:TE}
theorem bQ(m:PE X e ta)(t:attributeBase e f X.env (eval e X.env)=eval e X.env):PE X (.Attribute e f pos) (Oe X.K ta f):=by
 intro g s i H Q I h;refine FW t (b6 (m g s i H _ I h) λu O ⟨x,F,E,j,a,C,P,fs,v,ex,y,c,n,l,q⟩=>?_);subst ex;obtain rfl:u=Value.ref a:=j;exact u6 E y c n l λG L z ru=>⟨v,F,z,ru,q⟩
theorem gE(F:PE X o ta)(z:PE X value tv)(E:yat value (some (.Attribute o f pos')) pos.line X.env=pure false):PS X (.Assign [.Attribute o f pos'] value pos) (Om X.K ta tv f):=by
 intro g s i H D I h;refine plainObj_wpAny_Assign_Attribute (b6 (z g s i H _ I h) λu j ⟨y,Q,P,m,q⟩=>b6 (F g j i Q _ P q) λv U ⟨x,Y,O,t,a,C,W,fs,ex,G,c,n,l,q2⟩=>?_) E;subst ex;obtain rfl:v=Value.ref a:=t;exact uq O G c n l m λS L=>⟨i,_,L,q2⟩
end
section
variable {X:Cx}{pins:List (Addr×Obj)}{σ:St}{H:Hp}{s:yah}{A:yal}{E:yai->yah->Prop}{Q:yai->yah->Prop}{c:yai}{b:Bool}
inductive jv(K:yaI)(H:Hp):V->yai->Prop where
 |bq:jv K H .bq (.type "NoneType")
 |bl (x:Bool):jv K H (.bl x) (.type "bool")
 |int (i:Int):jv K H (.int i) (.type "int")
 |str (x:Str):jv K H (.str x) (.type "str")
 |J3 (x:UInt64):jv K H (.J3 x) (.type "float")
 |lst {a:Addr}{xs:List V} (e:H a=some (.lst xs)):jv K H (.ref a) (.type "list")
 |xE {a:Addr}{o:Obj}{xs:List V} (e:H a=some (.xE o (.lst xs))):jv K H (.ref a) (.type "list")
 |tup {a:Addr}{xs:List V} (e:H a=some (.tup xs)):jv K H (.ref a) (.type "tuple")
 |dK {a:Addr}{kvs:List (Key×V)} (e:H a=some (.dK kvs)):jv K H (.ref a) (.type "dict")
 |dT {a:Addr}{kvs:List (List Key×V)} (e:H a=some (.dT kvs)):jv K H (.ref a) (.type "dict")
 |ins {a C dx:Addr}{fs:List (Str×V)} (e:H a=some (.ins C dx fs)) (cl:ud K C) (ha:zcc K (.ref C) "__class__"=some (some (.builtin "object.__class__")))
   (hn:PySem.W.specialIn K (.builtin "object.__class__") "__get__"=some (some (.builtin "getset_descriptor.__get__"))) (htk:PySem.W.takesIn K (.builtin "object.__class__")=some true)
   (hm:PySem.W.mroIn K C (.type "object")=some true):jv K H (.ref a) (.ref C)
theorem y9{x:V}{u t:yai}(I:Inv X pins σ H s)(f:RelV x u)(ty:jv X.K H x t)(e:PySem.W.kitOne X.K t c=some b)(h:∀tk,Q (.bool b) {s with toks:=tk}):
  yar (model X.prog X.w) A (call (.builtin "isinstance") [u,c]) Q E s:=by
 cases ty with
 |bq=>cases(show u=Value.none from f);exact zbZ PySem.W.kitx_none I.jN True.intro e (λz=>nomatch z) h
 |bl y=>cases(show u=Value.bool y from f);exact zbZ PySem.W.kitx_bool I.jN True.intro e (λz=>nomatch z) h
 |int i=>obtain⟨t,q⟩:=(show∃t,u=Value.int i t from f);cases q;exact zbZ PySem.W.kitx_int I.jN True.intro e (λz=>nomatch z) h
 |str y=>obtain⟨t,q⟩:=(show∃t,u=Value.str y t from f);cases q;exact zbZ PySem.W.kitx_str I.jN True.intro e (λz=>nomatch z) h
 |J3 y=>obtain⟨t,q⟩:=(show∃t,u=Value.float y t from f);cases q;exact zbZ PySem.W.kitx_float I.jN True.intro e (λz=>nomatch z) h
 |@lst a j ea=>
  cases(show u=Value.ref a from f);obtain⟨_,_,n,_,g⟩:=(show aJ X.prog X.w H s.heap a (.lst j) from I.hok a _ ea)
  exact zbZ PySem.W.kitx_list I.jN ⟨_,g,rfl⟩ e (λz=>nomatch z) h
 |@xE a ob j ea=>
  cases(show u=Value.ref a from f);obtain⟨_,_,_,n,_,g⟩:=(show aJ X.prog X.w H s.heap a (.xE ob (.lst j)) from I.hok a _ ea)
  exact zbZ PySem.W.kitx_list I.jN ⟨_,g,rfl⟩ e (λz=>nomatch z) h
 |@tup a j ea=>
  cases(show u=Value.ref a from f);obtain⟨_,_,_,p⟩:=(show aJ X.prog X.w H s.heap a (.tup j) from I.hok a _ ea)
  obtain⟨o,g,l,_⟩:=p;exact zbZ PySem.W.kitx_tuple I.jN ⟨o,g,l⟩ e (λz=>nomatch z) h
 |@dK a kvs ea=>
  cases(show u=Value.ref a from f);obtain⟨_,_,F,_,p⟩:=(show aJ X.prog X.w H s.heap a (.dK kvs) from I.hok a _ ea)
  obtain⟨o,m,v,g,l,_⟩:=p;exact zbZ PySem.W.kitx_dict I.jN ⟨o,g,l.1⟩ e (λz=>nomatch z) h
 |@dT a kvs ea=>
  cases(show u=Value.ref a from f);obtain⟨_,_,j,_,o,m,v,g,l,_⟩:=(show aJ X.prog X.w H s.heap a (.dT kvs) from I.hok a _ ea)
  exact zbZ PySem.W.kitx_dict I.jN ⟨o,g,l.1⟩ e (λz=>nomatch z) h
 |@ins a C dx fs ea cl ha hn htk hm=>
  cases(show u=Value.ref a from f);obtain⟨mA,O,_⟩:=lq I.hok ea;obtain⟨G,J,_⟩:=O.look;exact zbZ (PySem.W.kitx_own (cl.get _) cl.hd ha hn htk hm) I.jN J e (λz=>nomatch z) h
end
structure aQ(k:Nat)(A:yal):Prop where
 hd:A.handled=none
 dp:A.depth+3*k+5<recursionLimit
 un:A.units+16*k+200<cLine
 gd:A.guards=some []
theorem aQ.mono{j k:Nat}{A:yal}(r:aQ k A)(h:j<=k):aQ j A:=⟨r.hd,by have:=r.dp;lia,by have:=r.un;lia,r.gd⟩
theorem aQ.deeper{k:Nat}{A:yal}(r:aQ (k+1) A)(env:Env):aQ k (A.deeper env):=
 ⟨r.hd,by have:=r.dp;show A.depth+1+3*k+5<_;lia,by have:=r.un;show A.units+3+16*k+200<_;lia,r.gd⟩
theorem uV{A:yal}{C:Addr}{us:List yai}{a:List (Str×yai)}:(A.under (.builtin "type.__call__" ⟨.ref C::us,a⟩)).depth=A.depth+1:=by
 first|rfl|simp[Around.under,Code.weight,Code.isCreation,Code.isGuard,Code.isCaller,Code.frames,Code.isFrame,guardIds]
theorem uU{A:yal}{C:Addr}{us:List yai}{a:List (Str×yai)}:(A.under (.builtin "type.__call__" ⟨.ref C::us,a⟩)).units=A.units+1:=by
 first|rfl|simp[Around.under,Code.cUnits,Code.frames,Code.isFrame]
theorem aQ.make{k:Nat}{A:yal}(r:aQ (k+1) A)(C:Addr)(us:List yai)(a:List (Str×yai)):aQ k (A.under (.builtin "type.__call__" ⟨.ref C::us,a⟩)):=
 ⟨r.hd,by have:=r.dp;rw[uV];lia,by have:=r.un;rw[uU];lia,r.gd⟩
theorem aQ.depth{k:Nat}{A:yal}(r:aQ k A):A.depth<recursionLimit:=by have:=r.dp;lia
theorem aQ.units{k:Nat}{A:yal}(r:aQ k A):A.units+64<cLine:=by have:=r.un;lia
def Ac:TA:=λ_ H Q=>Q [] H
def Ag(e:TE)(tr:TA):TA:=λa H Q=>e a H λx g=>tr a g λc f=>Q (x::c) f
section
variable {X:Cx}{e:Expr}{es:List Expr}{te:TE}{t:TA}{pos:Pos}
theorem af:PA X [] Ac:=λ_ _ _ _ H Q I h=>zbp ⟨[],H,I,.nil,h⟩
theorem EI(o:PE X e te)(n:PA X es t)(m:yao (e::es) X.env=(false,eval e X.env)::yao es X.env:=by rfl):PA X (e::es) (Ag te t):=by
 intro pos a s c H Q I h;rw[m];show yar _ _ (spliced ((false,eval e X.env)::yau pos (yao es X.env))) _ _ s;refine zaW (b6 (o a s c H _ I h) λu g ⟨x,z,v,j,l⟩=>?_);exact b6 (n pos a g c z _ v l) λC E ⟨f,y,q,i,q2⟩=>⟨x::f,y,q,.cons j i,q2⟩
def Lh(t:TA):TE:=λf H Q=>t f H λa c=>a.length<=yag/\∀p,c p=none->Q (.ref p) (upd c p (.tup a))
def Lm(t:TA):TE:=λf H Q=>t f H λa c=>a.length<=yag/\∀p,c p=none->Q (.ref p) (upd c p (.lst a))
theorem aP{x1}(h:PA X es t):PE X (.Tuple es x1 pos) (Lh t):=by
 intro a s i H Q I m;refine wpAny_Tuple_spliced (b6 (h pos a s i H _ I m) λl c ⟨j,g,f,r,z,q⟩=>⟨by rw[<-r.length];exact z,?_⟩);have n:g c.heap.objs.size=none:=f.hok.fresh (zcH _);refine⟨.ref c.heap.objs.size,upd g c.heap.objs.size (.tup j),f.laid (t':=c.toks) (λb u e=>zaq _ e) (zcH _) ?_,rfl,q _ n⟩;exact⟨z,l,r,⟨_,zaJ _ rfl,rfl,_,rfl⟩⟩
theorem aZ(h:PA X es t):PE X (.List es pos) (Lm t):=by
 intro a s i H Q I m;refine wpAny_List_spliced (b6 (h pos a s i H _ I m) λl c ⟨j,g,f,r,z,q⟩=>⟨by rw[<-r.length];exact z,?_⟩);have n:g c.heap.objs.size=none:=f.hok.fresh (zcH _);refine⟨.ref c.heap.objs.size,upd g c.heap.objs.size (.lst j),f.laid (t':=c.toks) (λb u e=>zaq _ e) (zcH _) ?_,rfl,q _ n⟩;exact⟨z,l,0,r,zaJ _ rfl⟩
end
abbrev Sp:=List V->Hp->VK->XK->Prop
abbrev DK:=List Env->Hp->yah->XK->yai->yah->Prop
structure vU(P:yaj)(w:yak)(K:yaI)(mg:Str->Option yai)(base:Heap)(A:yal)(outer:List Env)(s:yah)(H:Hp):Prop where
 frames:A.frames=some outer
 mod:Mod K mg base
 bs:∀b o,base.get? b=some o->s.heap.get? b=some o/\H b=none
 FQ:base.objs.size<=s.heap.objs.size
 kP:s.heap.FunFrames base outer
 J2:∀b∈frs outer,H b=none
 hok:iC P w H s.heap
 bare:AllBare s.gens
def CE(outer:List Env)(P:yaj)(w:yak)(H:Hp)(s:yah)(Q:VK)(u:yai)(s':yah):Prop:=
 ∃v a,s'.os=s.os/\AllBare s'.gens/\Un (frs outer) [] H a s.heap s'.heap/\iC P w a s'.heap/\RelV v u/\Q v a
def CR(CX:DK)(outer:List Env)(P:yaj)(w:yak)(H:Hp)(s:yah)(Q:VK)(E:XK)(r:Result)(s':yah):Prop:=
 match r with
 |.ok (.ret u)=>CE outer P w H s Q u s'
 |.ok _=>False
 |.error e=>CX outer H s E e s'
structure cW(P:yaj)(w:yak)(K:yaI)(mg:Str->Option yai)(base:Heap)(CX:DK)(k:Nat)(f:Addr)(fd:yap)(ps:List Str)(sp:Sp):Prop where
 len:∀vs H Q E,sp vs H Q E->vs.length=ps.length
 run:∀(A:yal)(outer:List Env)(s:yah)(H:Hp)(args:Args)(us:List yai)(vs:List V)(Q:VK)(E:XK),aQ k A->vU P w K mg base A outer s H->yaB s fd args (ps.zip us)->Vals vs us->sp vs H Q E->
  codeAny (model P w) A (.call (.ref f) args) (CR CX outer P w H s Q E) s
theorem cW.imp{P:yaj}{w:yak}{K:yaI}{mg:Str->Option yai}{base:Heap}{CX:DK}{k:Nat}{f:Addr}{fd:yap}{ps:List Str}{sp a:Sp}(F:cW P w K mg base CX k f fd ps sp)(h:∀vs H Q E,a vs H Q E->sp vs H Q E):cW P w K mg base CX k f fd ps a:=
 ⟨λvs H Q E q=>F.len vs H Q E (h _ _ _ _ q),λA outer s H c e vs Q E j l m g i=>F.run A outer s H c e vs Q E j l m g (h _ _ _ _ i)⟩
theorem vU.make{P:yaj}{w:yak}{K:yaI}{mg:Str->Option yai}{base:Heap}{A:yal}{outer:List Env}{s:yah}{H:Hp}(e:vU P w K mg base A outer s H)(C:Addr)(us:List yai)(a:List (Str×yai)):
  vU P w K mg base (A.under (.builtin "type.__call__" ⟨.ref C::us,a⟩)) outer s H:=⟨by first|exact e.frames|(simpa[Around.under,Code.envs,Code.isFrame,pushEnvs] using e.frames),e.mod,e.bs,e.FQ,e.kP,e.J2,e.hok,e.bare⟩
section
variable {X:Cx}{pins:List (Addr×Obj)}{σ:St}{H:Hp}{s s':yah}
theorem Inv.MU(I:Inv X pins σ H s):vU X.prog X.w X.K X.mg X.base X.A X.stack s H:=
 ⟨I.ok.frames,I.ok.mod,I.bs,zcw I.ok.FQ I.sz,I.stack,I.wm,I.hok,I.bare⟩
theorem Inv.after{Q:VK}{u:yai}(I:Inv X pins σ H s)(h:CE X.stack X.prog X.w H s Q u s'):EP X pins σ Q u s':=by
 obtain⟨v,e,os,bare,un,hok,r,q⟩:=h;obtain⟨c,g,d,t,a⟩:=s';obtain rfl:a=s.os:=os;exact⟨v,e,I.call (h':=c) (g':=g) (d':=d) (t':=t) (ch:=[]) un hok bare (λb z=>absurd z (by simp)),r,q⟩
end
def wj(sp:Sp)(a:List V)(E:XK)(t:TA):TE:=λc H Q=>t c H λe f=>sp (e++a) f Q E
def Ad(C:Addr)(m:Str)(sp:Sp)(c:List V)(E:XK)(h:TE)(t:TA):TE:=λe H Q=>h e H λx f=>∃a i fs,x=.ref a/\f a=some (.ins C i fs)/\fs.lookup m=none/\
 t e f λg j=>sp (x::(g++c)) j Q E
def Gp(C:Addr)(sp:Sp)(c:List V)(E:XK)(t:TA):TE:=λf H Q=>t f H λg e=>∀x a,e x=none->e a=none->a≠x->
 sp (.ref x::(g++c)) (upd (upd e a (.own x)) x (.ins C a [])) (λv h=>v=.bq/\Q (.ref x) h) E
def Binds(K:yaI)(fd:yap)(ps:List Str)(ds:List yai):Prop:=
 ∀(s:yah)(a:List yai),K.In s.heap->(a++ds).length=ps.length->yaB s fd ⟨a,[]⟩ (ps.zip (a++ds))
theorem Binds.all{K:yaI}{fd:yap}{ps:List Str}(h:∀us:List yai,us.length=ps.length->yaA fd ⟨us,[]⟩=pure (ps.zip us)):Binds K fd ps []:=λs us _ a=>by
 rw[zbL] at a⊢;exact .of_eq (h us a)
def Passes(CX:DK)(X:Cx)(E:XK):Prop:=∀(a:List (Addr×Obj))(f:St)(H:Hp)(s:yah)(e:yai)(c:yah),Inv X a f H s->CX X.stack H s E e c->X.xe e c
section
variable {X:Cx}{CX:DK}{k:Nat}{f C:Addr}{fd:yap}{ps:List Str}{sp:Sp}{dvs:List V}{ds:List yai}{E:XK}{x m:Str}{p pos apos:Pos}{e o:Expr}{es:List Expr}{ta:TE}{t:TA}
theorem qe{a:List (Addr×Obj)}{g:St}{H:Hp}{s:yah}{Q:VK}{us:List yai}{vs:List V}(F:cW X.prog X.w X.K X.mg X.base CX k f fd ps sp)(n:aQ k X.A)(v:Binds X.K fd ps ds)(hd:Vals dvs ds)(l:Passes CX X E)(I:Inv X a g H s)(r:Vals vs us)(h:sp (vs++dvs) H Q E):yar (model X.prog X.w) X.A (call (.ref f) us) (EP X a g Q) X.xe s:=by
 have i:Vals (vs++dvs) (us++ds):=r.append hd;have q:(us++ds).length=ps.length:=by rw[<-i.length];exact F.len _ _ _ _ h
 refine yaH (yax (F.run X.A X.stack s H ⟨us,[]⟩ (us++ds) (vs++dvs) Q E n I.MU (v s us I.jN q) i h) λr j c=>?_);cases r with
 |error e=>exact l a g H s e j I c
 |ok fl=>
  cases fl with
  |ret u=>exact I.after c
  |next=>exact False.elim c
  |brk=>exact False.elim c
  |cont=>exact False.elim c
theorem EG(F:cW X.prog X.w X.K X.mg X.base CX k f fd ps sp)(n:aQ k X.A)(y:Gl X x)(u:X.mg x=some (.ref f))(v:zcd X.K (.ref f)=true)(G:Binds X.K fd ps ds)(hd:Vals dvs ds)(l:Passes CX X E)(L:PA X (e::es) t)(g:(x==("__debug__":Str))=false:=by decide)(z:yao (e::es) X.env=(false,eval e X.env)::yao es X.env:=by rfl)(c:(yau pos (yao es X.env)).any (·.1)=false:=by rfl):
  PE X (.Call (.Name x p) (e::es) [] pos) (wj sp dvs E t):=by
 intro a s j H Q I h;refine wpAny_Call_Name_kw (je I y u ?_ g);refine PySem.W.callWith_K (h₀:=X.base) I.ok.mod.Mz v (b6 (L pos a s j H _ I h) λP S ⟨O,U,i,r,q⟩=>⟨i.jN,?_⟩) z c;exact qe F n G hd l i r q
theorem BK(F:cW X.prog X.w X.K X.mg X.base CX k f fd ps sp)(i:aQ k X.A)(n:Gl X x)(j:X.mg x=some (.ref f))(l:zcd X.K (.ref f)=true)(q:Binds X.K fd ps ds)(hd:Vals dvs ds)(g:Passes CX X E)(a:(x==("__debug__":Str))=false:=by decide):PE X (.Call (.Name x p) [] [] pos) (wj sp dvs E Ac):=by
 intro c s u H Q I h;refine wpAny_Call_Name_kw (je I n j ?_ a);exact PySem.W.callWith_K0 I.jN l (qe (us:=[]) F i q hd g I .nil h)
theorem bP{pl:Sem Bool}(U:PE X o ta)(c:ud X.K C)(v:Meth X.K C m f)(F:cW X.prog X.w X.K X.mg X.base CX k f fd ps sp)(S:aQ k X.A)(Y:Binds X.K fd ps ds)(hd:Vals dvs ds)(O:Passes CX X E)(Z:PA X (e::es) t)(i:yao (e::es) X.env=(false,eval e X.env)::yao es X.env:=by rfl)(j:(yau pos (yao es X.env)).any (·.1)=false:=by rfl)(P:eval (.Call (.Attribute o m apos) (e::es) [] pos) X.env=(do
   let ov <-eval o X.env
   standAt apos.atName
   let(f,first) <-holding [ov] (yaC ov m pl)
   yaz pos f first (yau pos (yao (e::es) X.env)) (yaE pos (yaD [] X.env))):=by rfl):
  PE X (.Call (.Attribute o m apos) (e::es) [] pos) (Ad C m sp dvs E ta t):=by
 intro g s n H Q I h;refine PySem.W.methodCall_KW (pl:=pl) (b6 (U g s n H _ I h) λu G ⟨x,H1,z,L,a,dx,fs,ex,ea,l,q⟩=>?_) P;subst ex;obtain rfl:u=Value.ref a:=L;refine ny z ea c v l ?_;refine PySem.W.callWith_K (first:=[.ref a]) (h₀:=X.base) I.ok.mod.Mz v.kp (b6 (Z pos g G n H1 _ z q) λus s2 ⟨vs,H2,y,r,q2⟩=>⟨y.jN,?_⟩) i j;exact qe (us:=.ref a::us) (vs:=.ref a::vs) F S Y hd O y (.cons rfl r) q2
theorem i7{pl:Sem Bool}(L:PE X o ta)(c:ud X.K C)(j:Meth X.K C m f)(F:cW X.prog X.w X.K X.mg X.base CX k f fd ps sp)(G:aQ k X.A)(O:Binds X.K fd ps ds)(hd:Vals dvs ds)(y:Passes CX X E)(z:eval (.Call (.Attribute o m apos) [] [] pos) X.env=(do
   let ov <-eval o X.env
   standAt apos.atName
   let(f,first) <-holding [ov] (yaC ov m pl)
   yaz pos f first (yau pos (yao [] X.env)) (yaE pos (yaD [] X.env))):=by rfl):
  PE X (.Call (.Attribute o m apos) [] [] pos) (Ad C m sp dvs E ta Ac):=by
 intro g s n H Q I h;refine PySem.W.methodCall_KW (pl:=pl) (b6 (L g s n H _ I h) λu S ⟨x,Y,i,v,a,U,fs,ex,P,l,q⟩=>?_) z;subst ex;obtain rfl:u=Value.ref a:=v;refine ny i P c j l ?_;exact PySem.W.callWith_K0 (first:=[.ref a]) i.jN j.kp (qe (us:=[.ref a]) (vs:=[.ref a]) F G O hd y i (.cons rfl .nil) q)
structure Mk(K:yaI)(C f:Addr):Prop where
 makes:zbY K C=true
 init:zcc K (.ref C) "__init__"=some (some (.ref f))
 fn:zcB K (.ref f)=true
 kp:zcd K (.ref C)=true
theorem rD{a:List (Addr×Obj)}{j:St}{H:Hp}{s:yah}{Q:VK}{us:List yai}{vs:List V}(M:Mk X.K C f)(F:cW X.prog X.w X.K X.mg X.base CX k f fd ps sp)(G:aQ (k+1) X.A)(O:Binds X.K fd ps ds)(hd:Vals dvs ds)(z:Passes CX X E)(I:Inv X a j H s)(r:Vals vs us)(h:∀x g,H x=none->H g=none->g≠x->sp (.ref x::(vs++dvs)) (upd (upd H g (.own x)) x (.ins C g [])) (λv U=>v=.bq/\Q (.ref x) U) E):
  yar (model X.prog X.w) X.A (call (.ref C) us) (EP X a j Q) X.xe s:=by
 have n:=h (s.heap.objs.size+1) s.heap.objs.size (I.hok.fresh (Nat.le_succ _)) (I.hok.fresh (zcH _)) (zcv (Nat.lt_succ_self _));have i:=Inv.made (C:=C) I;have l:Vals (V.ref (s.heap.objs.size+1)::(vs++dvs)) (Value.ref (s.heap.objs.size+1)::(us++ds)):=.cons rfl (r.append hd);have L:(Value.ref (s.heap.objs.size+1)::us++ds).length=ps.length:=by
  have e:=l.length;rw[F.len _ _ _ _ n] at e;exact e.symm
 refine yaH (BX (f:=f) I.jN M.makes M.init (beq_iff_eq.mp M.fn) (yax (F.run _ X.stack _ _ ⟨Value.ref (s.heap.objs.size+1)::us,[]⟩ (Value.ref (s.heap.objs.size+1)::(us++ds)) _ _ E (G.make C us []) (i.MU.make C us []) (O _ (Value.ref (s.heap.objs.size+1)::us) i.jN L) l n) λr q c=>?_));cases r with
 |error e=>exact z a j _ _ e q i c
 |ok fl=>
  cases fl with
  |ret u=>
   obtain⟨v,W,S,y,P,q3⟩:=i.after c;subst P;exact⟨y,⟨V.ref (s.heap.objs.size+1),W,S,rfl,q3⟩⟩
  |next=>exact False.elim c
  |brk=>exact False.elim c
  |cont=>exact False.elim c
theorem qo(M:Mk X.K C f)(F:cW X.prog X.w X.K X.mg X.base CX k f fd ps sp)(n:aQ (k+1) X.A)(v:Gl X x)(u:X.mg x=some (.ref C))(z:Binds X.K fd ps ds)(hd:Vals dvs ds)(l:Passes CX X E)(G:PA X (e::es) t)(g:(x==("__debug__":Str))=false:=by decide)(y:yao (e::es) X.env=(false,eval e X.env)::yao es X.env:=by rfl)(c:(yau pos (yao es X.env)).any (·.1)=false:=by rfl):
  PE X (.Call (.Name x p) (e::es) [] pos) (Gp C sp dvs E t):=by
 intro a s j H Q I h;refine wpAny_Call_Name_kw (je I v u ?_ g);refine PySem.W.callWith_K (h₀:=X.base) I.ok.mod.Mz M.kp (b6 (G pos a s j H _ I h) λO P ⟨L,S,i,r,q⟩=>⟨i.jN,?_⟩) y c;exact rD M F n z hd l i r q
theorem mK(M:Mk X.K C f)(F:cW X.prog X.w X.K X.mg X.base CX k f fd ps sp)(i:aQ (k+1) X.A)(l:Gl X x)(j:X.mg x=some (.ref C))(n:Binds X.K fd ps ds)(hd:Vals dvs ds)(g:Passes CX X E)(a:(x==("__debug__":Str))=false:=by decide):PE X (.Call (.Name x p) [] [] pos) (Gp C sp dvs E Ac):=by
 intro c s q H Q I h;refine wpAny_Call_Name_kw (je I l j ?_ a);exact PySem.W.callWith_K0 I.jN M.kp (rD (us:=[]) M F i n hd g I .nil h)
end
structure az(N P:List Str)(sc:Scope):Prop where
 kind:sc.kind=.function
 co:sc.isCoroutine=false
 gen:sc.isGenerator=false
 nd:N.Nodup
 pre:N.take P.length=P
 par:∀x∈P,sc.names.lookup x=some .local∨sc.names.lookup x=some .cell
 JC:∀y∈sc.names,y.2≠ .free
theorem pV{a:Str->Option NameKind}{x:Str}:∀{binds:List (Str×yai)}{m:Str->Option yai},(∀v,(x,v) ∉ binds)->bindL a binds m x=m x
 |[],_,_=>rfl
 |(n,v)::r,m,h=>by
  unfold bindL;rw[pV λw hw=>h w (zaz _ hw)];split
  ·have:x≠n:=by rintro rfl;exact h v zaK
   simp[this]
  ·rfl
theorem pX{a:Str->Option NameKind}{x:Str}:∀{binds:List (Str×yai)}{m:Str->Option yai},(∀v,(x,v) ∉ binds)->bindC a binds m x=m x
 |[],_,_=>rfl
 |(n,v)::r,m,h=>by
  unfold bindC;rw[pX λw hw=>h w (zaz _ hw)];split
  ·rfl
  ·have:x≠n:=by rintro rfl;exact h v zaK
   simp[this]
theorem pW{a:Str->Option NameKind}{x:Str}{v:yai}:∀{P:List Str}{vs:List yai}{i:Nat}{m:Str->Option yai},P.Nodup->P[i]? =some x->vs[i]? =some v->a x=some .local->
  bindL a (P.zip vs) m x=some v
 |[],_,_,_,_,h,_,_=>by simp at h
 |_::_,[],_,_,_,_,h,_=>by simp at h
 |p::P,w::vs,0,m,nd,h1,h2,hk=>by
  simp at h1 h2;subst h1;subst h2;show bindL a ((p,w)::P.zip vs) m p=_;unfold bindL;rw[pV λv c=>(zbM.mp nd).1 (zbN c).1,yIp hk];simp
 |p::P,w::vs,i+1,m,nd,h1,h2,hk=>by
  show bindL a ((p,w)::P.zip vs) m x=_;unfold bindL;exact pW (i:=i) (zbM.mp nd).2 (by simpa using h1) (by simpa using h2) hk
theorem pY{a:Str->Option NameKind}{x:Str}{v:yai}:∀{P:List Str}{vs:List yai}{i:Nat}{m:Str->Option yai},P.Nodup->P[i]? =some x->vs[i]? =some v->a x≠some .local->
  bindC a (P.zip vs) m x=some v
 |[],_,_,_,_,h,_,_=>by simp at h
 |_::_,[],_,_,_,_,h,_=>by simp at h
 |p::P,w::vs,0,m,nd,h1,h2,hk=>by
  simp at h1 h2;subst h1;subst h2;show bindC a ((p,w)::P.zip vs) m p=_;unfold bindC;rw[pX λv c=>(zbM.mp nd).1 (zbN c).1,yIn hk];simp
 |p::P,w::vs,i+1,m,nd,h1,h2,hk=>by
  show bindC a ((p,w)::P.zip vs) m x=_;unfold bindC;exact pY (i:=i) (zbM.mp nd).2 (by simpa using h1) (by simpa using h2) hk
noncomputable def start(N:List Str)(vs:List V):St:=vs.map some++zcb (N.length - vs.length) none
noncomputable def iO(CX:DK)(P:yaj)(w:yak)(K:yaI)(mg:Str->Option yai)(base:Heap)(N:List Str)(a:Str)(scope:Scope)(f:Addr)(g:yai)(A:yal)(outer:List Env)(s:yah)(H:Hp)(E:XK):Cx where
 prog:=P
 w:=w
 K:=K
 mg:=mg
 base:=base
 A:=A.deeper (envOfC a scope s.heap.objs.size f g)
 N:=N
 s₀:=s
 H₀:=H
 env:=envOfC a scope s.heap.objs.size f g
 outer:=outer
 stack:=envOfC a scope s.heap.objs.size f g::outer
 ex:=[]
 calm:=true
 fn:=λ_=>true
 pn:=[]
 xe:=λe h=>yar (model P w) (A.deeper (envOfC a scope s.heap.objs.size f g)) (leaving (envOfC a scope s.heap.objs.size f g) e) (λ_ c=>CX outer H s E e c) (λi c=>CX outer H s E i c) h
theorem sV{a:Scope}{n:Nat}{x:Str}(h:a.names.lookup x=some .cell):∃c,(cellsFrom n a.names []).lookup x=some c:=by
 have q:=PySem.W.cellsFrom_some a.names n [] (.inl h);exact Option.isSome_iff_exists.mp q
theorem za{CX:DK}{P:yaj}{w:yak}{K:yaI}{mg:Str->Option yai}{base:Heap}{N ps:List Str}{g:Str}{scope:Scope}{f:Addr}{I:yai}{A:yal}{outer:List Env}{s s1:yah}{H:Hp}{E:XK}{us:List yai}{vs:List V}(S:az N ps scope)(hd:A.handled=none)(l:vU P w K mg base A outer s H)(X:vs.length=ps.length)(r:Vals vs us)(x:InCallC s s.heap.objs.size (bindL (envOfC g scope s.heap.objs.size f I).kindOf (ps.zip us) λ_=>none) (cellsFrom (s.heap.objs.size+1) scope.names []) (bindC (envOfC g scope s.heap.objs.size f I).kindOf (ps.zip us) λ_=>none) s1):
  Inv (iO CX P w K mg base N g scope f I A outer s H E) [] (start N vs) H s1:=by
 have U:ps.length<=N.length:=by have:=congrArg zcG S.pre;rw[zbr] at this;lia
 obtain⟨G,tk,rfl,O⟩:=x.done;have m:∀b:Addr,b ∉ (iO CX P w K mg base N g scope f I A outer s H E).ex:=λb z=>absurd (show b∈([]:List Addr) from z) (by simp);refine⟨⟨l.mod,S.kind,rfl,rfl,zcH _,λy z c G j=>?_,λy o=>?_,λy c _ h=>?_,λ_=>hd,Around.frames_deeper l.frames,.inr ⟨rfl,rfl⟩,λb z=>absurd z (m b),l.bs,l.FQ,λb _ _=>m b,λb z=>absurd z (m b),l.kP,l.J2⟩,rfl,l.bare,Un.kept O,⟨_,x.toInCall.ns,λi y v G j Y=>?_⟩,λy c h=>⟨_,x.cell y c h⟩,l.hok.fresh (zcH _),λy c h=>?_,λp C=>absurd (show p∈([]:List (Addr×Obj)) from C) (by simp),l.hok.kept O,?_⟩
 ·exact name_of_addr x.apart (PySem.mem_of_lookup G) (PySem.mem_of_lookup j)
 ·have o:scope.names.lookup y=some .cell∨scope.names.lookup y=some .free:=o;rcases o with o|o
  ·exact sV o
  ·exact absurd rfl (S.JC _ (PySem.mem_of_lookup o))
 ·exact Nat.le_of_lt (x.above y c (PySem.mem_of_lookup h))
 ·have F:i<vs.length:=by
   unfold start at j;by_cases F:i<vs.length
   ·exact F
   ·rw[zab (by simpa using F)] at j;rw[List.getElem?_replicate] at j;split at j<;>cases j
  have W:vs[i]? =some v:=by
   unfold start at j;rw[zaf (by simpa using F),zaZ] at j;cases e:vs[i]? with
   |none=>rw[e] at j;cases j
   |some a=>rw[e] at j;cases j;rfl
  obtain⟨u,L,Q⟩:=r.get W;have C:ps[i]? =some y:=by
   rw[<-S.pre,List.getElem?_take_of_lt (by lia)];exact G
  have t:ps.Nodup:=by rw[<-S.pre];exact S.nd.sublist (List.take_sublist _ _)
  refine⟨u,Q,?_⟩;rcases S.par y (zaC C) with k|k
  ·exact .inl ⟨k,pW t C L k⟩
  ·obtain⟨c,e⟩:=sV (n:=s.heap.objs.size+1) k;refine .inr ⟨.inl k,c,e,?_⟩;have q:=x.cell y c e;rw[pY t C L (by show scope.names.lookup y≠_;rw[k];decide)] at q;exact q
 ·exact l.hok.fresh (Nat.le_of_lt (x.above y c (PySem.mem_of_lookup h)))
 ·unfold start;show _=N.length;rw[zaL,zbK,List.length_replicate];lia
theorem MT{CX:DK}{P:yaj}{w:yak}{K:yaI}{mg:Str->Option yai}{base:Heap}{k:Nat}{f:Addr}{name a:Str}{g:Arguments}{h:List Stmt}{scope:Scope}{dV kV L pm c ct oc:yai}{an od:Option Addr}{X:Array (Option yai)}{N ps:List Str}{sp:Sp}(lk:K.lookup f=some ⟨oc,od,.func (zcC name a g h scope dV kV L pm an c ct),X⟩)(hcd:zce K c a=true)(S:az N ps scope)(len:∀vs H Q E,sp vs H Q E->vs.length=ps.length)(m:∀(A:yal)(outer:List Env)(s:yah)(H:Hp)(vs:List V)(Q:VK)(E:XK),aQ k (A.deeper (envOfC a scope s.heap.objs.size f c))->sp vs H Q E->∃t,tP (iO CX P w K mg base N a scope f c A outer s H E) h t/\t {nx:=λ_ j=>Q .bq j,rt:=Q} (start N vs) H):
  cW P w K mg base CX (k+1) f (zcC name a g h scope dV kV L pm an c ct) ps sp:=by
 refine⟨len,λA outer s H args us vs Q E Z G hb r C=>?_⟩;have hl:=len _ _ _ _ C;have KX:K.In s.heap:=G.mod.Mz.keeps λb o e=>(G.bs b o e).1;have Y:s.heap.NoLimit:=G.mod.nolimit.keeps λb o e=>(G.bs b o e).1;have l:∀y∈ps.zip us,scope.names.lookup y.1=some .local∨(scope.names.lookup y.1=some .cell/\((cellsFrom (s.heap.objs.size+1) scope.names []).lookup y.1).isSome=true):=λ⟨n,v⟩ hy=>by
  rcases S.par n (zbN hy).1 with q|q
  ·exact .inl q
  ·exact .inr ⟨q,PySem.W.cellsFrom_some _ _ _ (.inl q)⟩
 refine codeAny_call_function Z.depth (KX _ _ lk) rfl S.co S.gen rfl (PySem.W.codeRec_of KX hcd) (hb _ _ _ _ ?_);refine wpAny_newFunctionEnv_cells S.kind l λenv he s1 x=>?_;subst he;refine⟨Y.keeps x.toInCall.keep,codeAny_func ?_⟩;obtain⟨t,ht,hq⟩:=m A outer s H vs Q E (Z.deeper _) C;have I:Inv (iO CX P w K mg base N a scope f c A outer s H E) [] (start N vs) H s1:=za S Z.hd G hl r x;refine yac (ht [] s1 (start N vs) H _ I hq) (λfl O z=>?_) λe O z=>z;have F:∀{i:St}{j:Hp}{v:V}{u:yai},Inv (iO CX P w K mg base N a scope f c A outer s H E) [] i j O->RelV v u->Q v j->CE outer P w H s Q u O:=
  λ{i j v u} J U q=>⟨v,j,J.os,J.bare,J.base,J.hok,U,q⟩
 cases fl with
 |ret u=>
  obtain⟨v,i,j,J,U,q⟩:=z;exact F J U q
 |next=>
  obtain⟨i,j,J,q⟩:=z;exact F (v:=V.bq) (u:=Value.none) J rfl q
 |brk=>
  obtain⟨_,_,_,q⟩:=z;exact False.elim q
 |cont=>
  obtain⟨_,_,_,q⟩:=z;exact False.elim q
section
variable {X:Cx}{x:Str}{p pos:Pos}{e:Expr}{es:List Expr}{t:TA}{id T:String}{r:List V->Hp->VK->Prop}
def Lp(r:List V->Hp->VK->Prop)(t:TA):TE:=λa H Q=>t a H λc f=>r c f Q
theorem BJ(z:bW X (.builtin id) r)(v:Gl X x)(u:X.mg x=none)(o:bootBuiltins x=some (.builtin id))(C:PA X (e::es) t)(q:x≠"__name__":=by decide)(f:(x==("__debug__":Str))=false:=by decide)(y:yao (e::es) X.env=(false,eval e X.env)::yao es X.env:=by rfl)(c:(yau pos (yao es X.env)).any (·.1)=false:=by rfl):PE X (.Call (.Name x p) (e::es) [] pos) (Lp r t):=by
 intro a s g H Q I h;refine wpAny_Call_Name_kw (iM I v u o ?_ q f);exact PyProof.Rows.callWith_builtin1 (b6 (C pos a s g H _ I h) λj l ⟨i,F,E,m,n⟩=>z a l g F i j Q E m n) y c
theorem yE(z:bW X (.type T) r)(v:Gl X x)(u:X.mg x=none)(o:bootBuiltins x=some (.type T))(C:PA X (e::es) t)(q:x≠"__name__":=by decide)(f:(x==("__debug__":Str))=false:=by decide)(y:yao (e::es) X.env=(false,eval e X.env)::yao es X.env:=by rfl)(c:(yau pos (yao es X.env)).any (·.1)=false:=by rfl):PE X (.Call (.Name x p) (e::es) [] pos) (Lp r t):=by
 intro a s g H Q I h;refine wpAny_Call_Name_kw (iM I v u o ?_ q f);exact PyProof.Rows.callWith_type1 (b6 (C pos a s g H _ I h) λj l ⟨i,F,E,m,n⟩=>z a l g F i j Q E m n) y c
end
section
variable {κ:Type}[DecidableEq κ]
noncomputable def gA(kvs:List (κ×V))(k:κ):Option V:=(kvs.find? λa=>decide (a.1=k)).map (·.2)
noncomputable def putK(kvs:List (κ×V))(k:κ)(v:V):List (κ×V):=
 if(kvs.any λa=>decide (a.1=k))=true then kvs.map (λa=>if a.1=k then(a.1,v) else a) else kvs++[(k,v)]
theorem lM{p:κ×V}{r:List (κ×V)}{k:κ}(e:p.1=k):gA (p::r) k=some p.2:=by simp[gA,zbO,e]
theorem lN{p:κ×V}{r:List (κ×V)}{k:κ}(e:¬p.1=k):gA (p::r) k=gA r k:=by simp[gA,zbO,e]
theorem lO(k:κ):∀kvs:List (κ×V),(kvs.any λa=>decide (a.1=k))=(gA kvs k).isSome
 |[]=>rfl
 |p::r=>by
  rw[zci];by_cases e:p.1=k
  ·simp only[lM e,yDt e,Bool.true_or,Option.isSome_some]
  ·rw[lN e,yDf e,zcn];exact lO k r
theorem gM(kvs:List (κ×V))(k:κ)(v:V):(putK kvs k v).length<=kvs.length+1:=by
 unfold putK;split
 ·rw[zbK];lia
 ·rw[zaL,zbq,zbP];lia
theorem iA.fL{o:Option V}{u:Option yai}(r:iA o u):o.isSome=u.isSome:=by
 cases o with
 |none=>cases u with
  |none=>rfl
  |some _=>exact(show False from r).elim
 |some _=>cases u with
  |none=>exact(show False from r).elim
  |some _=>rfl
theorem KV.val{kvs:List (κ×V)}{vs:List (κ×yai)}(r:KV kvs vs)(k:κ):iA (gA kvs k) (valueAt vs k):=by
 unfold KV at r
 induction r with
 |nil=>exact True.intro
 |@cons p q ps qs h t ih=>
  obtain⟨c,f⟩:=h;by_cases e:p.1=k
  ·have a:q.1=k:=c.symm.trans e;have b:valueAt (q::qs) k=some q.2:=by simp[valueAt,zbO,a]
   rw[lM e,b];exact f
  ·have a:¬q.1=k:=λz=>e (c.trans z);have b:valueAt (q::qs) k=valueAt qs k:=by simp[valueAt,zbO,a]
   rw[lN e,b];exact ih
theorem KV.any{kvs:List (κ×V)}{vs:List (κ×yai)}(r:KV kvs vs)(k:κ):(kvs.any λa=>decide (a.1=k))=vs.any λa=>decide (a.1=k):=by
 unfold KV at r
 induction r with
 |nil=>rfl
 |cons h t ih=>rw[zci,zci,ih,h.1]
theorem KV.repl{kvs:List (κ×V)}{vs:List (κ×yai)}(r:KV kvs vs)(k:κ){y:V}{u:yai}(f:RelV y u):
  KV (kvs.map λa=>if a.1=k then(a.1,y) else a) (vs.map λa=>if a.1=k then(a.1,u) else a):=by
 unfold KV at r⊢
 induction r with
 |nil=>exact .nil
 |@cons p q ps qs h t ih=>
  rw[zch,zch];refine .cons ?_ ih;obtain⟨c,g⟩:=h;by_cases e:p.1=k
  ·rw[yIp e,yIp (c.symm.trans e)];exact⟨c,f⟩
  ·rw[yIn e,yIn (λz=>e (c.trans z))];exact⟨c,g⟩
theorem KV.put{kvs:List (κ×V)}{vs:List (κ×yai)}(r:KV kvs vs)(k:κ){y:V}{u:yai}(a:RelV y u):KV (putK kvs k y) (stored vs k u):=by
 unfold putK stored;rw[r.any k];by_cases e:(vs.any λc=>decide (c.1=k))=true
 ·rw[yIp e,yIp e];exact r.repl k a
 ·rw[yIn e,yIn e];exact Paired.snoc r ⟨rfl,a⟩
theorem KV.length{kvs:List (κ×V)}{vs:List (κ×yai)}(r:KV kvs vs):kvs.length=vs.length:=Paired.length r
end
theorem pL{P:yaj}{w:yak}{k:Key}{u:yai}(r:RelV (kV k) u):(bM P w).is k u=true:=by
 cases k with
 |inl i=>obtain⟨t,e⟩:=(show∃t,u=Value.int i t from r);subst e;exact r9 P w i t
 |inr x=>obtain⟨t,e⟩:=(show∃t,u=Value.str x t from r);subst e;exact rZ P w x t
theorem pN{P:yaj}{w:yak}:∀{ks:List Key}{us:List yai},Vals (ks.map kV) us->ItemsAre (bM P w) ks us
 |[],_,r=>by rw[zcr] at r;cases r;exact .nil
 |k::ks,_,r=>by
  rw[zch] at r;cases r with
  |cons h t=>exact .cons (pL h) (pN t)
abbrev KT(H:Hp):List (List Key×V)->List (List Key×Addr×yai)->Prop:=Paired λp q=>p.1=q.1/\H q.2.1=some (.tup (p.1.map kV))/\RelV p.2 q.2.2
theorem KT.val{H:Hp}{kvs:List (List Key×V)}{c:List (List Key×Addr×yai)}(r:KT H kvs c)(k:List Key):iA (gA kvs k) ((atKey c k).map (·.2)):=by
 induction r with
 |nil=>exact True.intro
 |@cons p q ps qs h t ih=>
  obtain⟨f,_,g⟩:=h;by_cases e:p.1=k
  ·have a:q.1=k:=f.symm.trans e;have b:atKey (q::qs) k=some q.2:=by simp[atKey,zbO,a]
   rw[lM e,b];exact g
  ·have a:¬q.1=k:=λz=>e (f.trans z);have b:atKey (q::qs) k=atKey qs k:=by simp[atKey,zbO,a]
   rw[lN e,b];exact ih
theorem KT.repl{H:Hp}{kvs:List (List Key×V)}{f:List (List Key×Addr×yai)}(r:KT H kvs f)(k:List Key){y:V}{u:yai}(i:RelV y u):
  KT H (kvs.map λc=>if c.1=k then(c.1,y) else c) (f.map (putAt k u)):=by
 induction r with
 |nil=>exact .nil
 |@cons p q ps qs h t ih=>
  rw[zch,zch];refine .cons ?_ ih;obtain⟨a,g,j⟩:=h;unfold putAt;by_cases e:p.1=k
  ·rw[yIp e,yIp (a.symm.trans e)];exact⟨a,g,i⟩
  ·rw[yIn e,yIn (λz=>e (a.trans z))];exact⟨a,g,j⟩
theorem KT.put{H:Hp}{kvs:List (List Key×V)}{a:List (List Key×Addr×yai)}(r:KT H kvs a)(k:List Key){b:Addr}{y:V}{u:yai}(g:H b=some (.tup (k.map kV)))(c:RelV y u):
  KT H (putK kvs k y) (storedH a k b u):=by
 have e:(kvs.any λf=>decide (f.1=k))=(atKey a k).isSome:=by
  rw[lO,(r.val k).fL,zbo]
 unfold putK storedH;rw[e];by_cases q:(atKey a k).isSome=true
 ·rw[yIp q,yIp q];exact r.repl k c
 ·rw[yIn q,yIn q];exact Paired.snoc r ⟨rfl,g,c⟩
theorem KT.keeps{H e:Hp}{kvs:List (List Key×V)}{c:List (List Key×Addr×yai)}(r:KT H kvs c)(f:∀b a,H b=some (.tup a)->e b=some (.tup a)):KT e kvs c:=
 Paired.JI r λ_ _ z=>⟨z.1,f _ _ z.2.1,z.2.2⟩
section
variable {P:yaj}{w:yak}{H:Hp}{h:Heap}{a:Addr}
theorem GN{u:HO}(ok:iC P w H h)(e:Rd H a u):aJ P w H h a u:=e.ok ok
theorem pS{kvs:List (Key×V)}(ok:iC P w H h)(e:Rd H a (.dK kvs)):kvs.length<=yag/\(a==yas)=false/\∃vs,KV kvs vs/\h.DictOf (bM P w) a vs:=
 show aJ P w H h a (.dK kvs) from GN ok e
theorem Hi{kvs:List (Key×V)}(ok:iC P w H h)(e:H a=some (.dK kvs)):kvs.length<=yag/\(a==yas)=false/\∃vs,KV kvs vs/\h.DictOf (bM P w) a vs:=pS ok (.inl e)
theorem m9{ks:List Key}(ok:iC P w H h)(e:H a=some (.tup (ks.map kV))):(tupleKind (bM P w)).is h ks a:=by
 obtain⟨_,c,r,o,i,g,n,f⟩:=(show aJ P w H h a (.tup (ks.map kV)) from ok a _ e)
 exact⟨o,c.toArray,n,i,g,f,by simpa using pN r⟩
theorem sI{kvs:List (List Key×V)}(ok:iC P w H h)(e:Rd H a (.dT kvs)):kvs.length<=yag/\(a==yas)=false/\
  ∃f,KT H kvs f/\h.DictOfH (tupleKind (bM P w)) a f:=by
 obtain⟨z,y,f,r,o,u,v,s,n,j,i,g⟩:=(show aJ P w H h a (.dT kvs) from GN ok e)
 refine⟨z,y,f,r,o,u,v,s,n,j,i,λx c=>?_,g⟩;have all:∀{l:List (List Key×V)}{m:List (List Key×Addr×yai)},KT H l m->∀x∈m,(tupleKind (bM P w)).is h x.1 x.2.1:=by
  intro l m q
  induction q with
  |nil=>intro x c;exact nomatch c
  |@cons p q ps qs hq t ih=>
   intro x c;rcases zcg.mp c with e|c
   ·subst e;exact m9 ok (by rw[<-hq.1];exact hq.2.1)
   ·exact ih x c
 exact all r x c
theorem MW{kvs:List (List Key×V)}(ok:iC P w H h)(e:H a=some (.dT kvs)):kvs.length<=yag/\(a==yas)=false/\
  ∃c,KT H kvs c/\h.DictOfH (tupleKind (bM P w)) a c:=sI ok (.inl e)
end
def oK(H:Hp)(a:Addr)(y:V)(r:Option V):Prop:=
 (∃c k,Rd H a (.dK c)/\y=kV k/\r=gA c k)∨∃c k b,Rd H a (.dT c)/\y=.ref b/\H b=some (.tup (k.map kV))/\r=gA c k
def DJ(H:Hp)(a:Addr)(y v:V)(e:Hp):Prop:=
 (∃c k,H a=some (.dK c)/\y=kV k/\c.length<yag/\e=upd H a (.dK (putK c k v)))∨
 ∃c k b,H a=some (.dT c)/\y=.ref b/\H b=some (.tup (k.map kV))/\c.length<yag/\e=upd H a (.dT (putK c k v))
theorem oK.k{H:Hp}{a:Addr}{kvs:List (Key×V)}{k:Key}(e:H a=some (.dK kvs)):oK H a (kV k) (gA kvs k):=.inl ⟨kvs,k,.inl e,rfl,rfl⟩
theorem DJ.k{H:Hp}{a:Addr}{kvs:List (Key×V)}{k:Key}{v:V}(e:H a=some (.dK kvs))(c:kvs.length<yag):DJ H a (kV k) v (upd H a (.dK (putK kvs k v))):=.inl ⟨kvs,k,e,rfl,c,rfl⟩
section
variable {X:Cx}{pins:List (Addr×Obj)}{σ:St}{H:Hp}{s:yah}{a:Addr}{y v:V}{u r:yai}{o:Option V}{A:yal}{E:yai->yah->Prop}
theorem Inv.big(I:Inv X pins σ H s):yas<s.heap.objs.size:=by
 have h:yaq<s.heap.objs.size:=(I.mod.glob.keeps I.bk).lt;exact zcy (by decide) h
theorem zg{Q:yai->yah->Prop}(F:A.units+1<cLine)(I:Inv X pins σ H s)(g:oK H a y (some v))(t:RelV y u)(h:∀i s',Inv X pins σ H s'->RelV v i->Q i s'):
  yar (model X.prog X.w) A (getItem (.ref a) u) Q E s:=by
 rcases g with⟨j,k,e,n,l⟩|⟨j,k,b,e,n,L,l⟩
 ·subst n;obtain⟨z,hd,C,f,q⟩:=pS I.hok e;obtain⟨i,hw,c⟩:=iA.some_of (v:=v) (o:=valueAt C k) (by rw[l];exact f.val k);exact wpAny_getItem_of (pL t) q.mapOf hw (h i _ (I.tok _) c)
 ·subst n;cases(show u=Value.ref b from t);obtain⟨z,hd,x,f,q⟩:=sI I.hok e;obtain⟨i,hw,c⟩:=iA.some_of (v:=v) (o:=(atKey x k).map (·.2)) (by rw[l];exact f.val k);obtain⟨p,G,m⟩:=Option.map_eq_some_iff.mp hw;refine wpAny_getItem_heap (tupleKind_room_in1 F) (m9 I.hok L) q G ?_;rw[m];exact h i _ (I.tok _) c
theorem O3{Q:yai->yah->Prop}(n:A.units+1<cLine)(I:Inv X pins σ H s)(g:oK H a y o)(m:RelV y u)(h:∀s',Inv X pins σ H s'->Q (.bool o.isSome) s'):
  yar (model X.prog X.w) A (yan .In u (.ref a)) Q E s:=by
 rcases g with⟨f,k,e,i,l⟩|⟨f,k,b,e,i,t,l⟩
 ·subst i;obtain⟨z,hd,C,c,j⟩:=pS I.hok e;refine wpAny_in_of (pL m) hd j.mapOf ?_;rw[<-(c.val k).fL,<-l];exact h _ (I.tok _)
 ·subst i;cases(show u=Value.ref b from m);obtain⟨z,hd,x,c,j⟩:=sI I.hok e;refine wpAny_in_heap (tupleKind_room_in1 n) (m9 I.hok t) hd j ?_;have q:=(c.val k).fL;rw[zbo] at q;rw[<-q,<-l];exact h _ (I.tok _)
theorem Fy{Q:yai->yah->Prop}(n:A.units+1<cLine)(I:Inv X pins σ H s)(g:oK H a y o)(m:RelV y u)(h:∀s',Inv X pins σ H s'->Q (.bool (!o.isSome)) s'):
  yar (model X.prog X.w) A (yan .NotIn u (.ref a)) Q E s:=by
 rcases g with⟨f,k,e,i,l⟩|⟨f,k,b,e,i,t,l⟩
 ·subst i;obtain⟨z,hd,C,c,j⟩:=pS I.hok e;refine wpAny_notIn_of (pL m) hd j.mapOf ?_;rw[<-(c.val k).fL,<-l];exact h _ (I.tok _)
 ·subst i;cases(show u=Value.ref b from m);obtain⟨z,hd,x,c,j⟩:=sI I.hok e;refine wpAny_notIn_heap (tupleKind_room_in1 n) (m9 I.hok t) hd j ?_;have q:=(c.val k).fL;rw[zbo] at q;rw[<-q,<-l];exact h _ (I.tok _)
theorem lE{h':Heap}{t':Nat}{ob:HO}(I:Inv X pins σ H s)(c:K9 (H a))(f:Heap.SameBut a s.heap h')(g:∃q,h'.get? a=some q)(new:aJ X.prog X.w (upd H a ob) h' a ob):
  Inv X pins σ (upd H a ob) {s with heap:=h',toks:=t'}:=
 I.write (x:=a) (e:=a) c (.inl rfl) (λb q h z=>(f.2 b h).trans z) g new
theorem J6{P:yaj}{w:yak}{e:Hp}{h':Heap}{kvs:List (Key×V)}{vs:List (Key×yai)}(z:kvs.length<=yag)(hd:(a==yas)=false)(c:KV kvs vs)(dd:h'.DictOf (bM P w) a vs):
  aJ P w e h' a (.dK kvs):=⟨z,hd,vs,c,dd⟩
theorem zf{U:Hp}{Q:Unit->yah->Prop}(Z:A.units+1<cLine)(I:Inv X pins σ H s)(g:DJ H a y v U)(L:RelV y u)(O:RelV v r)(h:∀s',Inv X pins σ U s'->Q () s'):
  yar (model X.prog X.w) A (setItem (.ref a) u r) Q E s:=by
 rcases g with⟨i,k,e,C,l,F⟩|⟨i,k,b,e,C,S,l,F⟩
 ·subst C F;obtain⟨z,hd,Y,f,G⟩:=Hi I.hok e;have n:Y.length<=yag:=by rw[<-f.length];exact z
  have x:(putK i k v).length<=yag:=by have:=gM i k v;lia
  refine wpAny_setItem_pairs (hsz:=n) (pL L) G λP j t=>h _ ?_;have he:∃q,P.get? a=some q:=let⟨q,_,_,m,_⟩:=j;⟨q,m⟩;exact lE I (by rw[e];exact True.intro) t he (J6 x hd (f.put k O) j)
 ·subst C F;cases(show u=Value.ref b from L);obtain⟨z,hd,W,f,G⟩:=MW I.hok e;have n:W.length<=yag:=by rw[<-Paired.length f];exact z
  have x:(putK i k v).length<=yag:=by have:=gM i k v;lia
  refine wpAny_setItem_heap (hsz:=n) (tupleKind_room_in1 Z) (m9 I.hok S) G λP j t=>h _ ?_;obtain⟨q,es,ep,m,h2,h3,h4,_,h5⟩:=j;refine lE I (by rw[e];exact True.intro) t ⟨q,m⟩ ⟨x,hd,_,(f.put k S O).keeps λc ys ec=>?_,q,es,ep,m,h2,h3,h4,h5⟩;rw[aN (Mp ec e (λz=>nomatch z))];exact ec
end
section
variable {X:Cx}{pins:List (Addr×Obj)}{σ:St}{H:Hp}{s:yah}{a:Addr}{kvs:List (Key×V)}{k:Key}{u:yai}{A:yal}{E:yai->yah->Prop}
theorem MZ{Q:yai->yah->Prop}(I:Inv X pins σ H s)(e:Rd H a (.dK kvs))(h:∀t s',Inv X pins σ H s'->Q (.int kvs.length t) s'):yar (model X.prog X.w) A (call (.builtin "len") [.ref a]) Q E s:=by
 obtain⟨z,hd,g,c,f⟩:=pS I.hok e;refine call_len_dict hd f (by rw[<-c.length];rw[yaf] at z;lia) ?_;rw[<-c.length];exact h _ _ (I.tok _)
end
def KY(i:Expr):Prop:=∀a c,subscripted i false a c=operate [a,c] (getItem a c)
theorem DX{prog:yaj}{w:yak}{A:yal}{E:yai->yah->Prop}{s:yah}{env:Env}{c a:Expr}{q:Pos}{T id:String}{Q:yai->yah->Prop}(v:typeLookup (.type T) "__getitem__"=pure (some (.builtin id)))(u:KY a)(h:yar (model prog w) A (eval c env) (λo j=>yar (model prog w) A (eval a env) (λi e=>e.TypeIs o T/\yar (model prog w) A (getItem o i) Q E e) E j) E s):
  yar (model prog w) A (eval (.Subscript c a q) env) Q E s:=by
 refine Subscript_ (yac h (λo j n=>yac n (λi e f=>?_) λ_ _ x=>x) λ_ _ x=>x);obtain⟨t,f⟩:=f;unfold subscriptTail;refine yaa ?_;rw[getitemInPython_of_ne t.not_modules];refine yaa (wpAny_specialOf t v ?_);have l:yar (model prog w) A (subscripted a false o i) (λr g=>yar (model prog w) A (letTemporaryGo c o r >>= λ_=>pure r) Q E g) E e:=by
  rw[u o i];exact wpAny_operating (yac f (λr g m=>yaa (wpAny_letTemporaryGo (yab m))) λ_ _ x=>x)
 first
  |exact yab (yaa l)
  |exact yaa (yab (yaa l))
  |exact yaa l
theorem sL{X:Cx}{c:List (Addr×Obj)}{i:St}{H:Hp}{s:yah}{a:Addr}{y:V}{o:Option V}(I:Inv X c i H s)(g:oK H a y o):s.TypeIs (.ref a) "dict":=by
 rcases g with⟨f,k,e,_,_⟩|⟨f,k,b,e,_,_,_⟩
 ·obtain⟨_,_,l,_,h⟩:=pS I.hok e;exact h.typeIs
 ·obtain⟨_,_,j,_,h⟩:=sI I.hok e;exact h.typeIs
def Gu(f ty:TE):TE:=λc H Q=>f c H λx g=>ty c g λy e=>∃a v,x=.ref a/\oK e a y (some v)/\Q v e
def GK(g ty f:TE):TS:=λD c H=>f c H λv j=>g c j λx i=>ty c i λy h=>∃a e,x=.ref a/\DJ h a y v e/\D.nx c e
section
variable {X:Cx}{o i e value:Expr}{pos pos' tpos:Pos}{td ty tv:TE}
theorem EF(z:X.A.units+1<cLine)(E:PE X o td)(G:PE X i ty)(C:KY i):PE X (.Subscript o i pos) (Gu td ty):=by
 intro c s j H Q I h;refine DX PySem.F.slot_dict_getitem.lookup C (b6 (E c s j H _ I h) λu m ⟨x,S,O,q,t⟩=>b6 (G c m j S _ O t) λZ Y ⟨y,P,l,n,a,v,ex,g,q2⟩=>?_);subst ex;obtain rfl:u=Value.ref a:=q;exact⟨sL l g,zg z l g n λU W L f=>⟨v,P,L,f,q2⟩⟩
theorem ED(C:X.A.units+1<cLine)(F:PE X o td)(G:PE X i ty)(z:PE X value tv)(E:yat value (some (.Subscript o i pos')) pos.line X.env=pure false):
  PS X (.Assign [.Subscript o i pos'] value pos) (GK td ty tv):=by
 intro c s f H D I h;refine wpAny_Assign_Subscript (b6 (z c s f H _ I h) λr l ⟨v,W,Q,q,t⟩=>b6 (F c l f W _ Q t) λu j ⟨x,U,P,n,q2⟩=>b6 (G c j f U _ P q2) λiv Z ⟨y,H3,O,m,a,S,ex,g,q3⟩=>?_) E;subst ex;obtain rfl:u=Value.ref a:=n;exact zf C O g m q λY L=>⟨f,S,L,q3⟩
end
theorem Cu{P:yaj}{w:yak}{H:Hp}(h:Heap)(a:yas<h.objs.size):aJ P w H (h.push {cls:=.type "dict",data:=.dict #[]}) h.objs.size (.dK []):=
 ⟨zcI _,beq_eq_false_iff_ne.mpr (Ne.symm (zcv a)),[],.nil,Heap.DictOf.new h⟩
def Af:TE:=λ_ H Q=>∀p,H p=none->Q (.ref p) (upd H p (.dK []))
section
variable {X:Cx}{pos:Pos}
theorem gG:PE X (.Dict [] [] pos) Af:=λc s e H Q I h=>
 wpAny_Dict_empty ⟨.ref s.heap.objs.size,_,I.laid (a:=s.heap.objs.size) (o:=.dK []) (t':=s.toks) (λ_ _ q=>zaq _ q) (zcH _) (Cu s.heap I.big),rfl,h _ (I.hok.fresh (zcH _))⟩
end
structure M1(X:Cx)(o:Expr)(m:Str)(apos:Pos)(e:Expr)(cpos:Pos):Prop where
 base:attributeBase o m X.env (eval o X.env)=eval o X.env
 few:((yau cpos (yao [e] X.env)).all (λx=>!x.1)&&(yaE cpos (yaD [] X.env)).all (λx=>x.1.isSome)&&decide (([e]:List Expr).length+([]:List Keyword).length+(if([]:List Keyword).isEmpty then 0 else 1)<30))=true
 line:(apos.endLine==cpos.line)=true
 trees:yau cpos (yao [e] X.env)=[(false,eval e X.env)]
structure M2(X:Cx)(o:Expr)(m:Str)(apos:Pos)(e f:Expr)(cpos:Pos):Prop where
 base:attributeBase o m X.env (eval o X.env)=eval o X.env
 few:((yau cpos (yao [e,f] X.env)).all (λx=>!x.1)&&(yaE cpos (yaD [] X.env)).all (λx=>x.1.isSome)&&decide (([e,f]:List Expr).length+([]:List Keyword).length+(if([]:List Keyword).isEmpty then 0 else 1)<30))=true
 line:(apos.endLine==cpos.line)=true
 trees:yau cpos (yao [e,f] X.env)=[(false,eval e X.env),(false,eval f X.env)]
end L2
namespace HT
open PySem PyProof.Rows
section
variable {prog:yaj}{w:yak}{A:yal}{E:yai->yah->Prop}{s:yah}
theorem FN{t b:Addr}{vs a:List yai}{Q:yai->yah->Prop}(y:IsTup s.heap t vs.toArray)(z:IsTup s.heap b a.toArray)(q:vs≠[])(h1:a=[]->Q (.ref t) s)(C:a≠[]->Q (.ref s.heap.objs.size) {s with heap:=s.heap.push {cls:=.type "tuple",data:=.seq (vs++a).toArray}})(hsz:vs.length+a.length<=yag):yar (model prog w) A (binaryOp .Add (.ref t) (.ref b)) Q E s:=by
 obtain⟨⟨cls,v,data,m⟩,j,u,n,hd⟩:=id y;obtain⟨⟨x,i,l,f⟩,c,h,o,g⟩:=id z;simp only at u hd h g;subst u hd h g;have e:vs.toArray++a.toArray=(vs++a).toArray:=by simp
 by_cases hw:a=[]
 ·exact concat_meets ⟨_,j,rfl⟩ ⟨_,c,rfl⟩ noFill_tuple_add seq_tuple_add PySem.F.slot_tuple_add PySem.F.entry_tuple_add (PySem.F.args_tuple_add_2 _ _)
   (tuple_addW1 t b vs.toArray a.toArray n o v i m f (by simpa using q) (by simp[hw])) ⟨j,c,h1 hw⟩
 ·refine concat_meets ⟨_,j,rfl⟩ ⟨_,c,rfl⟩ noFill_tuple_add seq_tuple_add PySem.F.slot_tuple_add PySem.F.entry_tuple_add (PySem.F.args_tuple_add_2 _ _)
   (tuple_addW2 t b vs.toArray a.toArray n o v i m f (by simpa using q) (by simpa using hw) (by rw[zaX,zaX];exact hsz)) ⟨j,c,?_⟩
  rw[e];exact C hw
noncomputable def cy(n d:Nat):Option Int->Nat
 |none=>d
 |some v=>if v<0 then(v+(n:Int)).toNat else min v.toNat n
theorem dY(n d k:Nat):cy n d (some (k:Int))=min k n:=by
 show(if(k:Int)<0 then((k:Int)+(n:Int)).toNat else min (k:Int).toNat n)=min k n;rw[yIn (by lia),zbk]
theorem IG(n d:Nat)(hd:d<=n)(o:Option Int):cy n d o<=n:=by
 cases o with
 |none=>exact hd
 |some v=>
  show(if v<0 then(v+(n:Int)).toNat else min v.toNat n)<=n;by_cases a:v<0
  ·rw[yIp a];lia
  ·rw[yIn a];exact Nat.min_le_right _ _
theorem xO(v:Int)(n d:Nat):(if v<0 then max (v+(n:Int)) 0 else min v (n:Int))=((cy n d (some v):Nat):Int):=by
 show(if v<0 then max (v+(n:Int)) 0 else min v (n:Int))=(((if v<0 then(v+(n:Int)).toNat else min v.toNat n):Nat):Int);by_cases a:v<0
 ·simp only[yIp a];lia
 ·simp only[yIn a];lia
theorem vE(a c:Option Int)(n:Nat):Builtin.Slice.sliceAdjust a c 1 (n:Int)=(((cy n 0 a:Nat):Int),((cy n n c:Nat):Int)):=by
 have e:¬((1:Int)<0):=by lia
 unfold Builtin.Slice.sliceAdjust;simp only[e,if_false];refine Prod.ext ?_ ?_
 ·cases a with
  |none=>rfl
  |some v=>exact xO v n 0
 ·cases c with
  |none=>rfl
  |some v=>exact xO v n n
theorem uH(i j:Nat):Builtin.Slice.slicePlaces (i:Int) (j:Int) 1=j - i:=by
 unfold Builtin.Slice.slicePlaces;have a:(1:Int)> 0:=by lia
 simp only[a,if_true,Int.ediv_one];split<;>lia
theorem lV{v:yai}{o:Option Int}{Q:Option Int->yah->Prop}(p:IsPart v o)(h:Q o s):yar (model prog w) A (Builtin.Slice.slicePartIndex v) Q E s:=by
 cases p with
 |none=>exact slicePart_none h
 |int i t=>exact slicePart_int h
theorem fH{sl:Addr}{i g:yai}{a e:Option Int}{n:Nat}{Q:Int×Int×Nat->yah->Prop}(l:s.heap.IsSliceOf sl i g .none)(pl:IsPart i a)(j:IsPart g e)(h:Q (((cy n 0 a:Nat):Int),1,cy n n e - cy n 0 a) s):yar (model prog w) A (Builtin.Slice.sliceApplied (.ref sl) (pure (n:Int))) Q E s:=by
 obtain⟨os,c,m,f⟩:=id l;unfold Builtin.Slice.sliceApplied Builtin.Slice.sliceFields;refine yaa (yaa (wpAny_field c f (x:=i) rfl (yaa (wpAny_field c f (x:=g) rfl (yaa (wpAny_field c f (x:=.none) rfl (yab ?_)))))));refine yaa (slicePart_none ?_);show yar _ _ (if((1:Int)==0)=true then _ else _) _ _ s;rw[yIn (by decide)];refine yaa (lV pl (yaa (lV j (yaa (yab ?_)))));show yar _ _ (match Builtin.Slice.sliceAdjust a e 1 (n:Int) with|(a,e)=>pure (a,(1:Int),Builtin.Slice.slicePlaces a e 1)) _ _ s;rw[vE a e n];show yar _ _ (pure (((cy n 0 a:Nat):Int),(1:Int),Builtin.Slice.slicePlaces ((cy n 0 a:Nat):Int) ((cy n n e:Nat):Int) 1)) _ _ s;rw[uH];exact yab h
theorem BG(a:Array yai)(i k:Nat):((zcK k).filterMap λ(m:Nat)=>a[((i:Int)+(m:Int)*1).toNat]?).toArray=((a.toList.drop i).take k).toArray:=by
 have e:(λ(m:Nat)=>a[((i:Int)+(m:Int)*1).toNat]?)=λm=>a[i+m]?:=by
  funext m;have:((i:Int)+(m:Int)*1).toNat=i+m:=by lia
  rw[this]
 rw[e];have:=pick_run a i k;rw[List.filterMap_map] at this;have c:((λx=>a[x]?) ∘ λx=>i+x)=λm=>a[i+m]?:=rfl;rw[c] at this;rw[this]
theorem ji{t sl:Addr}{items:Array yai}{o n:yai}{a c:Option Int}{Q:yai->yah->Prop}(f:IsTup s.heap t items)(u:s.heap.IsSliceOf sl o n .none)(pl:IsPart o a)(v:IsPart n c)(hw:¬(cy items.size 0 a=0/\cy items.size items.size c=items.size))(h:Q (.ref s.heap.objs.size) {s with heap:=s.heap.push {cls:=.type "tuple",data:=.seq ((items.toList.drop (cy items.size 0 a)).take (cy items.size items.size c - cy items.size 0 a)).toArray}})(hsz:items.size<=yag):yar (model prog w) A (getItem (.ref t) (.ref sl)) Q E s:=by
 have e:sizeOk (.seq ((items.toList.drop (cy items.size 0 a)).take (cy items.size items.size c - cy items.size 0 a)).toArray):=by
  show((items.toList.drop (cy items.size 0 a)).take (cy items.size items.size c - cy items.size 0 a)).toArray.size<=yag;rw[zaX,zbr,zbs,zaI];lia
 have z:cy items.size items.size c<=items.size:=IG _ _ (zcH _) c;obtain⟨os,g,j,x⟩:=id u;have l:s.TypeIs (.ref sl) "slice":=⟨os,g,j⟩
 unfold getItem
 try with_reducible refine yad ?_
 first|refine yaa (yab ?_)|skip
 refine yaa (wpAny_sequenceKey f.typeIs (by decide) ?_);refine yaa (wpAny_callSpecial?_slot (name:=Str.ofString "__getitem__") f.typeIs PyProof.Rows.slot_tuple_getitem (wpAny_call_entry PyProof.Rows.slot_tuple_getitem f.typeIs entry_tuple_getitem ?_ (args_tuple_getitem _ _)));show yar _ _ (Builtin.Tuple.tupleItemsOf (.ref t) >>= _) _ _ s;refine yaa (tupleItemsOf_ f ?_);refine yaa (wpAny_typeOf l ?_);rw[yIp (by decide)];refine yaa (fH u pl v ?_);have i:¬((((cy items.size 0 a:Nat):Int)==0&&(1:Int)==1&&(cy items.size items.size c - cy items.size 0 a)==items.size)=true):=by
  intro q;rw[zbG,zbG] at q;have y:((cy items.size 0 a:Nat):Int)=0:=eq_of_beq q.1.1;have q2:cy items.size items.size c - cy items.size 0 a=items.size:=eq_of_beq q.2;exact hw ⟨by lia,by lia⟩
 show yar _ _ (if(((cy items.size 0 a:Nat):Int)==0&&(1:Int)==1&&(cy items.size items.size c - cy items.size 0 a)==items.size)=true then _ else _) _ _ s;rw[yIn i,BG]
 first
  |exact yaa (m:=Builtin.Tuple.tupleExact _) (yae (yab ⟨_,rfl,yab h⟩) e)
  |exact yaa (m:=Builtin.Tuple.tupleExact _) (yae (yaa (yab (yab ⟨_,rfl,yab h⟩))) e)
  |exact yaa (yaa (m:=Builtin.Tuple.tupleExact _) (yae (yab (yab ⟨_,rfl,yab h⟩)) e))
  |exact yaa (yaa (m:=Builtin.Tuple.tupleExact _) (yae (yab ⟨_,rfl,yab h⟩) e))
end
end HT
namespace L2
open PySem PySem.Spec PyProof.Rows
abbrev TO:=St->Hp->(Option Int->Hp->Prop)->Prop
def PO(X:Cx)(e:Option Expr)(t:TO):Prop:=
 ∀(a:List (Addr×Obj))(s:yah)(c:St)(H:Hp)(Q:Option Int->Hp->Prop),Inv X a c H s->t c H Q->
  yar (model X.prog X.w) X.A (evalPart e X.env) (λu g=>∃o f,Inv X a c f g/\IsPart u o/\Q o f) X.xe s
def wg:TO:=λ_ H Q=>Q none H
def Gm(t:TE):TO:=λa H Q=>t a H λx c=>∃i,x=.int i/\Q (some i) c
section
variable {X:Cx}{e:Expr}{te:TE}{lo hi:Option Expr}{tl th:TO}{pos p2:Pos}
theorem dZ:PO X none wg:=by
 intro a s c H Q I h;rw[evalPart_none];exact yab ⟨none,H,I,.none,h⟩
theorem cK(h:PE X e te):PO X (some e) (Gm te):=by
 intro a s c H Q I hw;rw[evalPart_some];refine b6 (h a s c H _ I hw) λu m ⟨x,l,j,f,g⟩=>?_;obtain⟨i,rfl,q⟩:=g;obtain⟨t,rfl⟩:=f;exact⟨some i,l,j,.int i t,q⟩
def DO(X:Cx)(r:V->Option Int->Option Int->Hp->VK->Prop):Prop:=
 ∀(a:List (Addr×Obj))(s:yah)(c:St)(H:Hp)(x:V)(v g f:yai)(lo hi:Option Int)(h:Addr)(Q:VK),Inv X a c H s->RelV x v->s.heap.IsSliceOf h g f .none->IsPart g lo->IsPart f hi->r x lo hi H Q->
  ∃T id,typeLookup (.type T) "__getitem__"=pure (some (.builtin id))/\s.TypeIs v T/\yar (model X.prog X.w) X.A (getItem v (.ref h)) (EP X a c Q) X.xe s
theorem DO.or{r l:V->Option Int->Option Int->Hp->VK->Prop}(h:DO X r)(h':DO X l):DO X (λx lo hi H Q=>r x lo hi H Q∨l x lo hi H Q):=by
 intro a s c H x v g f lo hi i Q I j n pl m q;rcases q with q|q
 ·exact h a s c H x v g f lo hi i Q I j n pl m q
 ·exact h' a s c H x v g f lo hi i Q I j n pl m q
def Px(r:V->Option Int->Option Int->Hp->VK->Prop)(te:TE)(tl th:TO):TE:=λa H Q=>te a H λx g=>tl a g λl f=>th a f λu c=>r x l u c Q
theorem cB{r:V->Option Int->Option Int->Hp->VK->Prop}(E:DO X r)(L:PE X e te)(F:PO X lo tl)(z:PO X hi th):PE X (.Subscript e (.Slice lo hi none p2) pos) (Px r te tl th):=by
 intro a s f H Q I h;refine Subscript_ (b6 (L a s f H _ I h) λv n ⟨x,Z,W,o,t⟩=>?_);refine wpAny_Slice (b6 (F a n f Z _ W t) λi m ⟨l,Y,U,pl,q2⟩=>b6 (z a m f Y _ U q2) λg c ⟨u,j,S,y,q3⟩=>?_);rw[evalPart_none];refine yab ?_;have P:Inv X a f j {c with heap:=c.heap.push {cls:=.type "slice",data:=.fields #[i,g,.none]}}:=S.kept (t':=c.toks) λb ob q=>zaq _ q;obtain⟨T,id,O,C,G⟩:=E a {c with heap:=c.heap.push {cls:=.type "slice",data:=.fields #[i,g,.none]}} f j x v i g l u c.heap.objs.size Q P o (Heap.IsSliceOf.new ..) pl y q3;show yar (model X.prog X.w) X.A (subscriptTail e (.Slice lo hi none p2) v (.ref c.heap.objs.size)) (EP X a f Q) X.xe {c with heap:=c.heap.push {cls:=.type "slice",data:=.fields #[i,g,.none]}};exact tail_any (ops:=[.ref c.heap.objs.size,v]) C O G (by with_unfolding_all rfl)
noncomputable def sO(a:List V)(lo hi:Option Int):List V:=(a.drop (HT.cy a.length 0 lo)).take (HT.cy a.length a.length hi - HT.cy a.length 0 lo)
theorem kH(a:List V)(lo hi:Option Int):(sO a lo hi).length<=a.length:=by
 unfold sO;rw[zbr,zbs];lia
def Ow(K:yaI):V->Option Int->Option Int->Hp->VK->Prop:=λx lo hi H Q=>∃a c,x=.ref a/\ef K H a c/\
 ¬(HT.cy c.length 0 lo=0/\HT.cy c.length c.length hi=c.length)/\∀p,H p=none->Q (.ref p) (upd H p (.tup (sO c lo hi)))
theorem HS:DO X (Ow X.K):=by
 intro i s y H x v C z lo hi E Q I m u pl n h;obtain⟨a,f,rfl,t,hw,q⟩:=h;cases m;obtain⟨g,r,l,j⟩:=I.tuple t;have c:g.toArray.size=f.length:=by rw[zaX];exact r.length.symm
 refine⟨"tuple",_,PyProof.Rows.slot_tuple_getitem.lookup,l.typeIs,?_⟩;refine HT.ji l u pl n (by rw[c];exact hw) ?_ (by rw[c];exact j);rw[c];refine⟨.ref s.heap.objs.size,_,I.laid (t':=s.toks) (o:=.tup (sO f lo hi)) (λb F q=>zaq _ q) (zcH _) ?_,rfl,q _ (I.hok.fresh (zcH _))⟩;exact⟨zcw (kH f lo hi) j,_,(r.drop (HT.cy f.length 0 lo)).take (HT.cy f.length f.length hi - HT.cy f.length 0 lo),IsTup.new _ _⟩
def LY(K:yaI):R2:=λx y H Q=>∃a b f c,x=.ref a/\y=.ref b/\ef K H a f/\ef K H b c/\f≠[]/\f.length+c.length<=yag/\
 (c=[]->Q (.ref a) H)/\(c≠[]->∀p,H p=none->Q (.ref p) (upd H p (.tup (f++c))))
theorem Vals.qv{a:List V}{us:List yai}(r:Vals a us):us=[]↔a=[]:=by
 cases r with
 |nil=>simp
 |cons _ _=>simp
theorem EN:fG X (binaryOp .Add) (LY X.K):=by
 intro g s P H x y v u Q I t n h;obtain⟨a,b,m,l,rfl,rfl,O,L,G,j,C,q2⟩:=h;cases t;cases n;obtain⟨F,f,E,_⟩:=I.tuple O;obtain⟨i,c,p2,_⟩:=I.tuple L;refine HT.FN E p2 (λz=>G (f.qv.mp z)) (λz=>⟨.ref a,H,I,rfl,C (c.qv.mp z)⟩) (λz=>?_) (by rw[<-f.length,<-c.length];exact j);refine⟨.ref s.heap.objs.size,_,I.laid (t':=s.toks) (o:=.tup (m++l)) (λb S q=>zaq _ q) (zcH _) ?_,rfl,q2 (λw=>z (c.qv.mpr w)) _ (I.hok.fresh (zcH _))⟩;exact⟨by rw[zaL];exact j,_,f.append c,IsTup.new _ _⟩
end
noncomputable def G4(n:Nat)(i:Int):Option Nat:=if 0<=i then(if i<n then some i.toNat else none) else if -(n:Int)<=i then some (i+n).toNat else none
noncomputable def fS{α:Type}(a:List α)(i:Int):Option α:=(G4 a.length i).bind λj=>a[j]?
theorem E9{n:Nat}{i:Int}{j:Nat}(h:G4 n i=some j):seqIndex? i n=some j/\j<n/\-(n:Int)<=i/\i<n:=by
 unfold G4 at h;by_cases c:0<=i
 ·rw[yIp c] at h;by_cases a:i<n
  ·rw[yIp a] at h;have e:i.toNat=j:=zcJ.inj h;exact⟨by rw[seqIndex_of c a,e],by lia,by lia,a⟩
  ·rw[yIn a] at h;cases h
 ·rw[yIn c] at h;by_cases a: -(n:Int)<=i
  ·rw[yIp a] at h;have e:(i+n).toNat=j:=zcJ.inj h;exact⟨by rw[seqIndex_neg (by lia) a,e],by lia,a,by lia⟩
  ·rw[yIn a] at h;cases h
theorem qG{α:Type}{a:List α}{i:Int}{v:α}(h:fS a i=some v):∃j,seqIndex? i a.length=some j/\a[j]? =some v/\j<a.length/\-(a.length:Int)<=i/\i<a.length:=by
 unfold fS at h;cases e:G4 a.length i with
 |none=>rw[e] at h;cases h
 |some j=>
  rw[e] at h;obtain⟨l,g,f,c⟩:=E9 e;exact⟨j,l,h,g,f,c⟩
theorem dj{α:Type}{a:List α}{j:Nat}{v:α}(h:a[j]? =some v):fS a (j:Int)=some v:=by
 have c:j<a.length:=(zae.mp h).1;have e:G4 a.length (j:Int)=some j:=by
  unfold G4;rw[yIp (by lia),yIp (by lia)];simp
 unfold fS;rw[e];exact h
def xY(b:Expr):Prop:=∀o i,subscripted b false o i=operate [o,i] (getItem o i)
def DP(X:Cx)(r:R2):Prop:=
 ∀(e a:Expr)(c:List (Addr×Obj))(s:yah)(f:St)(H:Hp)(x y:V)(v u:yai)(Q:VK),Inv X c f H s->RelV x v->RelV y u->r x y H Q->
  subscripted a false v u=operate [v,u] (getItem v u)->yar (model X.prog X.w) X.A (subscriptTail e a v u) (EP X c f Q) X.xe s
def DH(X:Cx)(id:String)(r:V->List V->Hp->VK->Prop):Prop:=
 ∀(a:List (Addr×Obj))(s:yah)(c:St)(H:Hp)(x:V)(e:List V)(v:yai)(f:List yai)(Q:VK),Inv X a c H s->RelV x v->Vals e f->r x e H Q->
  yar (model X.prog X.w) X.A (call (.builtin id) (v::f)) (EP X a c Q) X.xe s
section
variable {X:Cx}{a b:Expr}{ta tb:TE}{pos:Pos}
theorem DP.or{r l:R2}(h:DP X r)(h':DP X l):DP X (λx y H Q=>r x y H Q∨l x y H Q):=by
 intro c e f s g H x y v u Q I j i q m;rcases q with q|q
 ·exact h c e f s g H x y v u Q I j i q m
 ·exact h' c e f s g H x y v u Q I j i q m
theorem DH.or{id:String}{r l:V->List V->Hp->VK->Prop}(h:DH X id r)(h':DH X id l):DH X id (λx e H Q=>r x e H Q∨l x e H Q):=by
 intro c s f H x e v g Q I i j q;rcases q with q|q
 ·exact h c s f H x e v g Q I i j q
 ·exact h' c s f H x e v g Q I i j q
theorem ao{r:R2}(l:DP X r)(n:PE X a ta)(m:PE X b tb)(j:xY b):PE X (.Subscript a b pos) (Lk r ta tb):=by
 intro c s e H Q I h;exact Subscript_ (Kz n m I h λv u f x y t o i g q=>l a b c f e t x y v u Q o i g q (j _ _))
def LW(K:yaI):R2:=λx y H Q=>∃p c i v,x=.ref p/\y=.int i/\cV K H p c/\fS c i=some v/\Q v H
def LU(K:yaI):R2:=λx y H Q=>∃p c i v,x=.ref p/\y=.int i/\ef K H p c/\fS c i=some v/\Q v H
def LV:R2:=λx y H Q=>∃z i c,x=.str z/\y=.int i/\z.length<=yag/\fS z.cps.toList i=some c/\Q (.str ⟨#[c]⟩) H
theorem E8:DP X (LW X.K):=by
 intro g l c s C H x y v u Q I P O h E;obtain⟨p,xs,i,z,rfl,rfl,S,W,q⟩:=h;cases P;obtain⟨t,rfl⟩:=O;obtain⟨n,r,pl,hz⟩:=I.list S;obtain⟨j,f,h2,h3,Z,Y⟩:=qG W;obtain⟨w,G,m⟩:=r.get h2;have U:=r.length;have hn:=m7;have e:EP X c C Q w s:=⟨z,H,I,m,q⟩
 by_cases F:0<=i
 ·have o:i.toNat=j:=by
   rw[seqIndex_of F Y] at f;exact zcJ.inj f
  exact item_listR pl.isList F (by lia) (by rw[o];simpa using G) e E
 ·have o:(i+(n.toArray.size:Int)).toNat=j:=by
   rw[seqIndex_neg (by lia) Z] at f;rw[zaX,<-U];exact zcJ.inj f
  exact subscriptTail_builtinR (x:=w) pl.isList.typeIs slot_list_getitem.lookup
   (wpAny_getItem_list_neg (Q:=λr L=>r=w/\EP X c C Q r L) pl.isList (by lia) (by rw[zaX]<;>lia) (by lia) (by rw[o];simpa using G) ⟨rfl,e⟩) E
theorem aS:DP X (LU X.K):=by
 intro e f c s m H x y v u Q I C o h F;obtain⟨p,W,i,z,rfl,rfl,G,O,q⟩:=h;cases C;obtain⟨t,rfl⟩:=o;obtain⟨E,r,pl,Y⟩:=I.tuple G;obtain⟨j,S,P,h3,h4,h5⟩:=qG O;obtain⟨w,U,g⟩:=r.get P;have L:=r.length;have Z:=m7;have l:EP X c m Q w s:=⟨z,H,I,g,q⟩
 exact subscriptTail_builtinR (x:=w) pl.typeIs slot_tuple_getitem.lookup
  (getItem_tuple (j:=j) (Q:=λr n=>r=w/\EP X c m Q r n) pl (by lia) (by lia) (by rw[zaX,<-L];exact S) (by simpa using U) ⟨rfl,l⟩) F
theorem JU:DP X LV:=by
 intro e f g s S H x y v u Q I n m h o;obtain⟨z,i,c,rfl,rfl,W,E,q⟩:=h;obtain⟨t,rfl⟩:=n;obtain⟨U,rfl⟩:=m;obtain⟨j,l,L,Z,G,F⟩:=qG E;have C:z.cps.toList.length=z.length:=by simp[Str.length]
 rw[C] at l G F;have Y:=m7;exact tail_any (typeIs_str s z t) slot_str_getitem.lookup (getItem_str (c:=c) (by
  have P:decide (i< -(2 ^ 63:Int))=false:=yDf (by lia);have O:decide (i≥2 ^ 63)=false:=yDf (by lia);rw[P,O,Bool.or_false]) (by rw[l];simpa using L) ⟨.str ⟨#[c]⟩,H,I.tok _,⟨_,rfl⟩,q⟩) o
def rIx(K:yaI):R2:=λx y H Q=>LW K x y H Q∨LU K x y H Q∨LV x y H Q
theorem JV:DP X (rIx X.K):=E8.or (aS.or JU)
theorem qa(c e:Option Int)(n:Nat):(sliceBounds c e none n).1=((HT.cy n 0 c:Nat):Int)/\(sliceBounds c e none n).2.1=((HT.cy n n e:Nat):Int)/\(sliceBounds c e none n).2.2=1:=by
 refine⟨?_,?_,rfl⟩
 ·cases c with
  |none=>simp[sliceBounds,HT.cy]
  |some i=>
   simp only[sliceBounds,HT.cy,Option.getD_none,show(1:Int)> 0 by decide,if_true];by_cases h:i<0
   ·simp only[h,if_true]<;>lia
   ·simp only[h,if_false]<;>lia
 ·cases e with
  |none=>simp[sliceBounds,HT.cy]
  |some i=>
   simp only[sliceBounds,HT.cy,Option.getD_none,show(1:Int)> 0 by decide,if_true];by_cases h:i<0
   ·simp only[h,if_true]<;>lia
   ·simp only[h,if_false]<;>lia
theorem ou(its:List yai)(c e:Option Int):slicePick its.toArray c e none=((its.drop (HT.cy its.length 0 c)).take (HT.cy its.length its.length e - HT.cy its.length 0 c)).toArray:=by
 obtain⟨h,g,f⟩:=qa c e its.toArray.size;unfold slicePick;rw[h,g,f];simp only[sliceRange_one,pick_run,zaX]<;>rfl
def Ox(K:yaI):V->Option Int->Option Int->Hp->VK->Prop:=λx e f H Q=>∃a c,x=.ref a/\cV K H a c/\∀p,H p=none->Q (.ref p) (upd H p (.lst (sO c e f)))
theorem D4:DO X (Ox X.K):=by
 intro i s z H x v E C f g F Q I l y pl m h;obtain⟨a,c,rfl,u,q⟩:=h;cases l;obtain⟨n,r,j,t⟩:=I.list u;have e:=r.length;refine⟨"list",_,slot_list_getitem.lookup,j.isList.typeIs,?_⟩;refine wpAny_getItem_list_slice j.isList y pl m .none (by simp) ?_ (by rw[zaX]<;>lia);rw[ou,<-e];refine⟨.ref s.heap.objs.size,_,I.laid (t':=s.toks) (o:=.lst (sO c f g)) (λb G q=>zaq _ q) (zcH _) ?_,rfl,q _ (I.hok.fresh (zcH _))⟩;exact⟨zcw (kH c f g) t,_,0,(r.drop (HT.cy c.length 0 f)).take (HT.cy c.length c.length g - HT.cy c.length 0 f),zaJ _ rfl⟩
theorem qF:bW X (.type "list") (λE H Q=>∃p g,E=[.ref p]/\(cV X.K H p g∨ef X.K H p g)/\∀l,H l=none->Q (.ref l) (upd H l (.lst g))):=by
 intro m s G H E O Q I r h;obtain⟨p,g,rfl,v,q⟩:=h;obtain⟨u,rfl,L⟩:=vals1 r;cases L;have y:∀(c:List yai),Vals g c->g.length<=yag->∀(f:Heap)(j:Nat),(∀b F,s.heap.get? b=some F->f.get? b=some F)->
   f.get? s.heap.objs.size=some {cls:=.type "list",dict:=none,data:=.seq c.toArray j,slots:=#[]}->EP X m G Q (.ref s.heap.objs.size) {s with heap:=f}:=λc i t f j kp e=>
  ⟨.ref s.heap.objs.size,_,I.laid (t':=s.toks) kp (zcH _) (show aJ X.prog X.w _ f _ (.lst g) from⟨t,c,j,i,e⟩),rfl,q _ (I.hok.fresh (zcH _))⟩
 rcases v with v|v
 ·obtain⟨c,i,pl,t⟩:=I.list v;have x:=i.length;obtain⟨o,z,C,n,hd⟩:=pl.isList;exact call_list_seq p (.inl rfl) z C hd (λf j kp e=>y c i t f j kp e) (by simp only[zaX]<;>lia)
 ·obtain⟨c,i,pl,t⟩:=I.tuple v;have x:=i.length;obtain⟨o,z,C,n,hd⟩:=pl;exact call_list_seq p (.inr rfl) z C hd (λf j kp e=>y c i t f j kp e) (by simp only[zaX]<;>lia)
theorem oF:bW X (.type "tuple") (λt H Q=>∃p g,t=[.ref p]/\((cV X.K H p g/\∀l,H l=none->Q (.ref l) (upd H l (.tup g)))∨(ef X.K H p g/\Q (.ref p) H))):=by
 intro c s n H t E Q I r h;obtain⟨p,g,rfl,h⟩:=h;obtain⟨u,rfl,z⟩:=vals1 r;cases z;rcases h with⟨m,q⟩|⟨m,q⟩
 ·obtain⟨f,j,pl,v⟩:=I.list m;have x:=j.length;refine call_tuple_list pl.isList (λi kp=>?_) (by simp only[zaX]<;>lia);have y:Inv X c n H {s with heap:=i}:=I.kept (t':=s.toks) kp;have C:Inv X c n (upd H i.objs.size (.tup g)) {s with heap:=i.push {cls:=.type "tuple",data:=.seq f.toArray}}:=
   y.laid (t':=s.toks) (λb o e=>zaq _ e) (zcH _) (show aJ X.prog X.w _ _ _ (.tup g) from⟨v,f,j,IsTup.new _ _⟩)
  exact⟨.ref i.objs.size,_,C,rfl,q _ (y.hok.fresh (zcH _))⟩
 ·obtain⟨f,j,pl,v⟩:=I.tuple m;exact call_tuple_same pl ⟨.ref p,H,I,rfl,q⟩
def Od(K:yaI)(T:String)(x:V)(H:Hp):Prop:=match x with
 |.str _=>T="str"
 |.int _=>T="int"
 |.ref p=>(T="list"/\∃e,cV K H p e)∨(T="tuple"/\∃o,K.lookup p=some o/\o.cls=.type "tuple"/\o.dict=none)∨
   (T="dict"/\((∃c,H p=some (.dK c))∨∃c,H p=some (.dT c)))∨(T="set"/\∃S n,H p=some (.set S n))
 |_=>False
theorem HF{g:List (Addr×Obj)}{l:St}{H:Hp}{s:yah}{T:String}{x:V}{v:yai}(I:Inv X g l H s)(r:RelV x v)(ty:Od X.K T x H):
  s.TypeIs v T/\∀a,v=.ref a->∃ob,s.heap.get? a=some ob/\ob.dict=none:=by
 cases x with
 |str z=>
  obtain⟨t,rfl⟩:=r;cases(show T="str" from ty);exact⟨typeIs_str s z t,λ_ e=>nomatch e⟩
 |int i=>
  obtain⟨t,rfl⟩:=r;cases(show T="int" from ty);exact⟨typeIs_int s i t,λ_ e=>nomatch e⟩
 |ref p=>
  cases r;rcases ty with⟨rfl,y,q⟩|⟨rfl,o,f,u,hd⟩|⟨rfl,f⟩|⟨rfl,S,n,f⟩
  ·obtain⟨m,_,pl,_⟩:=I.list q;refine⟨pl.isList.typeIs,λa e=>?_⟩;cases e;obtain⟨o,n,e,c,hd,_⟩:=pl;exact⟨o,e,hd⟩
  ·refine⟨⟨o,I.jN p o f,u⟩,λa e=>?_⟩;cases e;exact⟨o,I.jN _ o f,hd⟩
  ·have z:∃o,s.heap.get? p=some o/\o.ExactDict:=by
    rcases f with⟨h,f⟩|⟨h,f⟩
    ·obtain⟨_,_,_,_,o,_,_,e,ex,_⟩:=I.hok p _ f;exact⟨o,e,ex⟩
    ·obtain⟨_,_,_,_,o,_,_,e,ex,_⟩:=I.hok p _ f;exact⟨o,e,ex⟩
   obtain⟨o,e,ex⟩:=z;refine⟨⟨o,e,ex.1⟩,λa j=>?_⟩;cases j;exact⟨o,e,ex.2.1⟩
  ·obtain⟨o,_,_,_,e,ex,_⟩:=I.hok p _ f;refine⟨⟨o,e,ex.1⟩,λa j=>?_⟩;cases j;exact⟨o,e,ex.2.1⟩
 |_=>exact False.elim ty
def Of(K:yaI)(T:String)(r:V->List V->Hp->VK->Prop)(g:TE)(t:TA):TE:=λc H Q=>g c H λx e=>Od K T x e/\t c e λf h=>r x f h Q
variable {o e:Expr}{es:List Expr}{to:TE}{t:TA}{name:Str}{apos cpos:Pos}{T id:String}{r:V->List V->Hp->VK->Prop}
theorem iD(L:PlainAttrs T)(slot:Slot T name id)(m:typeOf (.builtin id)=pure (.type "method_descriptor"))(S:DH X id r)(P:PE X o to)(U:PA X (e::es) t)(i:attributeBase o name X.env (eval o X.env)=eval o X.env:=by rfl)(j:((yau cpos (yao (e::es) X.env)).all (λx=>!x.1)&&(yaE cpos (yaD [] X.env)).all (λx=>x.1.isSome)&&decide ((e::es).length+([]:List Keyword).length+(if([]:List Keyword).isEmpty then 0 else 1)<30))=true:=by rfl)(g:(apos.endLine==cpos.line)=true:=by rfl)(O:yao (e::es) X.env=(false,eval e X.env)::yao es X.env:=by rfl)(f:(yau cpos (yao es X.env)).any (·.1)=false:=by rfl):
  PE X (.Call (.Attribute o name apos) (e::es) [] cpos) (Of X.K T r to t):=by
 intro c s l H Q I h;refine wpAny_Call_method_late i j g rfl (b6 (P c s l H _ I h) λv E ⟨x,H1,u,n,ty,G⟩=>?_);obtain⟨Y,W⟩:=HF u n ty;refine⟨T,id,L,slot,m,Y,W,?_⟩;have q:=U cpos c E l H1 _ u G;rw[O] at q⊢;refine zas (by show(false||(yau cpos (yao es X.env)).any (·.1))=false;rw[f]<;>rfl) (Calls.evalArgs_plain ?_);exact b6 q λz C ⟨y,H2,Z,F,q2⟩=>S c C l H2 x y v z Q Z n F q2
end
def PZ(X:Cx)(id:String)(r:V->List V->Hp->VK->Prop):Prop:=
 ∀(a:List (Addr×Obj))(s:yah)(c:St)(H:Hp)(x:V)(e:List V)(v:yai)(f:List yai)(Q:VK),Inv X a c H s->RelV x v->Vals e f->r x e H Q->
  yar (model X.prog X.w) X.A (call (.builtin id) (v::f)) (EP X a c Q) X.xe s
theorem Vals.one:∀{x:V}{us:List yai},Vals [x] us->∃u,us=[u]/\RelV x u
 |_,_,.cons r .nil=>⟨_,rfl,r⟩
theorem Vals.rep{a:List V}{us:List yai}(h:Vals a us):∀k:Nat,Vals (zcb k a).flatten (zcb k us).flatten
 |0=>.nil
 |k+1=>by
  rw[zaE,zaE,zba,zba];exact Vals.append h (Vals.rep h k)
theorem foldl_rep(its:List yai):∀(k:Nat)(a:List yai),
  List.foldl (λf c=>f++c) a.toArray (zcb k its.toArray)=(a++(zcb k its).flatten).toArray
 |0,a=>by simp
 |k+1,a=>by
  have e:a.toArray++its.toArray=(a++its).toArray:=by simp
  have g:(a++its)++(zcb k its).flatten=a++(zcb (k+1) its).flatten:=by
   rw[zaE,zba,zbb]
  rw[<-g,<-foldl_rep its k (a++its),<-e,zaE,zbQ]
section
variable {X:Cx}{pins:List (Addr×Obj)}{σ:St}{H:Hp}{s:yah}{l b:Addr}{xs ys zs:List V}
theorem Inv.JK{its its':List yai}{n:Nat}{f:Array yai->Array yai}{t':Nat}(I:Inv X pins σ H s)(i:H l=some (.lst xs))(e:s.heap.get? l=some {cls:=.type "list",data:=.seq its.toArray n})(g:f its.toArray=its'.toArray)(a:Vals ys its')(hz:ys.length<=yag):
  Inv X pins σ (upd H l (.lst ys)) {s with heap:=s.heap.update l (Obj.mapSeq f),toks:=t'}:=by
 have q:=PySem.IsL.update e f;rw[g] at q;refine I.write (x:=l) (e:=l) (by rw[i];exact trivial) (.inl rfl) (λj u h c=>(zar s.heap (Obj.mapSeq f) (Ne.symm h)).trans c) ⟨_,q⟩ ?_;exact⟨hz,its',_,a,q⟩
theorem Inv.Mw{its:List yai}{t':Nat}(I:Inv X pins σ H s)(a:Vals ys its)(hz:ys.length<=yag):
  Inv X pins σ (upd H s.heap.objs.size (.lst ys)) {s with heap:=s.heap.push {cls:=.type "list",data:=.seq its.toArray},toks:=t'}:=
 I.laid (λ_ _ q=>zaq _ q) (zcH _) ⟨hz,its,0,a,zaJ _ rfl⟩
theorem Inv.fresh(I:Inv X pins σ H s):H s.heap.objs.size=none:=I.hok.fresh (zcH _)
theorem Inv.uW(I:Inv X pins σ H s)(a:H l=some (.lst xs)):xs.length<=yag/\∃(its:List yai)(n:Nat),Vals xs its/\xs.length=its.length/\s.heap.get? l=some {cls:=.type "list",data:=.seq its.toArray n}:=by
 obtain⟨z,its,n,r,e⟩:=I.hok l _ a;exact⟨z,its,n,r,r.length,e⟩
theorem mQ{n:Nat}(h:n<=yag):Builtin.List.listTooLong n=false:=by
 unfold Builtin.List.listTooLong;exact yDf (by lia)
end
section
variable {X:Cx}
def wU:V->List V->Hp->VK->Prop:=λx c H Q=>∃l a y,x=.ref l/\c=[y]/\H l=some (.lst a)/\a.length<yag/\Q .bq (upd H l (.lst (a++[y])))
theorem yP:PZ X "list.append" wU:=by
 intro c s j H x o v t Q I g i h;obtain⟨l,m,y,rfl,rfl,f,C,q⟩:=h;cases g;obtain⟨u,rfl,ru⟩:=i.one;obtain⟨z,a,n,r,E,e⟩:=I.uW f;refine call_meets F.slot_list_append ⟨_,e,rfl⟩ F.entry_list_append (F.args_list_append_2 _ _) (PySem.list_append l a.toArray n u (by rw[zaX];lia)) ⟨e,?_⟩;refine⟨.bq,_,I.JK (its':=a++[u]) f e (by simp) (r.append (.cons ru .nil)) ?_,rfl,q⟩;rw[zaL,List.length_singleton];lia
def wR:V->List V->Hp->VK->Prop:=λx e H Q=>∃l b c a,x=.ref l/\e=[.ref b]/\H l=some (.lst c)/\H b=some (.lst a)/\c.length+a.length<=yag/\Q .bq (upd H l (.lst (c++a)))
theorem yO:PZ X "list.extend" wR:=by
 intro g s L H x U v W Q I m o h;obtain⟨l,b,S,O,rfl,rfl,i,E,Y,q⟩:=h;cases m;obtain⟨u,rfl,ru⟩:=o.one;cases ru;obtain⟨z,c,n,r,Z,e⟩:=I.uW i;obtain⟨P,a,y,t,C,G⟩:=I.uW E;have f:c.toArray.size+a.toArray.size<=yag:=by rw[zaX,zaX];lia
 have j:¬(!c.toArray.isEmpty&&Builtin.List.listTooLong (c.toArray.size+a.toArray.size))=true:=by
  rw[mQ f,Bool.and_false];exact zaS
 refine call_meets F.slot_list_extend ⟨_,e,rfl⟩ F.entry_list_extend (F.args_list_extend_2 _ _)
  (AutoSeq1.list_extend_list_list_0 l c.toArray n b a.toArray y j (by rw[zaX];lia) (by lia)) ⟨e,G,?_⟩
 refine⟨.bq,_,I.JK (its':=c++a) i e (by simp) (r.append t) ?_,rfl,q⟩;rw[zaL];lia
def OE:R2:=λx y H Q=>∃l b c a,x=.ref l/\y=.ref b/\H l=some (.lst c)/\H b=some (.lst a)/\c.length+a.length<=yag/\∀p,H p=none->Q (.ref p) (upd H p (.lst (c++a)))
theorem Ju:fG X (binaryOp .Add) OE:=by
 intro f s F H x y v u Q I i g h;obtain⟨l,b,O,G,rfl,rfl,o,t,U,q⟩:=h;cases i;cases g;obtain⟨z,c,n,r,W,e⟩:=I.uW o;obtain⟨L,a,S,j,m,E⟩:=I.uW t;refine PySem.P.add_list e E ?_ (by rw[zaX,zaX];lia);have C:c.toArray++a.toArray=(c++a).toArray:=by simp
 rw[C];exact⟨.ref _,_,I.Mw (t':=s.toks) (r.append j) (by rw[zaL];lia),rfl,q _ I.fresh⟩
def Oz:R2:=λx y H Q=>∃l k a,x=.ref l/\y=.int k/\H l=some (.lst a)/\-(2 ^ 63)<=k/\k<2 ^ 63/\a.length*k.toNat<=yag/\
 ∀p,H p=none->Q (.ref p) (upd H p (.lst (zcb k.toNat a).flatten))
theorem len_rep{α:Type}(a:List α)(k:Nat):(zcb k a).flatten.length=k*a.length:=by
 induction k with
 |zero=>simp
 |succ k ih=>rw[zaE,zba,zaL,ih,Nat.succ_mul,Nat.add_comm]
theorem Jj:fG X (binaryOp .Mult) Oz:=by
 intro E s σ H x y v u Q I S P h;obtain⟨l,k,xs,rfl,rfl,Y,h1,Z,G,q⟩:=h;cases S;obtain⟨t,rfl⟩:=P;obtain⟨z,c,n,r,W,e⟩:=I.uW Y;have g:c.toArray.size*k.toNat<=yag:=by rw[zaX,<-W];exact G
 have j:¬c.toArray.size*k.toNat> (2 ^ 63 - 1) / 8:=by
  have:(yag:Nat)<=(2 ^ 63 - 1) / 8:=by decide
  lia
 have i:¬(!Builtin.List.listFitsIndex k)=true:=by
  rw[fitsIndex_both h1 Z];exact zaS
 have L:¬Builtin.List.listTooLong (c.toArray.size*k.toNat)=true:=by
  rw[mQ g];exact zaS
 have f:List.foldl (λC o=>C++o) #[] (zcb (if c.toArray.isEmpty=true then 0 else k.toNat) c.toArray)=(zcb k.toNat c).flatten.toArray:=by
  have f0:∀m:Nat,List.foldl (λC o=>C++o) #[] (zcb m c.toArray)=(zcb m c).flatten.toArray:=λm=>by
   have:=foldl_rep c m [];rw[zbR] at this;exact this
  rw[f0];cases c with
  |nil=>simp
  |cons a r'=>rw[yIn (by simp)]
 refine wpAny_binaryOp_repeat_ref (T:="list") (U:="int") (by decide) ⟨_,e,rfl⟩ (λO=>typeIs_int O k t) noFill_list_mul F.fills_int_mul F.slot_int_rmul repeat_list F.slot_int_index.lookup
  (call_meets F.slot_int_rmul (typeIs_int s k t) F.entry_int_rmul (F.args_int_rmul_2 _ _) (int___rmul___int_list k t l c.toArray n) ⟨e,rfl,⟨_,e,rfl⟩,call_meets F.slot_list_mul ⟨_,e,rfl⟩ F.entry_list_mul (F.args_list_mul_2 _ _) (AutoListH.list___mul___list_int_3 l c.toArray n k t i j L) ⟨e,?_⟩⟩)
 rw[f];exact⟨.ref _,_,I.Mw (t':=s.toks) (r.rep k.toNat) (by rw[len_rep,Nat.mul_comm];exact G),rfl,q _ I.fresh⟩
end
end L2
namespace Att
open PySem PySem.W PySem.Calls PyProof.Rows
theorem kM{P:Params}{h:Heap}:∀(ns:List Int)(vs:List yai),WellAll P h vs (ns.map WData.int)->IntsAre vs ns:=by
 intro ns
 induction ns with
 |nil=>
  intro vs w;rw[zcr] at w;cases w;exact .nil
 |cons n ns ih=>
  intro vs w;rw[zch] at w;cases w with
  |cons a b=>
   cases a;exact .cons _ _ (ih _ b)
theorem yx{l:OpenLaw}{n:Nat}(t:l.most=some n){P:Params}{h:Heap}{args:List WData}{c:List yai}(e:l.row.toRowW.claim.pre args=true)(j:WellAll P h c args):
  ∃a vs ns,c=[Value.ref a]/\args=[WData.list (ns.map WData.int)]/\h.get? a=some {cls:=.type "list",data:=.seq vs.toArray}/\IntsAre vs ns/\ns.length<=n:=by
 have m:WShape.hasAll [] args [.list .int]=true:=(pre_splitW e).1;have o:l.pre.holds [] {args:=args}=true:=(pre_splitW e).2;obtain⟨d,r,rfl,x,v⟩:=hasAllW_cons m;obtain rfl:=hasAllW_nil v;obtain⟨y,rfl,u⟩:=hasW_list x;obtain⟨ns,rfl⟩:=items_int u;have f:ns.length<=n:=by
  unfold OpenLaw.pre at o;have i:(WTm.not (.lt (.lit (.int (n:Int))) (.len (.arg 0)))).holds [] {args:=[.list (ns.map .int)]}=true:=by
   have i:=(holds_andW o).1;rw[t] at i;exact i
  have g:=condW_of i (w_not (w_lt w_lit (w_len_list (w_arg rfl))));rw[zbK] at g;refine Nat.le_of_not_lt λq=>?_;have s:(n:Int)<((ns.length:Nat):Int):=by lia
  first
   |(rw[yDt s] at g;exact absurd g (by decide))
   |(simp at g;lia)
 cases j with
 |cons w1 w2=>
  cases w2;cases w1 with
  |list ho hall=>exact⟨_,_,ns,rfl,rfl,ho,kM ns _ hall,f⟩
theorem yC(l:OpenLaw)(args:List WData):l.row.toRowW.claim.post args (.bool true) args=true:=
 postW_of (r:=l.row.toRowW) (X:=(true==true))
  (show WShape.has [] (.bool true) .bool=true by first|rfl|decide|simp[WShape.has,WShape.arms,WShape.armsAll])
  (show(WTm.eq .res (.lit (.bool true))).value [] {args:=args,res:=some (.bool true),after:=args}=some (.bool (true==true)) from w_eq_bool (w_res rfl) w_lit) rfl
theorem tu{l:OpenLaw}{n:Nat}{q:yaj}{e:List Str}{L:(Str->Option yai)->Heap->Prop}{I:yak->Heap->Prop}{d:DefRec}(S:l.most=some n)(y:d.params.defaults=[])(call:∀(w:yak)(s₀ c:yah)(mg mb:Str->Option yai)(s:Addr)(o:Obj)(u t h:yai)(a:Addr)(vs:List yai)(ns:List Int),Ground q e [] L w s₀ mg mb c.heap->I w c.heap->c.heap.get? s=some o->o.data=.func (docDef d.name d.params d.body d.scope u t h)->c.heap.CodeRec t d.name->mg d.name=some (.ref s)->c.heap.get? a=some {cls:=.type "list",data:=.seq vs.toArray}->IntsAre vs ns->ns.length<=n->c.gens=#[]->codeAny (model l.prog w) callerA (.call (.ref s) ⟨[.ref a],[]⟩) (λr s'=>r=.ok (.ret (.bool true))/\OldK c.heap s'.heap/\s'.os=c.os/\AllBare s'.gens) c):
  WalkO q e L I l.row.toRowW d [] (λf vs=>PySem.call f vs):=by
 intro w s₀ c mg mb G Y s o u t h dV kV Q hd z F x X H C as i E O v W;obtain rfl:dV=.none:=Dflts.none F y;obtain rfl:kV=.none:=Dflts.noKw F;obtain⟨a,vs,ns,rfl,rfl,j,g,m⟩:=yx S i v;refine enter_call (yax (call w s₀ c mg mb s o u t h a vs ns G Y Q (fd_plain hd) z x j g m X) λr s' P=>?_);obtain⟨rfl,h2,h3,Z⟩:=P;exact⟨.inl ⟨.bool true,.bool true,[],rfl,λ_=>rfl,.bool true,yC l _,λ_=>⟨List.Pairwise.nil,λ_ U=>(nomatch U)⟩⟩,h2,h3,Z⟩
end Att
namespace L2
open PySem PySem.Spec PyProof.Rows
theorem oO:∀{vs:List yai}{ns:List Int},IntsAre vs ns->Vals (ns.map V.int) vs
 |_,_,.nil=>.nil
 |_,_,.cons n t h=>.cons ⟨t,rfl⟩ (oO h)
def KW(H:Hp):Prop:=∀b,H b=none∨∃o a,H b=some (.xE o (.lst a))
theorem B7{P:yaj}{w:yak}{K:yaI}{mg mb:Str->Option yai}{CX:DK}{k:Nat}{X a:Addr}{fd:yap}{x:Str}{sp:Sp}{c:yah}{vs:List yai}{ns:List Int}(KX:K.In c.heap)(y:c.heap.Ns yaq mg)(f:c.heap.Ns builtinsNs mb)(U:∀x:Str,x≠"__name__"->mb x=bootBuiltins x)(C:c.heap.NoLimit)(hg:c.gens=#[])(L:c.heap.get? a=some {cls:=.type "list",data:=.seq vs.toArray})(hi:IntsAre vs ns)(hl:ns.length<=yag)(hr:aQ k callerA)(F:∀base:Heap,K.In base->base.Ns yaq mg->cW P w K mg base CX k X fd [x] sp)(j:∀(s:yah)(u:yai),yaB s fd ⟨[u],[]⟩ [(x,u)])(Q:∀H:Hp,KW H->cV K H a (ns.map V.int)->sp [.ref a] H (λv _=>v=.bl true) λ_ _ _=>False)(W:∀H e s',CX [] H c (λ_ _ _=>False) e s'->False):
  codeAny (model P w) callerA (.call (.ref X) ⟨[.ref a],[]⟩) (λr s'=>r=.ok (.ret (.bool true))/\OldK c.heap s'.heap/\s'.os=c.os/\AllBare s'.gens) c:=by
 have rv:=oO hi;have OM:=hi.length;have i:∀H:Hp,KW H->cV K H a (ns.map V.int)->iC P w H c.heap->(∀b,H b≠none->b=a)->(H a≠none->K.lookup a=none)->
   codeAny (model P w) callerA (.call (.ref X) ⟨[.ref a],[]⟩) (λr s'=>r=.ok (.ret (.bool true))/\OldK c.heap s'.heap/\s'.os=c.os/\AllBare s'.gens) c:=by
  intro H hO hS hok hA hK;have Z:∀{b:Addr}{o:Obj},c.heap.get? b=some o->H b=none->(qz c.heap H).get? b=some o:=λe n=>Cd e n;have O:∀{b:Addr}{o:Obj}{G:Array yav}{I:Nat},c.heap.get? b=some o->o.data=.dict G I->H b=none:=λ{b o G I} e d=>by
   cases q:H b with
   |none=>rfl
   |some u=>
    have Y:b=a:=hA b (by rw[q];simp);subst Y;rw[L] at e;cases e;have d':Data.seq vs.toArray _=Data.dict G I:=d;cases d'
  have g:∀{b:Addr}{m:Str->Option yai},c.heap.Ns b m->(qz c.heap H).Ns b m:=λ{b m} ⟨o,G,I,e,d,r⟩=>⟨o,G,I,Z e (O e d),d,r⟩
  have E:K.In (qz c.heap H):=λb o e=>Z (KX b o e) (by
   cases q:H b with
   |none=>rfl
   |some u=>
    have Y:b=a:=hA b (by rw[q];simp);subst Y;rw[hK (by rw[q];simp)] at e;cases e)
  have hM:Mod K mg (qz c.heap H):=⟨E,g y,⟨mb,g f,U⟩,let⟨mc,h1,h2⟩:=C;⟨mc,g h1,h2⟩⟩
  have e0:vU P w K mg (qz c.heap H) callerA [] c H:=⟨rfl,hM,λb o e=>EU e,Nat.le_of_eq (zc _ _),trivial,λb f=>absurd (show b∈([]:List Addr) from f) (by simp),hok,.of_eq hg⟩
  refine yax ((F _ E (g y)).run callerA [] c H ⟨[.ref a],[]⟩ [.ref a] [.ref a] _ _ hr e0 (j c (.ref a)) (.cons rfl .nil) (Q H hO hS)) λr s' h=>?_;cases r with
  |error e=>exact(W H e s' h).elim
  |ok fl=>
   cases fl with
   |next=>exact False.elim h
   |brk=>exact False.elim h
   |cont=>exact False.elim h
   |ret u=>
    obtain⟨v,H',os,bare,un,t,r',q⟩:=h;have q':v=.bl true:=q;subst q';obtain rfl:u=Value.bool true:=r';refine⟨rfl,OldK.of_keep λb o e=>?_,os,bare⟩;cases q:H b with
    |none=>exact un.keep b o e q (by intro z;exact absurd (show b∈([]:List Addr) from z) (by simp)) (by simp)
    |some u=>
     rcases hO b with z|⟨ob,xs,z⟩
     ·rw[q] at z;cases z
     ·have z2:=un.oA b ob _ z;obtain⟨e1,_⟩:=hok b _ z;obtain⟨e2,_⟩:=t b _ z2;rw[e] at e1;cases e1;exact e2
 cases S:K.lookup a with
 |some o=>
  have e:=KX a o S;rw[L] at e;cases e;refine i (λ_=>none) (λ_=>.inl rfl) (.inr ⟨_,vs.toArray,_,S,rfl,rfl,rfl,by rw[zaX,OM];exact hl,by simpa using rv⟩) (λb u z=>by have l:(none:Option HO)=some u:=z;cases l) (λb z=>absurd rfl z) λz=>absurd rfl z
 |none=>
  refine i (λb=>if b=a then some (.xE {cls:=.type "list",data:=.seq vs.toArray} (.lst (ns.map V.int))) else none) (λb=>?_) (.inl (.inr ⟨{cls:=.type "list",data:=.seq vs.toArray},yIp rfl⟩)) (λb u z=>?_) (λb z=>?_) λ_=>S
  ·by_cases f:b=a
   ·exact .inr ⟨_,_,yIp f⟩
   ·exact .inl (yIn f)
  ·by_cases f:b=a
   ·have l:=(yIp f).symm.trans z;cases l;subst f;exact⟨L,by rw[zbK];exact hl,vs,_,rv,L⟩
   ·have l:=(yIn f).symm.trans z;cases l
  ·by_cases f:b=a
   ·exact f
   ·exact absurd (yIn f) z
theorem DR{l:PySem.W.OpenLaw}{n k:Nat}{q:yaj}{i:List Str}{XP:(Str->Option yai)->Heap->Prop}{O:yak->Heap->Prop}{d:DefRec}{K:Params->yaI}{CX:yak->DK}{sp:yak->Sp}{x:Str}(S:l.most=some n)(C:n<=yag)(I:d.params.defaults=[])(Q:aQ k callerA)(hY:∀(w:yak)(h:Heap),O w h->(K w.params).In h)(F:∀(w:yak)(mg:Str->Option yai)(y:Addr)(h:Heap),(K w.params).In h->h.Ns yaq mg->mg d.name=some (.ref y)->∃fd:yap,(∀(s:yah)(u:yai),yaB s fd ⟨[u],[]⟩ [(x,u)])/\∀base:Heap,(K w.params).In base->base.Ns yaq mg->cW l.prog w (K w.params) mg base (CX w) k y fd [x] (sp w))(z:∀(w:yak)(H:Hp)(a:Addr)(ns:List Int),ns.length<=n->KW H->cV (K w.params) H a (ns.map V.int)->sp w [.ref a] H (λv _=>v=.bl true) λ_ _ _=>False)(L:∀(w:yak)(H:Hp)(s:yah)(e:yai)(s':yah),CX w [] H s (λ_ _ _=>False) e s'->False):
  PySem.W.WalkO q i XP O l.row.toRowW d [] (λf vs=>PySem.call f vs):=by
 refine Att.tu S I λw s₀ m mg mb y o pm cd doc a vs ns G Y ho hd X E t j c U=>?_;have P:=hY w _ Y;obtain⟨fd,Z,hF⟩:=F w mg y _ P G.T.g E;exact B7 P G.T.g G.T.b G.T.builtins G.T.nolimit U t j (zcw c C) Q hF Z (λH hO hS=>z w H a ns c hO hS) λH e s'=>L w H m e s'
noncomputable def inClass(s:Stmt)(j:Nat):Stmt:=match s with
 |.ClassDef _ _ _ body _ _ _ _ _ _ _=>body.getD j (.Pass ⟨0,0,0,0⟩)
 |_=>.Pass ⟨0,0,0,0⟩
noncomputable def cO(s:Stmt):Arguments:=match s with
 |.FunctionDef _ a _ _ _ _ _ _ _ _=>a
 |_=>{posonlyargs:=[],args:=[],vararg:=none,kwonlyargs:=[],kw_defaults:=[],kwarg:=none,defaults:=[]}
noncomputable def bw(s:Stmt):List Stmt:=match s with
 |.FunctionDef _ _ b _ _ _ _ _ _ _=>b
 |_=>[]
noncomputable def ai(s:Stmt):Scope:=match s with
 |.FunctionDef _ _ _ _ _ _ sc _ _ _=>sc
 |_=>{kind:=.function,names:=[],isGenerator:=false,isCoroutine:=false}
abbrev jL:DK:=λ_ _ _ _ _ _=>False
abbrev E0:XK:=λ_ _ _=>False
theorem pq{X:Cx}:Passes jL X E0:=λ_ _ _ _ _ _ _ h=>h.elim
structure zP(K:yaI)(x qual:Str)(st:Stmt)(f:Addr)(fd:yap):Prop where
 ex:∃(oc:yai)(od:Option Addr)(kV doc pm:yai)(an:Option Addr)(cdv ct:yai)(osl:Array (Option yai)),
  fd=zcC x qual (cO st) (bw st) (ai st) .none kV doc pm an cdv ct/\K.lookup f=some ⟨oc,od,.func fd,osl⟩/\zce K cdv qual=true
 kp:zcd K (.ref f)=true
section
variable {P:yaj}{w:yak}{K:yaI}{mg:Str->Option yai}{base:Heap}
theorem zP.ok{x a:Str}{st:Stmt}{f:Addr}{fd:yap}{N ps:List Str}{k:Nat}{sp:Sp}(F:zP K x a st f fd)(S:az N ps (ai st))(len:∀vs H Q E,sp vs H Q E->vs.length=ps.length)(e:∀(c:yai)(A:yal)(outer:List Env)(s:yah)(H:Hp)(vs:List V)(Q:VK)(E:XK),aQ k (A.deeper (envOfC a (ai st) s.heap.objs.size f c))->sp vs H Q E->∃t,tP (iO jL P w K mg base N a (ai st) f c A outer s H E).BS (bw st) t/\t {nx:=λ_ o=>Q .bq o,rt:=Q} (start N vs) H):cW P w K mg base jL (k+1) f fd ps sp:=by
 obtain⟨y,v,kV,n,u,z,c,ct,j,rfl,l,i⟩:=F.ex;refine MT l i S len λA outer s H vs Q E m g=>?_;obtain⟨t,h,q⟩:=e c A outer s H vs Q E m g;exact⟨t,h.BS,q⟩
theorem zP.binds{x a:Str}{st:Stmt}{f:Addr}{fd:yap}{ps:List Str}(F:zP K x a st f fd)(h:∀(kV c g:yai)(i:Option Addr)(e ct:yai)(us:List yai),us.length=ps.length->yaA (zcC x a (cO st) (bw st) (ai st) .none kV c g i e ct) ⟨us,[]⟩=pure (ps.zip us)):Binds K fd ps []:=by
 obtain⟨n,m,kV,c,g,i,e,ct,j,rfl,o,l⟩:=F.ex;exact .all (h kV c g i e ct)
theorem gc{x a:Str}{st:Stmt}{f:Addr}{n:yai}{m j:Option Addr}{h:Array (Option yai)}{kV g i e ct:yai}(l:K.lookup f=some ⟨n,m,.func (zcC x a (cO st) (bw st) (ai st) .none kV g i j e ct),h⟩)(c:zce K e a=true)(k:zcd K (.ref f)=true):zP K x a st f (zcC x a (cO st) (bw st) (ai st) .none kV g i j e ct):=⟨⟨n,m,kV,g,i,j,e,ct,h,rfl,l,c⟩,k⟩
end
theorem dW{A:yal}{k:Nat}(a:aQ k A):A.units+1<cLine:=Nat.lt_of_le_of_lt (Nat.add_le_add_left (by decide:1<=64) _) a.units
section
variable {X:Cx}
theorem zo:bW X (.builtin "len") (λc H Q=>∃a kvs,c=[V.ref a]/\H a=some (.dK kvs)/\Q (.int kvs.length) H):=by
 intro e s i H c j Q I r h;obtain⟨a,kvs,rfl,f,q⟩:=h;obtain⟨u,rfl,ru⟩:=vals1 r;cases ru;exact MZ I (.inl f) λt l g=>⟨.int kvs.length,H,g,⟨t,rfl⟩,q⟩
end
theorem yZ{A B:Prop}(h:B):if false=true then A else B:=by
 rw[yIn zaS];exact h
theorem yY{A B:Prop}(h:A):if true=true then A else B:=by
 rw[yIp rfl];exact h
theorem nh{c A B:Prop}[Decidable c](h1:c->A)(a:¬c->B):if c then A else B:=by
 by_cases h:c
 ·rw[yIp h];exact h1 h
 ·rw[yIn h];exact a h
def gz(H a:Hp):Prop:=∀b o,H b=some o->a b=some o
theorem gz.refl(H:Hp):gz H H:=λ_ _ h=>h
theorem gz.trans{H f e:Hp}(a:gz H f)(b:gz f e):gz H e:=λc o h=>b c o (a c o h)
theorem gz.free{H a:Hp}(e:gz H a){l:Addr}(h:a l=Option.none):H l=Option.none:=by
 cases q:H l with
 |none=>rfl
 |some o=>
  rw[e l o q] at h;cases h
theorem gz.seq{K:yaI}{H f:Hp}{a:Addr}{c:List V}(e:gz H f)(h:cV K H a c):cV K f a c:=by
 rcases h with(h|⟨o,h⟩)|h
 ·exact .inl (.inl (e _ _ h))
 ·exact .inl (.inr ⟨o,e _ _ h⟩)
 ·exact .inr h
end L2
set_option maxHeartbeats 4000000
namespace L2
open PySem PySem.Spec PyProof.Rows
section
variable {X:Cx}{pins:List (Addr×Obj)}{σ:List (Option V)}{H:Hp}{s:yah}
theorem iC.z6{P:yaj}{w:yak}{h:Heap}{D:Addr}{o:HO}(ok:iC P w H h)(a:H D=none)(new:aJ P w (upd H D o) h D o):iC P w (upd H D o) h:=λb u e=>by
 by_cases f:b=D
 ·subst f;rw[bx] at e;cases e;exact new
 ·rw[aN f] at e;refine(ok b u e).stay (λ_ _ _ q=>q) (λc q=>?_) (λc g q=>?_)
  ·rw[aN (bC q a)];exact q
  ·rw[aN (bC q a)];exact q
theorem Inv.z6{D:Addr}{o:HO}(I:Inv X pins σ H s)(g:H D=none)(z:X.s₀.heap.objs.size<=D)(y:D≠X.env.locals)(v:∀x c,X.env.cells.lookup x=some c->c≠D)(t:∀p∈X.pn++pins,p.1≠D)(new:aJ X.prog X.w (upd H D o) s.heap D o):Inv X pins σ (upd H D o) s:=by
 refine⟨I.ok,I.os,I.bare,⟨I.base.keep,I.base.slot,λb h e n l=>?_,I.base.there,λb i e=>?_,λb h u e=>?_,λb j e=>?_⟩,I.loc,I.cell,?_,λx c e=>?_,λp f=>?_,I.hok.z6 g new,I.len⟩
 ·rw[aN (zcv (zaQ (zcE e) z))];exact I.base.free b h e n l
 ·have q:=I.base.tups b i e;rw[aN (bC q g)];exact q
 ·have q:=I.base.oA b h u e;rw[aN (bC q g)];exact q
 ·obtain⟨m,q⟩:=I.base.p6 b j e;exact⟨m,by rw[aN (bC q g)];exact q⟩
 ·rw[aN (Ne.symm y)];exact I.free
 ·rw[aN (v x c e)];exact I.gj x c e
 ·obtain⟨e,n,a,b,d⟩:=I.pin p f;exact⟨e,by rw[aN (t p f)];exact n,a,b,d⟩
end
noncomputable def jt(env:Env):List (Str×NameKind)->List (Str×Addr)->List (Str×Addr)
 |[],acc=>acc
 |(n,k)::r,acc=>jt env r (if k==NameKind.free then(n,(env.cells.lookup n).getD 0)::acc else acc)
theorem iP(env:Env):∀(l:List (Str×NameKind))(f:List (Str×Addr)),(∀n,(n,NameKind.free)∈l->∃c,env.cells.lookup n=some c)->
  (forIn l f (λ(x:Str×NameKind)(r:List (Str×Addr))=>if(x.2==NameKind.free)=true then(do let a <-cellOf env x.1;pure (ForInStep.yield ((x.1,a)::r))) else pure (ForInStep.yield r)):Sem (List (Str×Addr)))=pure (jt env l f)
 |[],f,_=>rfl
 |(n,k)::r,f,h=>by
  rw[List.forIn_cons];by_cases i:(k==NameKind.free)=true
  ·have e:k=.free:=by simpa using i
   subst e;obtain⟨c,j⟩:=h n zaK;have q:cellOf env n=pure c:=by unfold cellOf;rw[j]
   have o:((NameKind.free==NameKind.free)=true)=True:=by simp
   simp only[o,if_true,q,pure_bind];rw[iP env r _ λm g=>h m (zaz _ g)];show _=pure (jt env r (if(NameKind.free==NameKind.free)=true then(n,(env.cells.lookup n).getD 0)::f else f));simp only[o,if_true,j,Option.getD_some]
  ·simp only[yIn i,pure_bind];rw[iP env r _ λm g=>h m (zaz _ g)];show _=pure (jt env r (if(k==NameKind.free)=true then(n,(env.cells.lookup n).getD 0)::f else f));rw[yIn i]
theorem iG{scope:Scope}{env:Env}(h:∀n,(n,NameKind.free)∈scope.names->∃c,env.cells.lookup n=some c):closureFor scope env=pure (jt env scope.names []):=by
 unfold closureFor;have e:=iP env scope.names [] h
 first
  |exact e
  |(simp only[bind_pure];exact e)
  |(rw[show(forIn scope.names ([]:List (Str×Addr)) _:Sem (List (Str×Addr)))=_ from e];rfl)
theorem sU(env:Env):∀(l:List (Str×NameKind))(a:List (Str×Addr))(x:Str)(c:Addr),(jt env l a).lookup x=some c->a.lookup x=some c∨(x,NameKind.free)∈l/\c=(env.cells.lookup x).getD 0
 |[],a,x,c,h=>.inl h
 |(n,k)::r,a,x,c,h=>by
  rcases sU env r _ x c h with e|⟨o,m⟩
  ·by_cases i:(k==NameKind.free)=true
   ·rw[yIp i] at e;have j:k=.free:=by simpa using i
    subst j;rw[zbt] at e;by_cases g:(x==n)=true
    ·have ex:x=n:=by simpa using g
     subst ex;rw[g] at e;exact .inr ⟨zaK,(zcJ.inj e).symm⟩
    ·have f:(x==n)=false:=by simpa using g
     rw[f] at e;exact .inl e
   ·rw[yIn i] at e;exact .inl e
  ·exact .inr ⟨zaz _ o,m⟩
theorem nE(env:Env):∀(l:List (Str×NameKind))(a:List (Str×Addr))(x:Str),((x,NameKind.free)∈l∨∃c,a.lookup x=some c)->∃c,(jt env l a).lookup x=some c
 |[],a,x,h=>by
  rcases h with h|h
  ·simp at h
  ·exact h
 |(n,k)::r,a,x,h=>by
  refine nE env r _ x ?_;rcases h with h|⟨c,h⟩
  ·rcases zcg.mp h with e|e
   ·injection e with e1 e2;subst e1 e2;right;exact⟨(env.cells.lookup x).getD 0,by rw[yIp (by rfl),zbt];simp⟩
   ·exact .inl e
  ·right;by_cases i:(k==NameKind.free)=true
   ·rw[yIp i,zbt];by_cases g:(x==n)=true
    ·rw[g];exact⟨_,rfl⟩
    ·have f:(x==n)=false:=by simpa using g
     rw[f];exact⟨c,h⟩
   ·rw[yIn i];exact⟨c,h⟩
theorem gK{scope:Scope}{env:Env}{x:Str}{k:NameKind}:∀{names:List (Str×NameKind)},(names.map λ(n,k)=>if(k==NameKind.free&&env.scope.kind== .function&&env.kindOf n==some .cell) then(n,NameKind.cell) else(n,k)).lookup x=some k->
  names.lookup x=some k∨(k=.cell/\names.lookup x=some .free)
 |[],h=>by simp at h
 |(n,j)::r,h=>by
  have e:=@gK scope env x k r;rw[zch,zbt] at h;rw[zbt];by_cases c:(j==NameKind.free&&env.scope.kind== .function&&env.kindOf n==some .cell)=true
  ·simp only[c,if_true] at h;cases a:x==n with
   |true=>
    rw[a] at h;have f:j=.free:=by
     simp only[zbG] at c;simpa using c.1.1
    exact .inr ⟨(zcJ.inj h).symm,by rw[f]⟩
   |false=>rw[a] at h;exact e h
  ·simp only[yIn c] at h;cases a:x==n with
   |true=>rw[a] at h;exact .inl h
   |false=>rw[a] at h;exact e h
theorem iX{scope:Scope}{env:Env}{x:Str}:∀{names:List (Str×NameKind)},names.lookup x=some .free->∃k,(k=NameKind.cell∨k=.free)/\
  (names.map λ(n,k)=>if(k==NameKind.free&&env.scope.kind== .function&&env.kindOf n==some .cell) then(n,NameKind.cell) else(n,k)).lookup x=some k
 |[],h=>by simp at h
 |(n,j)::r,h=>by
  have c:=@iX scope env x r;rw[zbt] at h;rw[zch,zbt];by_cases e:(j==NameKind.free&&env.scope.kind== .function&&env.kindOf n==some .cell)=true
  ·simp only[e,if_true];cases a:x==n with
   |true=>exact⟨.cell,.inl rfl,rfl⟩
   |false=>rw[a] at h;exact c h
  ·simp only[yIn e];cases a:x==n with
   |true=>rw[a] at h;exact⟨.free,.inr rfl,h⟩
   |false=>rw[a] at h;exact c h
noncomputable def oE(caps:List (Option Nat))(a:St):St:=caps.map λo=>o.bind λi=>(a[i]?).getD none
noncomputable def kI(a:List Str)(env:Env)(scope:Scope)(N:List Str)(caps:List (Option Nat)):Bool:=
 caps.length==N.length&&(caps.zip N).all λp=>match p.1 with
  |none=>scope.names.lookup p.2==some .local
  |some i=>a[i]? ==some p.2&&scope.names.lookup p.2==some .free&&(env.scope.names.lookup p.2==some .cell||env.scope.names.lookup p.2==some .free)
noncomputable def kU(X:Cx)(scope:Scope)(N:List Str)(s₀:yah)(H₀:Hp)(C:Addr)(fp:List Addr):Cx where
 prog:=X.prog
 w:=X.w
 K:=X.K
 mg:=X.mg
 base:=X.base
 A:=X.A
 N:=N
 s₀:=s₀
 H₀:=H₀
 env:=compEnvC scope (jt X.env scope.names []) C X.env
 outer:=X.stack
 stack:=X.stack
 ex:=fp
 fn:=λ_=>false
 calm:=X.calm
 pn:=[]
 xe:=λ_ _=>False
structure eX(scope:Scope)(N:List Str):Prop where
 kind:scope.kind=.function
 nd:N.Nodup
 BV:∀y∈scope.names,y.2≠ .cell
 names:∀y∈scope.names,scope.names.lookup y.1=some y.2
section
variable {X:Cx}{pins:List (Addr×Obj)}{σ:List (Option V)}{H:Hp}{s:yah}
theorem CC{a:List Str}{env:Env}{scope:Scope}{N:List Str}{caps:List (Option Nat)}(h:kI a env scope N caps=true):
  caps.length=N.length/\∀(j i:Nat)(x:Str),caps[j]? =some (some i)->N[j]? =some x->a[i]? =some x/\scope.names.lookup x=some .free/\(env.kindOf x=some .cell∨env.kindOf x=some .free):=by
 unfold kI at h;rw[zbG] at h;obtain⟨f,e⟩:=h;refine⟨by simpa using f,λj i x l g=>?_⟩;have c:(some i,x)∈caps.zip N:=by
  refine zaC (i:=j) ?_;rw[List.getElem?_zip_eq_some];exact⟨l,g⟩
 have q:=zbu.mp e _ c;simp only[zbG,zbW,beq_iff_eq] at q;exact⟨q.1.1,q.1.2,q.2⟩
theorem Inv.block{scope:Scope}{N:List Str}{caps:List (Option Nat)}{C:Addr}{fp:List Addr}{s1:yah}{h1:Heap}{tk:Nat}{m:Str->Option yai}(S:eX scope N)(O:kI X.N X.env scope N caps=true)(g:∀n,(n,NameKind.free)∈scope.names->∃c,X.env.cells.lookup n=some c)(I:Inv X pins σ H s)(Q:∀b∈fp,kY X pins H b)(hfl:∀b∈fp,b<s.heap.objs.size)(hC:s.heap.objs.size<=C)(P:∀b o,s.heap.get? b=some o->h1.get? b=some o)(hn:h1.Ns C m):
  Inv (kU X scope N s H C fp) [] (oE caps σ) H {s with heap:=h1,toks:=tk}:=by
 obtain⟨G,hat⟩:=CC O;have t:∀x c,(jt X.env scope.names []).lookup x=some c->X.env.cells.lookup x=some c:=λx c e=>by
  rcases sU X.env scope.names [] x c e with z|⟨z1,z2⟩
  ·simp at z
  ·obtain⟨W,f⟩:=g x z1;rw[f,z2,f];rfl
 have clt:∀x c,X.env.cells.lookup x=some c->c<s.heap.objs.size:=λx c e=>by
  obtain⟨v,o,F,_⟩:=I.cell x c e;exact zcE F
 have Ou:∀x,((compEnvC scope (jt X.env scope.names []) C X.env).kindOf x=some .cell∨(compEnvC scope (jt X.env scope.names []) C X.env).kindOf x=some .free)->(x,NameKind.free)∈scope.names:=λx Y=>by
  have E:∀k,(compEnvC scope (jt X.env scope.names []) C X.env).kindOf x=some k->scope.names.lookup x=some k∨(k=.cell/\scope.names.lookup x=some .free):=λk e=>gK (scope:=scope) (env:=X.env) e;rcases Y with e|e
  ·rcases E _ e with z|⟨_,z⟩
   ·exact absurd rfl (S.BV _ (PySem.mem_of_lookup z))
   ·exact PySem.mem_of_lookup z
  ·rcases E _ e with z|⟨z,_⟩
   ·exact PySem.mem_of_lookup z
   ·cases z
 refine⟨⟨I.ok.mod,S.kind,I.ok.glob,I.ok.blt,hC,λx y c e1 e2=>I.ok.inj x y c (t x c e1) (t y c e2),λx Y=>?_,λx c z _=>absurd (show false=true from z) zaS,I.ok.hd,I.ok.frames,.inl rfl,λb h=>?_,I.bs,zcw I.ok.FQ I.sz,λb o e h=>?_,λb h hb2=>?_,I.stack,I.wm⟩,rfl,I.bare,Un.kept P,⟨m,hn,λj x v e1 e2 e3=>?_⟩,λx c e=>?_,I.hok.fresh hC,λx c e=>I.gj x c (t x c e),λp hp=>absurd (show p∈([]:List (Addr×Obj)) from hp) (by simp),I.hok.kept P,?_⟩
 ·exact nE X.env scope.names [] x (.inl (Ou x Y))
 ·exact⟨zcv (zaQ (hfl b h) hC),λx c e=>(Q b h).2.2.2.2.1 x c (t x c e)⟩
 ·rcases(Q b h).2.2.2.1 with z|z
  ·exact I.ok.BU b o e z
  ·exact absurd (zaQ (zcE e) (zcw I.ok.FQ z)) (zcm _)
 ·rcases zcg.mp (I.lT b hb2) with z|z
  ·exact(Q b h).2.1 z
  ·exact(Q b h).2.2.1 z
 ·have a:(oE caps σ)[j]? =some (some v):=e2;unfold oE at a;rw[zaZ] at a;cases hc:caps[j]? with
  |none=>rw[hc] at a;cases a
  |some o=>
   rw[hc] at a;cases o with
   |none=>cases a
   |some i=>
    have U:(σ[i]?).getD none=some v:=zcJ.inj a;have e5:σ[i]? =some (some v):=by
     cases q:σ[i]? with
     |none=>rw[q] at U;cases U
     |some y=>rw[q] at U;exact congrArg some U
    obtain⟨a1,a2,a3⟩:=hat j i x hc e1;obtain⟨mX,hnX,hl⟩:=I.loc;obtain⟨u,r,l⟩:=hl i x v a1 e5 (a3.elim (λz=>.inr (.inl z)) λz=>.inr (.inr z));refine⟨u,r,.inr ?_⟩;obtain⟨c,hcx,cell⟩:∃c,X.env.cells.lookup x=some c/\s.heap.IsCell c (some u):=by
     rcases l with⟨k,_⟩|⟨_,z⟩
     ·rw[k] at a3;rcases a3 with z|z<;>cases z
     ·exact z
    obtain⟨k,Z,L⟩:=iX (scope:=scope) (env:=X.env) a2;obtain⟨W,f⟩:=nE X.env scope.names [] x (.inl (PySem.mem_of_lookup a2));have hcc:W=c:=zcJ.inj ((t x W f).symm.trans hcx);subst hcc;refine⟨?_,W,f,?_⟩
    ·rcases Z with z|z
     ·subst z;exact .inl L
     ·subst z;exact .inr L
    ·obtain⟨o,F,hd⟩:=cell;exact⟨o,P _ _ F,hd⟩
 ·obtain⟨v,o,F,hd⟩:=I.cell x c (t x c e);exact⟨v,o,P _ _ F,hd⟩
 ·show(oE caps σ).length=N.length;unfold oE;rw[zbK];exact G
end
theorem gP{prog:yaj}{w:yak}{A:yal}{R:Result->yah->Prop}{s:yah}{C a q:Expr}{y:List Expr}{scope:Scope}{G:Pos}{it E:yai}{env:Env}(I:Nat->yah->Prop)(F:∀n s,I n s->yar (model prog w) A (pyNext it) (λr g=>match r with
   |none=>R (.ok .next) g
   |some v=>yar (model prog w) A (letOwnedTupleGo a it v) (λ_ f=>yar (model prog w) A (assign a env v) (λ_ o=>yar (model prog w) A (forIn y true λc r=>if r=true then do let ok <-isTrue c env (eval c env);pure (ForInStep.yield ok) else pure (ForInStep.yield r)) (λok e=>if ok=true then yar (model prog w) A (eval C env) (λx l=>yar (model prog w) A (call (.builtin "list.append") [E,x]) (λ_ j=>∃m,m<n/\I m j) (λ_ _=>False) l) (λ_ _=>False) e else∃m,m<n/\I m e) (λ_ _=>False) o) (λ_ _=>False) f) (λ_ _=>False) g) (λ_ _=>False) s)(n:Nat)(h:I n s):
  codeAny (model prog w) A (.compLoop (.ListComp C [⟨a,q,y,0⟩] scope G) 0 it E env) R s:=by
 refine codeAny_loop rfl I (λn s P=>?_) n h;show yar _ A ((compTurn (.ListComp C [⟨a,q,y,0⟩] scope G) 0 it E env).onRaise (λx=>do noteFrame x env;theTreesLotGoes x)) _ _ s;refine wpAny_noted ?_;rw[compTurn_list];refine wpAny_noRaise ?_;refine yaa (yay (yaa (yac (F n s P) (λr g u=>?_) λ_ _ i=>i)));cases r with
 |none=>exact yab u
 |some v=>
  refine yaa (yac u (λ_ f z=>?_) λ_ _ i=>i);refine yaa (yac z (λ_ o O=>yaa (yac O (λok e t=>?_) λ_ _ i=>i)) λ_ _ i=>i);cases ok with
  |false=>exact yab ⟨rfl,t⟩
  |true=>
   exact yaa (yaa (yac t (λx l L=>yaa (yac L (λ_ j H=>yab (yab ⟨rfl,H⟩)) λ_ _ i=>i)) λ_ _ i=>i))
def Hv(X:Cx)(f:List Expr)(t:TT):Prop:=
 ∀(a:List (Addr×Obj))(s:yah)(e:St)(H:Hp)(Q:Bool->Hp->Prop),Inv X a e H s->t e H Q->
  yar (model X.prog X.w) X.A (forIn f true λc r=>if r=true then do let ok <-isTrue c X.env (eval c X.env);pure (ForInStep.yield ok) else pure (ForInStep.yield r)) (TP X a e Q) X.xe s
def Le:TT:=λ_ H Q=>Q true H
theorem cJ{X:Cx}:Hv X [] Le:=λ_ _ _ H _ I h=>wpAny_tests_nil ⟨H,I,h⟩
theorem cY{X:Cx}{c:Expr}{t:TT}(h:PT X c t):Hv X [c] t:=λa s e H Q I hw=>wpAny_tests_one (h a s e H Q I hw)
def Gq(J:It)(g:TG)(q:TT)(te:TE)(h:St)(H:Hp)(s:List V->Hp->Prop):Prop:=
 ∃W:Nat->Nat->List V->St->Hp->Prop,(∃m,W 0 m [] h H)/\∀i m e j H,W i m e j H->
  (J.stop i H/\s e H)∨(J.go i H/\∃M:List V->St->Hp->Prop,(∀l c f,M l c f->∃n,n<m/\W (i+1) n l c f)/\∀x f,J.zQ i H x f->g x j f λa u=>q a u λb o=>if b=true then te a o λv t=>e.length<yag/\M (e++[v]) a t else M e a o)
section
variable {X:Cx}{pins:List (Addr×Obj)}{σ:List (Option V)}{s:yah}
noncomputable abbrev lobj(its:List yai)(k:Nat):Obj:={cls:=.type "list",data:=.seq its.toArray k}
theorem sR{elt tg iter:Expr}{ifs:List Expr}{scope:Scope}{N:List Str}{caps:List (Option Nat)}{pos:Pos}{g:TG}{tt:TT}{te:TE}{J:It}{fp:List Addr}{it:Addr}{tn:Nat->Heap->Prop}{O:Hp}{f:yah}{Qd:List V->Hp->Prop}{E:yai->yah->Prop}{RR:yai->Addr->Result->yah->Prop}(S:eX scope N)(hcap:kI X.N X.env scope N caps=true)(hfree:∀n,(n,NameKind.free)∈scope.names->∃c,X.env.cells.lookup n=some c)(hc:X.calm=true)(hg:∀s₀ H₀ C fp,PG (kU X scope N s₀ H₀ C fp) tg g)(ht:∀s₀ H₀ C fp,Hv (kU X scope N s₀ H₀ C fp) ifs tt)(he:∀s₀ H₀ C fp,PE (kU X scope N s₀ H₀ C fp) elt te)(Z:Inv X pins σ O f)(T:Turn X.prog X.w X.K tg J fp it tn)(st2:tn 0 f.heap)(f2:∀b∈fp,kY X pins O b)(h:Gq J g tt te (oE caps σ) O Qd)(hRR:∀(D C:Addr) m l F (L:yah),Inv X pins σ (upd F D (.lst l)) L->F D=none->L.heap.Ns C m->kY X pins (upd F D (.lst l)) C->Qd l F->RR (.ref D) C (.ok .next) L):
  yar (model X.prog X.w) X.A (newList []) (λacc t=>yar (model X.prog X.w) X.A (newFunctionEnv scope X.env.globals (jt X.env scope.names []) [] X.env.qual none .none (some X.env)) (λcenv s₄=>codeAny (model X.prog X.w) X.A (.compStart (.ListComp elt [⟨tg,iter,ifs,0⟩] scope pos) 0 (.ref it) acc {cenv with scope:=relabel scope X.env}) (RR acc cenv.locals) s₄) E t) E f:=by
 have hfl:∀b∈fp,b<f.heap.objs.size:=λb j=>by
  obtain⟨o,e,_⟩:=T.obj 0 f.heap st2 b j;exact zcE e
 refine yae (wpAny_newFunctionEnv S.BV (by intro y hy;simp at hy) (λH hns hsb=>?_) S.kind);dsimp only at hns hsb⊢;generalize hHD:f.heap.push {cls:=.type "list",dict:=none,data:=.seq ([]:List yai).toArray}=HD at hns hsb⊢;have hC:HD.objs.size=f.heap.objs.size+1:=by rw[<-hHD,zcf]
 have hDC:f.heap.objs.size≠HD.objs.size:=by rw[hC];exact zcv (Nat.lt_succ_self _)
 have J0:f.heap.objs.size<=HD.objs.size:=by rw[hC];exact Nat.le_succ _
 have old:∀b o,f.heap.get? b=some o->H.get? b=some o:=λb o e=>
  hsb.extBut b o (by rw[hC];exact zcv (zbh (zcE e))) (zaq _ (hHD▸zaq _ e))
 have hacc:H.get? f.heap.objs.size=some (lobj [] 0):=hsb.extBut _ _ hDC (zaq _ (hHD▸zaJ _ rfl));obtain⟨W,⟨m0,w0⟩,turn⟩:=h;have IY0:=Inv.block (caps:=caps) (C:=HD.objs.size) (fp:=fp) (s1:=f) (h1:=H) (tk:=f.toks+([]:List (Str×yai)).length) S hcap hfree Z f2 hfl J0 old hns;have freshD:O f.heap.objs.size=none:=Z.hok.fresh (zcH _);have GR:∀{G:St}{P:Hp}{s':yah}{a:List yai}{k:Nat},Inv (kU X scope N f O HD.objs.size fp) [] G P s'->P f.heap.objs.size=none->s'.heap.get? f.heap.objs.size=some (lobj a k)->
   Inv (kU X scope N f O HD.objs.size fp) [(f.heap.objs.size,lobj a k)] G P s':=λ{G P s' a k} I hn e=>I.i0 λp U=>by
  have ep:p=(f.heap.objs.size,lobj a k):=by simpa using U
  subst ep;exact⟨e,hn,hDC,λz=>by
   rcases zcg.mp (Z.lT _ z) with q|q
   ·exact absurd (q▸Z.lt) (zcm _)
   ·exact Z.Ml (zcH _) q,λv z=>by cases z⟩
 have fY:∀{P:Hp}{a:List yai}{k:Nat},(∀b∈fp,P b=none)->∀b∈fp,kY (kU X scope N f O HD.objs.size fp) [(f.heap.objs.size,lobj a k)] P b:=λ{P a k} hn b j=>by
  have z:=f2 b j;refine⟨hn b j,zcv (zaQ (hfl b j) J0),λq=>?_,.inl j,λx c e=>IY0.ok.O1 b j |>.2 x c e,λp U=>?_⟩
  ·rcases zcg.mp (Z.lT b q) with q|q
   ·exact z.2.1 q
   ·exact z.2.2.1 q
  ·have ep:p=(f.heap.objs.size,lobj a k):=by
    have:p∈[]++[(f.heap.objs.size,lobj a k)]:=U;simpa using this
   subst ep;exact zcx (hfl b j)
 have fin:∀{G:St}{F:Hp}{L:yah}{l:List V}{a:List yai}{k:Nat},Inv (kU X scope N f O HD.objs.size fp) [(f.heap.objs.size,lobj a k)] G F L->Vals l a->l.length<=yag->Qd l F->
   RR (.ref f.heap.objs.size) HD.objs.size (.ok .next) L:=λ{G F L l a k} I r hz q=>by
  have Y:=I.pin (f.heap.objs.size,lobj a k) (by show _∈[]++[_];simp);have IX:Inv X pins σ F L:=Z.Nk (s':=L) (ch:=fp) I.os I.base I.hok I.bare λb j=>⟨(f2 b j).2.2.2.1,(f2 b j).2.1,(f2 b j).2.2.2.2.1,(f2 b j).2.2.2.2.2⟩
  have fD:kY X pins F f.heap.objs.size:=Z.sD (zcH _) Y.2.1;have fC:kY X pins F HD.objs.size:=Z.sD J0 I.free;have IT:Inv X pins σ (upd F f.heap.objs.size (.lst l)) L:=IX.z6 Y.2.1 Z.sz fD.2.1 (λx c e=>fD.2.2.2.2.1 x c e) (λp U=>fD.2.2.2.2.2 p U) ⟨hz,a,k,r,Y.1⟩;obtain⟨m,hn,_⟩:=I.loc;exact hRR _ _ m l F L IT Y.2.1 hn ⟨by rw[aN (Ne.symm hDC)];exact fC.1,fC.2⟩ q
 have loop:∀t:yah,t={f with heap:=H,toks:=f.toks+([]:List (Str×yai)).length}->
   codeAny (model X.prog X.w) X.A (.compLoop (.ListComp elt [⟨tg,iter,ifs,0⟩] scope pos) 0 (.ref it) (.ref f.heap.objs.size) (compEnvC scope (jt X.env scope.names []) HD.objs.size X.env)) (RR (.ref f.heap.objs.size) HD.objs.size) t:=by
  rintro t rfl;refine gP (λn s'=>∃i l a k G P,Inv (kU X scope N f O HD.objs.size fp) [(f.heap.objs.size,lobj a k)] G P s'/\tn i s'.heap/\(∀b∈fp,P b=none)/\Vals l a/\l.length<=yag/\W i n l G P) ?_ m0
   ⟨0,[],[],0,_,_,GR IY0 freshD hacc,T.keep 0 _ _ st2 λb _ o e=>old b o e,λb j=>(f2 b j).1,.nil,zcI _,w0⟩
  rintro n s3 ⟨i,l,a,k,G,F,I3,st3,fr3,r3,z3,w3⟩;rcases turn i n l G F w3 with⟨stop,qn⟩|⟨go,M,hM,step⟩
  ·refine yac (T.done (kU X scope N f O HD.objs.size fp) rfl rfl rfl hc i _ s3 G F (λ_ _=>False) I3 (fY fr3) st3 stop) (λr L ⟨hr,I4⟩=>?_) λ_ _ z=>z;subst hr;exact fin I4 r3 z3 qn
  ·refine yac (T.item (kU X scope N f O HD.objs.size fp) rfl rfl rfl hc i _ s3 G F (λ_ _=>False) I3 (fY fr3) st3 go) (λr L ⟨u,hr,h4⟩=>?_) λ_ _ z=>z;subst hr;refine yac h4 (λ_ s5 ⟨x,H5,I5,r5,y5,st5,fr5⟩=>?_) λ_ _ z=>z;have I5':=I5.pinned (fY fr5) (T.obj _ _ st5);have G3:∀{τ7:St}{H7:Hp}{s7:yah},Inv (kU X scope N f O HD.objs.size fp) ([(f.heap.objs.size,lobj a k)]++mF fp s5.heap) τ7 H7 s7->tn (i+1) s7.heap/\∀b∈fp,H7 b=none:=λ{τ7 H7 s7} I7=>by
    refine⟨T.keep _ _ _ st5 λb j o e=>(I7.pin (b,o) (zat _ (zat _ (f7 j e)))).1,λb j=>?_⟩;obtain⟨o,e,d⟩:=T.obj _ _ st5 b j;exact(I7.pin (b,o) (zat _ (zat _ (f7 j e)))).2.1
   refine yac (hg _ _ _ _ _ s5 G H5 x u _ I5' r5 (step x H5 y5)) (λ_ s6 ⟨Q,H6,I6,q6⟩=>?_) λ_ _ z=>z;refine yac (ht _ _ _ _ _ s6 Q H6 _ I6 q6) (λok s7 ⟨H7,I7,q7⟩=>?_) λ_ _ z=>z;cases ok with
   |false=>
    rw[yIn zaS] at q7⊢;obtain⟨m',hm,w7⟩:=hM _ _ _ q7;obtain⟨a1,a2⟩:=G3 I7;exact⟨m',hm,i+1,l,a,k,Q,H7,I7.gC,a1,a2,r3,z3,w7⟩
   |true=>
    rw[yIp rfl] at q7⊢;refine yac (he _ _ _ _ _ s7 Q H7 _ I7 q7) (λv s8 ⟨y,H8,I8,r8,q8⟩=>?_) λ_ _ z=>z;obtain⟨hz,q8⟩:=q8;obtain⟨m',hm,w8⟩:=hM _ _ _ q8;obtain⟨a1,a2⟩:=G3 I8;have Y:=I8.pin (f.heap.objs.size,lobj a k) (zat _ (zaA _ (by simp)));have hlen:=r3.length;refine wpAny_list_append_plain (items:=a.toArray) ⟨k,Y.1⟩ (λh' U hs=>?_) (by rw[zaX];lia);obtain⟨k',U⟩:=U;have I9:Inv (kU X scope N f O HD.objs.size fp) [] Q H8 {s8 with heap:=h'}:=
     (I8.i0 (pins':=[]) (by simp)).turned (t':=s8.toks) (it:=f.heap.objs.size) (λb o j e=>(hs.2 b j).trans e) Y.2.1 Y.2.2.1 (.inr (zcH _))
      (λx c e z=>by
       have q:=IY0.cell x c e;obtain⟨v,o,ho,hd⟩:=I8.cell x c e;have e1:s8.heap.get? f.heap.objs.size=some (lobj a k):=Y.1;rw[z,e1] at ho;cases ho;cases hd) (by intro p U;exact absurd (show p∈([]:List (Addr×Obj))++[] from U) (by simp))
    have hp':({s8 with heap:=h'}:yah).heap.get? f.heap.objs.size=some (lobj (a++[v]) k'):=by
     show h'.get? _=_;rw[U];simp
    have hkt:tn (i+1) h':=T.keep _ _ _ a1 λb j o e=>(hs.2 b (zcv (hfl b j))).trans e;refine⟨m',hm,i+1,l++[y],a++[v],k',Q,H8,GR I9 Y.2.1 hp',hkt,a2,r3.append (.cons r8 .nil),?_,w8⟩;rw[zaL];exact hz
 exact codeAny_compStart_list (loop _ rfl) (T.self X.A 0 _ _ _ (T.keep 0 _ _ st2 λb _ o e=>old b o e) (loop _ rfl))
noncomputable def freeOk(env:Env)(scope:Scope):Bool:=scope.names.all λp=>p.2 != .free||env.scope.names.lookup p.1==some .cell||env.scope.names.lookup p.1==some .free
theorem Inv.freeOk{H:Hp}{scope:Scope}(I:Inv X pins σ H s)(h:freeOk X.env scope=true):∀n,(n,NameKind.free)∈scope.names->∃c,X.env.cells.lookup n=some c:=λn a=>by
 have q:=zbu.mp h _ a;simp only[zbW,beq_iff_eq,bne_iff_ne] at q;refine I.ok.has n ?_;rcases q with(q|q)|q
 ·exact absurd rfl q
 ·exact .inl q
 ·exact .inr q
def Ah(caps:List (Option Nat))(e:TI)(g:TG)(f:TT)(te:TE):TE:=λσ H Q=>e σ H λJ h=>Gq J g f te (oE caps σ) h λc a=>∀p,a p=none->Q (.ref p) (upd a p (.lst c))
theorem bH{l n a:Expr}{c:List Expr}{scope:Scope}{N:List Str}{caps:List (Option Nat)}{u:Pos}{E:TI}{g:TG}{F:TT}{te:TE}(S:eX scope N)(i:kI X.N X.env scope N caps=true)(f:L2.freeOk X.env scope=true)(hc:X.calm=true)(Y:PI X n a E)(Z:∀s₀ H₀ C fp,PG (kU X scope N s₀ H₀ C fp) n g)(P:∀s₀ H₀ C fp,Hv (kU X scope N s₀ H₀ C fp) c F)(he:∀s₀ H₀ C fp,PE (kU X scope N s₀ H₀ C fp) l te)(U:∀x,foldedSetIterable a X.env x=pure x:=by intro _;rfl):PE X (.ListComp l [⟨n,a,c,0⟩] scope u) (Ah caps E g F te):=by
 intro pins s σ H Q I h;rw[eval_ListComp];refine wpAny_comprehension_free (use:=none) rfl U (iG (I.freeOk f)) S.kind (λx O y=>y▸S.names x O) ?_;refine b6 (Y pins s σ H _ I h) λv s1 h1=>b6 h1 λL s2 h2=>?_;obtain⟨it,fp,tn,J,H2,rfl,I2,T,t,f2,y⟩:=h2;refine sR (RR:=λz C=>compPost (model X.prog X.w) X.A X.xe none (EP X pins σ Q) z C) S i (I.freeOk f) hc Z P he I2 T t f2 y ?_;intro D C m xs H3 G IT hD W j q;refine⟨m,W,λh' sb=>⟨.ref D,_,?_,rfl,q D hD⟩⟩;exact IT.turned (t':=G.toks) (it:=C) (λb o hb e=>(sb.2 b hb).trans e) j.1 j.2.1 j.2.2.2.1 j.2.2.2.2.1 j.2.2.2.2.2
theorem eG{j u c:Expr}{f:List Expr}{scope:Scope}{N:List Str}{caps:List (Option Nat)}{t a l:Pos}{wi:TI}{g:TG}{tt:TT}{te:TE}{i:Nat}{x:Str}(hN:X.N.Nodup)(hix:X.N[i]? =some x)(O:X.env.scope.names.lookup x=some .local)(S:eX scope N)(F:kI X.N X.env scope N caps=true)(y:L2.freeOk X.env scope=true)(hc:X.calm=true)(hi:PI X u c wi)(hg:∀s₀ H₀ C fp,PG (kU X scope N s₀ H₀ C fp) u g)(ht:∀s₀ H₀ C fp,Hv (kU X scope N s₀ H₀ C fp) f tt)(he:∀s₀ H₀ C fp,PE (kU X scope N s₀ H₀ C fp) j te)(W:yat (.ListComp j [⟨u,c,f,0⟩] scope t) (some (.Name x a)) l.line X.env=pure true:=by rfl)(hs:∀x,foldedSetIterable c X.env x=pure x:=by intro _;rfl):PS X (.Assign [.Name x a] (.ListComp j [⟨u,c,f,0⟩] scope t) l) (DW (Ah caps wi g tt te) (xB i)):=by
 intro pins s σ H D I h;rw[exec_Assign_Name_used _ _ _ _ W];refine yaa (yay (yaa ?_));show yar _ X.A (do let _ <-comprehension (.ListComp j [⟨u,c,f,0⟩] scope t) scope X.env _ (newList []) false (eval c X.env) (some (assign (.Name x a) X.env))) _ _ s;refine yaa (yac (wpAny_comprehension_free (use:=some (assign (.Name x a) X.env)) (Q:=λ_ G=>SP X pins D .next G) rfl hs (iG (I.freeOk y)) S.kind (λx O Z=>Z▸S.names x O) (b6 (hi pins s σ H _ I h) λv s1 h1=>b6 h1 λitv s2 h2=>?_)) (λ_ G hq=>yab (yab hq)) λ_ _ e=>e);obtain⟨it,fp,tn,J,H2,rfl,I2,T,U,f2,Z⟩:=h2;refine sR (RR:=λacc C=>compPost (model X.prog X.w) X.A X.xe (some (assign (.Name x a) X.env)) (λ_ G=>SP X pins D .next G) acc C) S F (I.freeOk y) hc hg ht he I2 T U f2 Z ?_;intro P C m xs H3 s4 IT hD hn n q;show yar _ X.A (assign (.Name x a) X.env (.ref P)) _ _ _;obtain⟨L,es,ep,Y,E,rC⟩:=id hn;have IP:Inv X (pins++[(C,L)]) σ (upd H3 P (.lst xs)) s4:=IT.i0 λp hp=>(zbJ.mp hp).elim (λz=>IT.pin p (zat _ z)) λz=>by
  have e:p=(C,L):=by simpa using z
  subst e;exact⟨Y,n.1,n.2.1,n.2.2.1,λv z=>by rw[E] at z;cases z⟩
 refine wpAny_assign_Name (lR (v:=.ref P) IP hN hix (.inl O) rfl (λs5 I5=>?_) (.inr O));have hC5:=I5.pin (C,L) (zat _ (zat _ (by simp)));refine⟨m,⟨L,es,ep,hC5.1,E,rC⟩,λh' sb=>⟨_,_,?_,q P hD⟩⟩;exact I5.gC.turned (t':=s5.toks) (it:=C) (λb o hb e=>(sb.2 b hb).trans e) n.1 n.2.1 n.2.2.2.1 n.2.2.2.2.1 n.2.2.2.2.2
end
noncomputable def Oa(x:Str):It:=⟨λi _=>i<x.cps.size,λi H v a=>a=H/\∃c,x.cps[i]? =some c/\v=.str ⟨#[c]⟩,λi _=>i=x.cps.size⟩
theorem oM{prog:yaj}{w:yak}{A:yal}(a:A.handled=none)(I:Addr)(x:Str)(t:Tok):Walks prog w A I [I] [I] x.cps.size (SignAt x) (λi h=>h.IsStrIter I (strIterType x) x t i):=by
 unfold strIterType;split
 ·exact Walks.strAscii a I x t
 ·exact Walks.strWide a I x t
theorem zZ{P:yaj}{w:yak}{K:yaI}{tg:Expr}(it:Addr)(x:Str)(t:Tok):Turn P w K tg (Oa x) [it] it (λi h=>h.IsStrIter it (strIterType x) x t i) where
 mem:=by simp
 obj:=λi h a b g=>by
  have e:b=it:=by simpa using g
  subst e;obtain⟨o,e,c,d⟩:=a;exact⟨o,e,λv z=>by rw[d] at z;cases z⟩
 keep:=λi h m a k=>let⟨o,n,r⟩:=a;⟨o,k it (by simp) o n,r⟩
 item:=by
  intro X L hw O G i f s σ H E I l a q;subst L hw O;obtain⟨f0,Z,f2,Y,U,S⟩:=l it (by simp);have W:=oM (prog:=X.prog) (w:=X.w) (I.ok.hd G) it x t;refine W.item i s _ _ q a λv m tk hv j kk=>?_;obtain⟨c,u,C,rfl⟩:=hv;have I1:Inv X f σ H {s with heap:=m,toks:=tk}:=I.turned (λb o g e=>kk b o (by simpa using g) e) f0 Z Y U S;obtain⟨o,n,F,y⟩:=id j;refine⟨_,rfl,pP (s:={s with heap:=m,toks:=tk}) n F y (by unfold strIterType;split<;>decide) ⟨.str ⟨#[c]⟩,H,I1,⟨u,rfl⟩,⟨rfl,c,C,rfl⟩,j,λb g=>(l b g).1⟩⟩
 done:=by
  intro X L hw O G i f s σ H E I l a q;subst L hw O;obtain⟨f0,Z,f2,Y,U,S⟩:=l it (by simp);have W:=oM (prog:=X.prog) (w:=X.w) (I.ok.hd G) it x t;have e:i=x.cps.size:=q;subst e;exact W.done s _ _ a λm tk kk=>⟨rfl,I.turned (t':=tk) (λb o g e=>kk b o (by simpa using g) e) f0 Z Y U S⟩
 self:=λA i s Q E a h=>by
  have a:s.heap.IsStrIter it (strIterType x) x t i:=a;unfold strIterType at a;split at a
  ·exact wpAny_pyIter_striter_ascii a h
  ·exact wpAny_pyIter_striter_wide a h
mutual
def cu(K:yaI)(H:Hp):yam->V->Prop
 |.none,v=>v=.bq
 |.bool b,v=>v=.bl b
 |.int i,v=>v=.int i
 |.str x,v=>v=.str x
 |.list ds,v=>∃a c,v=.ref a/\cV K H a c/\jK K H ds c
 |.tuple ds,v=>∃a c,v=.ref a/\ef K H a c/\jK K H ds c
 |.dict _,_=>False
def jK(K:yaI)(H:Hp):List yam->List V->Prop
 |[],xs=>xs=[]
 |d::ds,xs=>∃x r,xs=x::r/\cu K H d x/\jK K H ds r
end
theorem ef.same{K:yaI}{H f:Hp}{a:Addr}{c:List V}(e:∀b o,H b=some o->f b=some o)(h:ef K H a c):ef K f a c:=by
 rcases h with(h|⟨o,h⟩)|h
 ·exact .inl (.inl (e _ _ h))
 ·exact .inl (.inr ⟨o,e _ _ h⟩)
 ·exact .inr h
section
variable {X:Cx}{pins:List (Addr×Obj)}{σ:St}{H:Hp}{s:yah}
mutual
theorem Inv.reads(I:Inv X pins σ H s):∀(d:yam)(v:V)(u:yai),cu X.K H d v->RelV v u->∃as,Reads s.heap u d as
 |.none,v,u,h,r=>by
  simp only[cu] at h;subst h;cases r;exact⟨_,.none⟩
 |.bool b,v,u,h,r=>by
  simp only[cu] at h;subst h;cases r;exact⟨_,.bool b⟩
 |.int i,v,u,h,r=>by
  simp only[cu] at h;subst h;obtain⟨t,rfl⟩:=r;exact⟨_,.int i t⟩
 |.str x,v,u,h,r=>by
  simp only[cu] at h;subst h;obtain⟨t,rfl⟩:=r;exact⟨_,.str x t⟩
 |.list ds,v,u,h,r=>by
  simp only[cu] at h;obtain⟨a,f,rfl,m,l⟩:=h;cases r;obtain⟨c,g,⟨o,n,e,j,_,hd⟩,_⟩:=I.list m;obtain⟨as,q⟩:=Inv.readsAll I ds f c l g;exact⟨_,.list e j hd (by simpa using q)⟩
 |.tuple ds,v,u,h,r=>by
  simp only[cu] at h;obtain⟨a,f,rfl,m,l⟩:=h;cases r;obtain⟨c,g,⟨o,e,j,n,hd⟩,_⟩:=I.tuple m;obtain⟨as,q⟩:=Inv.readsAll I ds f c l g;exact⟨_,.tuple e j hd (by simpa using q)⟩
 |.dict _,_,_,h,_=>by simp only[cu] at h
theorem Inv.readsAll(I:Inv X pins σ H s):∀(ds:List yam)(a:List V)(us:List yai),jK X.K H ds a->Vals a us->∃as,ReadsAll s.heap us ds as
 |[],a,us,h,r=>by
  simp only[jK] at h;subst h;cases r;exact⟨_,.nil⟩
 |d::ds,a,us,h,r=>by
  simp only[jK] at h;obtain⟨x,c,rfl,g,f⟩:=h;cases r with
  |cons r1 r2=>
   obtain⟨as,e⟩:=Inv.reads I d x _ g r1;obtain⟨bs,q2⟩:=Inv.readsAll I ds c _ f r2;exact⟨_,.cons e q2⟩
end
def OB(K:yaI):List V->Hp->VK->Prop:=λe H Q=>∃x c t u b,e=[x,c]/\RelV c u/\(∀a,RelV c a->a=u)/\jv K H x t/\PySem.W.kitOne K t u=some b/\Q (.bl b) H
theorem CF:bW X (.builtin "isinstance") (OB X.K):=by
 intro pins s σ H j l Q I r h;obtain⟨x,c,t,u,b,rfl,m,g,ty,e,q⟩:=h;obtain⟨v,f,rfl,i,a⟩:=vals2 r;cases g f a;exact y9 I i ty e λtk=>⟨.bl b,H,I.tok tk,rfl,q⟩
theorem Br{n:String}:RelV (.ty n) (.type n)/\∀u',RelV (.ty n) u'->u'=.type n:=⟨rfl,λu' h=>h⟩
theorem CH:∀{bs:List Bool}{its:List yai},Vals (bs.map V.bl) its->its=bs.map Value.bool
 |[],_,.nil=>rfl
 |b::bs,_,.cons r t=>by rw[zch,CH t,show _=Value.bool b from r]
theorem all_range(bs:List Bool):(zcK bs.length).all (λi=>bs.getD i true)=bs.all id:=by
 induction bs with
 |nil=>rfl
 |cons b r ih=>
  rw[zbq,List.range_succ_eq_map,zcj,List.all_map,zcj];have e:((λi=>(b::r).getD i true) ∘ Nat.succ)=λi=>r.getD i true:=by funext i;simp
  rw[e,ih];simp
theorem FT{E:yai->yah->Prop}{A:yal}{Q:yai->yah->Prop}{l:Addr}{its:Array yai}(f:s.heap.IsList l its)(h:∀a:yah,a={s with heap:=s.heap.push {cls:=.type "list_iterator",data:=.fields #[.ref l,.int 0 0]}}->(a.heap.IsListIter s.heap.objs.size l 0/\a.heap.IsList l its)->l≠s.heap.objs.size->Q (.ref s.heap.objs.size) a):
  yar (model X.prog X.w) A (pyIter (.ref l)) Q E s:=by
 have c:l<s.heap.objs.size:=by obtain⟨_,e,_⟩:=f;exact zcE e
 exact wpAny_pyIter_list f (h _ rfl ⟨⟨_,zaJ _ rfl,rfl,rfl⟩,f.push _⟩ (zcv c))
theorem CG(C:X.calm=true):bW X (.builtin "all") (λl H Q=>∃(a:Addr)(bs:List Bool),l=[.ref a]/\cV X.K H a (bs.map V.bl)/\Q (.bl (bs.all id)) H):=by
 intro pins s σ H l L Q I r h;obtain⟨a,bs,rfl,E,q⟩:=h;obtain⟨u,rfl,ru⟩:=vals1 r;cases ru;obtain⟨x,t,pl,O⟩:=I.list E;have F:=CH t;subst F;refine call_all_walk (FT pl.isList λm e n g=>?_);subst e;refine⟨_,_,_,_,_,_,λi=>bs.getD i true,rfl,Walks.list (A:=X.A.in1) (I.ok.hd C) _ a g _,n,λi v s G S c f=>?_,λP tk y=>?_⟩
 ·have c:(bs.map Value.bool).toArray[i]? =some v:=c;rw[List.getElem?_toArray,zaZ] at c;cases j:bs[i]? with
  |none=>rw[j] at c;cases c
  |some b=>
   rw[j] at c;cases c;refine wpAny_truthy_bool ?_;have:bs.getD i true=b:=by rw[List.getD_eq_getElem?_getD,j];rfl
   have f:G (bs.getD i true) s:=f;rw[this] at f;exact f
 ·refine⟨.bl (bs.all id),H,I.kept (t':=tk) λb o e=>y b o (by simp;intro z;exact absurd (z▸zcE e) (zcm _)) (zaq _ e),?_,q⟩;rw[<-all_range bs];show _=_;simp
theorem yJ:fG X (yan .LtE) (λx y H Q=>∃i j,x=.str i/\y=.str j/\Q (.bl (!decide (j.cps.toList<i.cps.toList))) H):=by
 intro pins s σ H x y v u Q I c a h;obtain⟨i,j,rfl,rfl,q⟩:=h;obtain⟨t,rfl⟩:=c;obtain⟨e,rfl⟩:=a;exact PySem.P.le_str (aX I q rfl)
theorem uN:fG X (binaryOp .Mult) (λx y H Q=>∃i n,x=.str i/\y=.int n/\MulOk i n/\Q (.str (Txt.mul i n)) H):=by
 intro pins s σ H x y v u Q I e c h;obtain⟨i,n,rfl,rfl,f,q⟩:=h;obtain⟨t,rfl⟩:=e;obtain⟨a,rfl⟩:=c;exact SB.mul f λa k=>⟨.str _,H,I.tok _,⟨_,rfl⟩,q⟩
theorem HU:DO X (λx c e H Q=>∃y,x=.str y/\y.length<=yag/\Q (.str (Txt.slice y c e)) H):=by
 intro pins s σ H x v m g c e n Q I z E pl f h;obtain⟨y,rfl,C,q⟩:=h;obtain⟨t,rfl⟩:=z;have a:∀(l u:Option (Int×Tok)),m=partValue l->g=partValue u->c=l.map (·.1)->e=u.map (·.1)->yar (model X.prog X.w) X.A (getItem (.str y t) (.ref n)) (EP X pins σ Q) X.xe s:=λl u U S P O=>by
  obtain⟨o,G,L,hd⟩:=E;refine wpAny_getItem_str_slice (l:=l) (u:=u) (st:=none) ⟨o,G,L,by rw[hd,U,S];rfl⟩ rfl ?_;subst P O;exact post_val_or_str ⟨zcw (Txt.slice_le y _ _) C,λW k=>⟨.str _,H,I.tok _,⟨_,rfl⟩,q⟩⟩
 refine⟨"str",_,PySem.F.slot_str_getitem.lookup,typeIs_str _ _ _,?_⟩;cases pl with
 |none=>
  cases f with
  |none=>exact a none none rfl rfl rfl rfl
  |int j tj=>exact a none (some (j,tj)) rfl rfl rfl rfl
 |int i ti=>
  cases f with
  |none=>exact a (some (i,ti)) none rfl rfl rfl rfl
  |int j tj=>exact a (some (i,ti)) (some (j,tj)) rfl rfl rfl rfl
theorem wk:∀{a:List Str}{its:List yai},Vals (a.map V.str) its->StrsAre its a
 |[],_,.nil=>.nil
 |y::a,_,.cons r t=>by
  obtain⟨tk,e⟩:=(show∃t,_=Value.str y t from r)
  subst e;exact .cons y tk (wk t)
end
noncomputable def notStar:Expr->Bool
 |.Starred _ _=>false
 |_=>true
theorem bA{e:Expr}(es:List Expr)(env:Env)(h:notStar e=true):yao (e::es) env=(false,eval e env)::yao es env:=by
 cases e<;>first|rfl|cases h
theorem d9{a:Pos}{env:Env}:∀(es:List Expr),es.all notStar=true->(yau a (yao es env)).any (·.1)=false
 |[],_=>rfl
 |e::es,h=>by
  rw[zcj,zbG] at h;rw[bA es env h.1];show(false||(yau a (yao es env)).any (·.1))=false;rw[d9 es h.2];rfl
theorem q9{a:Pos}{env:Env}:∀(es:List Expr),es.all notStar=true->(yau a (yao es env)).all (λx=>!x.1)=true
 |[],_=>rfl
 |e::es,h=>by
  rw[zcj,zbG] at h;rw[bA es env h.1];show(true&&(yau a (yao es env)).all (λx=>!x.1))=true;rw[q9 es h.2];rfl
section
variable {X:Cx}{e:Expr}{es:List Expr}{te:TE}{t:TA}{x:Str}{p pos:Pos}{id T:String}{r:List V->Hp->VK->Prop}
theorem au(f:PE X e te)(c:PA X es t)(a:notStar e=true:=by rfl):PA X (e::es) (Ag te t):=EI f c (bA es X.env a)
theorem mL(l:bW X (.builtin id) r)(j:Gl X x)(i:X.mg x=none)(f:bootBuiltins x=some (.builtin id))(m:PA X (e::es) t)(h:x≠"__name__":=by decide+kernel)(a:(x==("__debug__":Str))=false:=by decide+kernel)(g:(e::es).all notStar=true:=by rfl):PE X (.Call (.Name x p) (e::es) [] pos) (Lp r t):=by
 have c:=g;rw[zcj,zbG] at c;exact BJ l j i f m h a (bA es X.env c.1) (d9 es c.2)
theorem uM(l:bW X (.type T) r)(j:Gl X x)(i:X.mg x=none)(f:bootBuiltins x=some (.type T))(m:PA X (e::es) t)(h:x≠"__name__":=by decide+kernel)(a:(x==("__debug__":Str))=false:=by decide+kernel)(g:(e::es).all notStar=true:=by rfl):PE X (.Call (.Name x p) (e::es) [] pos) (Lp r t):=by
 have c:=g;rw[zcj,zbG] at c;exact yE l j i f m h a (bA es X.env c.1) (d9 es c.2)
end
structure Src(K:yaI)(mg:Str->Option yai)(x:Str)(ps:List Str)(st:Stmt):Prop where
 ex:∃f fd,zP K x x st f fd/\mg x=some (.ref f)/\Binds K fd ps []
structure Def(P:yaj)(w:yak)(K:yaI)(mg:Str->Option yai)(base:Heap)(k:Nat)(x:Str)(ps:List Str)(sp:Sp):Prop where
 ex:∃f fd,cW P w K mg base jL k f fd ps sp/\mg x=some (.ref f)/\zcd K (.ref f)=true/\Binds K fd ps []
section
variable {P:yaj}{w:yak}{K:yaI}{mg:Str->Option yai}{base:Heap}
theorem Src.def{x:Str}{st:Stmt}{N ps:List Str}{k:Nat}{sp:Sp}(F:Src K mg x ps st)(S:az N ps (ai st))(len:∀vs H Q E,sp vs H Q E->vs.length=ps.length)(a:∀(f:Addr)(c:yai)(A:yal)(outer:List Env)(s:yah)(H:Hp)(vs:List V)(Q:VK)(E:XK),aQ k (A.deeper (envOfC x (ai st) s.heap.objs.size f c))->sp vs H Q E->∃t,tP (iO jL P w K mg base N x (ai st) f c A outer s H E).BS (bw st) t/\t {nx:=λ_ h=>Q .bq h,rt:=Q} (start N vs) H):Def P w K mg base (k+1) x ps sp:=by
 obtain⟨f,fd,F,e,g⟩:=F.ex;exact⟨f,fd,F.ok S len (a f),e,F.kp,g⟩
end
section
variable {X:Cx}{e:Expr}{es:List Expr}{t:TA}{x:Str}{p pos:Pos}{k:Nat}{ps:List Str}{sp:Sp}
theorem uI(D:Def X.prog X.w X.K X.mg X.base k x ps sp)(i:aQ k X.A)(m:Gl X x)(g:Passes jL X E0)(o:PA X (e::es) t)(a:(x==("__debug__":Str))=false:=by decide+kernel)(h:(e::es).all notStar=true:=by rfl):
  PE X (.Call (.Name x p) (e::es) [] pos) (wj sp [] E0 t):=by
 obtain⟨f,fd,F,j,l,n⟩:=D.ex;have c:=h;rw[zcj,zbG] at c;exact EG F i m j l n .nil g o a (bA es X.env c.1) (d9 es c.2)
theorem BI(T:String)(g:Gl X x)(f:X.mg x=none)(a:bootBuiltins x=some (.type T))(c:x≠"__name__":=by decide+kernel)(hd:(x==("__debug__":Str))=false:=by decide+kernel):PE X (.Name x pos) (tC (.ty T)):=
 EH g f a rfl c hd
end
noncomputable def Nq(scope:Scope)(N:List Str):Bool:=
 (match scope.kind with|.function=>true|_=>false)&&decide N.Nodup&&scope.names.all λy=>y.2 != .cell&&scope.names.lookup y.1==some y.2
theorem cU{scope:Scope}{N:List Str}(h:Nq scope N=true):eX scope N:=by
 unfold Nq at h;rw[zbG,zbG] at h;obtain⟨⟨f,g⟩,a⟩:=h;have a:=zbu.mp a;refine⟨?_,of_decide_eq_true g,λy c=>?_,λy c=>?_⟩
 ·cases e:scope.kind<;>rw[e] at f<;>first|rfl|cases f
 ·have:=a y c;rw[zbG] at this;simpa using this.1
 ·have:=a y c;rw[zbG] at this;simpa using this.2
section
variable {X:Cx}{K:yaI}
variable {o e:Expr}{es:List Expr}{to:TE}{t:TA}{name:Str}{apos cpos:Pos}{T id:String}{r:V->List V->Hp->VK->Prop}
theorem Jg(j:PlainAttrs T)(slot:Slot T name id)(g:typeOf (.builtin id)=pure (.type "method_descriptor"))(m:DH X id r)(l:PE X o to)(n:PA X (e::es) t)(c:attributeBase o name X.env (eval o X.env)=eval o X.env:=by rfl)(i:(e::es).all notStar=true:=by rfl)(f:decide ((e::es).length+0+0<30)=true:=by rfl)(a:(apos.endLine==cpos.line)=true:=by rfl)(q:X.K=K:=by rfl):PE X (.Call (.Attribute o name apos) (e::es) [] cpos) (Of K T r to t):=by
 subst q;have h:=i;rw[zcj,zbG] at h;refine iD j slot g m l n c ?_ a (bA es X.env h.1) (d9 es h.2);rw[q9 _ i];show(true&&true&&decide ((e::es).length+0+0<30))=true;rw[f];rfl
end
end L2
set_option maxHeartbeats 400000
set_option maxHeartbeats 1000000
set_option maxHeartbeats 4000000
namespace J
open PySem PySem.Spec PyProof.Rows L2
section
variable {P:yaj}{w:yak}{K:yaI}{mg:Str->Option yai}{base:Heap}
theorem Ky{p:List yai->Prop}(h:∀a,p [a])(us:List yai)(e:us.length=1):p us:=by
 cases us with
 |nil=>cases e
 |cons a r=>
  have e:r=[]:=zaa (Nat.succ.inj e);subst e;exact h a
theorem t8{p:List yai->Prop}(h:∀a b,p [a,b])(us:List yai)(e:us.length=2):p us:=by
 cases us with
 |nil=>cases e
 |cons a r=>exact Ky (p:=λr=>p (a::r)) (h a) r (Nat.succ.inj e)
theorem FP{p:List yai->Prop}(h:∀a b c,p [a,b,c])(us:List yai)(e:us.length=3):p us:=by
 cases us with
 |nil=>cases e
 |cons a r=>exact t8 (p:=λr=>p (a::r)) (h a) r (Nat.succ.inj e)
theorem by4{p:List yai->Prop}(h:∀a b c d,p [a,b,c,d])(us:List yai)(e:us.length=4):p us:=by
 cases us with
 |nil=>cases e
 |cons a r=>exact FP (p:=λr=>p (a::r)) (h a) r (Nat.succ.inj e)
theorem HQ{x:Str}{st:Stmt}{f:Addr}{o:yai}{n m:Option Addr}{j:Array (Option yai)}{kV g i e ct:yai}{h:Heap}{ps:List Str}(X:K.In h)(G:h.Ns yaq mg)(a:zcD K yaq x=some (some (.ref f)))(l:K.lookup f=some ⟨o,n,.func (zcC x x (cO st) (bw st) (ai st) .none kV g i m e ct),j⟩)(c:zce K e x=true)(k:zcd K (.ref f)=true)(b:∀(kV g i:yai)(m:Option Addr)(e ct:yai)(us:List yai),us.length=ps.length->yaA (zcC x x (cO st) (bw st) (ai st) .none kV g i m e ct) ⟨us,[]⟩=pure (ps.zip us)):Src K mg x ps st:=
 ⟨f,_,gc (st:=st) l c k,zcq X G a,(gc (st:=st) l c k).binds b⟩
end
end J
namespace M
open PySem L2
inductive D where
 |bq|bl (b:Bool)|int (i:Int)|str (x:Str)|tup (ds:List D)|lst (ds:List D)|dct (ks:List Key) (ds:List D)|loc (n:Nat)|ty (n:String)|k8 (ns:List Int)|fd|fn (a:Addr)
inductive MO where
 |lst (ds:List D)|dct (ks:List Key) (ds:List D)|feed (n:Nat)|ins (C:Addr) (ks:List Str) (ds:List D)|zM (F:Addr->List Addr->Heap->Prop) (ks:List D)
noncomputable def fd3(l s d:Int):List (Key×V):=[(.inr "left",.int l),(.inr "seed",.int s),(.inr "drawn",.int d)]
abbrev aA:=List (Option MO)
noncomputable def MO.d:MO->D
 |.lst ds=>.lst ds
 |.dct ks ds=>.dct ks ds
 |.feed _=>.fd
 |.ins _ _ _=>.fd
 |.zM _ _=>.fd
inductive R where
 |dat (d:D)|new (o:MO)
noncomputable def R.d:R->D
 |.dat d=>d
 |.new o=>o.d
theorem al{H:Hp}{p:Addr}{o:HO}(a:H p=none):gz H (upd H p o):=λb c e=>by rw[aN (bC e a)];exact e
structure Wd where
 B:Hp
 r:Nat->Option Addr
structure Wd.le(w w':Wd):Prop where
 b:gz w.B w'.B
 r:∀n a,w.r n=some a->w'.r n=some a
theorem Wd.le.refl{w:Wd}:w.le w:=⟨gz.refl _,λ_ _ h=>h⟩
theorem Wd.le.trans{w f c:Wd}(h:w.le f)(g:f.le c):w.le c:=⟨h.b.trans g.b,λn a e=>g.r n a (h.r n a e)⟩
mutual
def Rep(K:yaI)(w:Wd):D->V->Prop
 |.bq,v=>v=.bq
 |.bl b,v=>v=.bl b
 |.int i,v=>v=.int i
 |.str x,v=>v=.str x
 |.ty n,v=>v=.ty n
 |.fd,v=>∃a,v=.ref a
 |.fn a,v=>v=.ref a
 |.loc n,v=>∃a,w.r n=some a/\v=.ref a
 |.tup ds,v=>∃a e,v=.ref a/\ef K w.B a e/\ak K w ds e
 |.lst ds,v=>∃a e,v=.ref a/\w.B a=some (.lst e)/\ak K w ds e
 |.k8 ns,v=>∃a,v=.ref a/\cV K w.B a (ns.map V.int)
 |.dct ks ds,v=>∃a c,v=.ref a/\w.B a=some (.dK c)/\c.map (·.1)=ks/\ak K w ds (c.map (·.2))
def ak(K:yaI)(w:Wd):List D->List V->Prop
 |[],xs=>xs=[]
 |d::ds,xs=>∃x r,xs=x::r/\Rep K w d x/\ak K w ds r
end
mutual
theorem Rep.le{K:yaI}{w l:Wd}(e:w.le l):∀(d:D)(v:V),Rep K w d v->Rep K l d v
 |.bq,_,h=>by simpa[Rep] using h
 |.bl b,_,h=>by simpa[Rep] using h
 |.int i,_,h=>by simpa[Rep] using h
 |.str x,_,h=>by simpa[Rep] using h
 |.ty x,_,h=>by simpa[Rep] using h
 |.fd,_,h=>by simpa[Rep] using h
 |.fn _,_,h=>by simpa[Rep] using h
 |.loc n,v,h=>by
  simp only[Rep] at h⊢;obtain⟨a,f,c⟩:=h;exact⟨a,e.r _ _ f,c⟩
 |.lst ds,v,h=>by
  simp only[Rep] at h⊢;obtain⟨a,g,f,c,j⟩:=h;exact⟨a,g,f,e.b _ _ c,ak.le e ds g j⟩
 |.k8 ns,v,h=>by
  simp only[Rep] at h⊢;obtain⟨a,f,c⟩:=h;exact⟨a,f,e.b.seq c⟩
 |.tup ds,v,h=>by
  simp only[Rep] at h⊢;obtain⟨a,g,f,c,j⟩:=h;exact⟨a,g,f,ef.same e.b c,ak.le e ds g j⟩
 |.dct ks ds,v,h=>by
  simp only[Rep] at h⊢;obtain⟨a,g,f,c,j,m⟩:=h;exact⟨a,g,f,e.b _ _ c,j,ak.le e ds _ m⟩
theorem ak.le{K:yaI}{w c:Wd}(e:w.le c):∀(ds:List D)(a:List V),ak K w ds a->ak K c ds a
 |[],_,h=>by simpa[ak] using h
 |d::ds,a,h=>by
  simp only[ak] at h⊢;obtain⟨x,r,i,g,f⟩:=h;exact⟨x,r,i,Rep.le e d x g,ak.le e ds r f⟩
end
section
variable {K:yaI}{w w':Wd}
theorem ak.nil:ak K w [] []:=by simp[ak]
theorem ak.cons{d:D}{v:V}{ds:List D}{vs:List V}(h:Rep K w d v)(t:ak K w ds vs):ak K w (d::ds) (v::vs):=by
 simp only[ak];exact⟨v,vs,rfl,h,t⟩
theorem ak.length:∀{ds:List D}{vs:List V},ak K w ds vs->vs.length=ds.length
 |[],_,h=>by simp only[ak] at h;subst h;rfl
 |d::ds,vs,h=>by
  simp only[ak] at h;obtain⟨x,r,rfl,_,h⟩:=h;simp[ak.length h]
theorem ak.get:∀{ds:List D}{vs:List V}{i:Nat}{d:D},ak K w ds vs->ds[i]? =some d->∃v,vs[i]? =some v/\Rep K w d v
 |[],_,_,_,_,e=>by simp at e
 |d::ds,vs,0,d',h,e=>by
  simp only[ak] at h;obtain⟨x,r,rfl,a,h⟩:=h;simp at e;subst e;exact⟨x,rfl,a⟩
 |d::ds,vs,i+1,d',h,e=>by
  simp only[ak] at h;obtain⟨x,r,rfl,a,h⟩:=h;obtain⟨v,f,c⟩:=ak.get (i:=i) h (by simpa using e);exact⟨v,by simpa using f,c⟩
theorem ak.append:∀{ds es:List D}{vs us:List V},ak K w ds vs->ak K w es us->ak K w (ds++es) (vs++us)
 |[],_,_,_,h,g=>by simp only[ak] at h;subst h;exact g
 |d::ds,es,vs,us,h,g=>by
  simp only[ak] at h;obtain⟨x,r,rfl,a,h⟩:=h;exact ak.cons a (ak.append h g)
theorem ak.snoc{ds:List D}{vs:List V}{d:D}{v:V}(h:ak K w ds vs)(g:Rep K w d v):ak K w (ds++[d]) (vs++[v]):=h.append (.cons g .nil)
theorem ak.take:∀(n:Nat){ds:List D}{vs:List V},ak K w ds vs->ak K w (ds.take n) (vs.take n)
 |0,_,_,_=>by simp[ak]
 |n+1,[],_,h=>by simp only[ak] at h;subst h;simp[ak]
 |n+1,d::ds,vs,h=>by
  simp only[ak] at h;obtain⟨x,r,rfl,a,h⟩:=h;exact ak.cons a (ak.take n h)
theorem ak.drop:∀(n:Nat){ds:List D}{vs:List V},ak K w ds vs->ak K w (ds.drop n) (vs.drop n)
 |0,_,_,h=>h
 |n+1,[],_,h=>by simp only[ak] at h;subst h;simp[ak]
 |n+1,d::ds,vs,h=>by
  simp only[ak] at h;obtain⟨x,r,rfl,a,h⟩:=h;exact ak.drop n h
end
def jw(K:yaI)(w:Wd):MO->HO->Prop
 |.lst ds,u=>∃e,u=.lst e/\ak K w ds e
 |.dct ks ds,u=>∃c,u=.dK c/\c.map (·.1)=ks/\ak K w ds (c.map (·.2))
 |.feed n,u=>∃l s:Int,u=.dK (fd3 l s n)/\0<=l/\0<=s/\s<1000003
 |.ins C ks ds,u=>∃f fs,u=.ins C f fs/\fs.map (·.1)=ks/\ak K w ds (fs.map (·.2))
 |.zM F ks,u=>∃(a:Addr)(bs:List Addr),u=.ext (F a bs)/\ak K w ks (bs.map V.ref)
theorem jw.le{K:yaI}{w c:Wd}(e:w.le c):∀{o:MO}{u:HO},jw K w o u->jw K c o u
 |.lst ds,u,⟨xs,h1,h2⟩=>⟨xs,h1,h2.le e⟩
 |.dct ks ds,u,⟨xs,h1,h2,h3⟩=>⟨xs,h1,h2,h3.le e⟩
 |.feed n,u,h=>h
 |.ins C ks ds,u,⟨dx,fs,h1,h2,h3⟩=>⟨dx,fs,h1,h2,h3.le e⟩
 |.zM F ks,u,⟨a,bs,h1,h2⟩=>⟨a,bs,h1,h2.le e⟩
structure Ok(K:yaI)(w:Wd)(H:Hp)(S:aA):Prop where
 base:gz w.B H
 live:∀n o,S[n]? =some (some o)->∃a u,w.r n=some a/\w.B a=none/\H a=some u/\jw K w o u
 inj:∀n m o o',S[n]? =some (some o)->S[m]? =some (some o')->w.r n=w.r m->n=m
 top:∀n,S.length<=n->w.r n=none
def zE(K:yaI)(w:Wd)(H:Hp)(S:aA):R->V->Prop
 |.dat d,v=>Rep K w d v
 |.new o,v=>∃a u,v=.ref a/\w.B a=none/\H a=some u/\jw K w o u/\∀n c,S[n]? =some (some c)->w.r n≠some a
def d7(K:yaI)(w:Wd)(δ:List (Option D))(a:St):Prop:=δ.length=a.length/\∀(i:Nat)(d:D),δ[i]? =some (some d)->∃v,a[i]? =some (some v)/\Rep K w d v
theorem d7.le{K:yaI}{w c:Wd}{δ:List (Option D)}{a:St}(h:d7 K w δ a)(e:w.le c):d7 K c δ a:=⟨h.1,λi d q=>by
 obtain⟨v,g,f⟩:=h.2 i d q;exact⟨v,g,f.le e⟩⟩
theorem d7.set{K:yaI}{w:Wd}{δ:List (Option D)}{f:St}{d:D}{v:V}(h:d7 K w δ f)(g:Rep K w d v)(i:Nat):d7 K w (δ.set i (some d)) (f.set i (some v)):=by
 refine⟨by simp[h.1],λj e q=>?_⟩;by_cases a:i=j
 ·subst a;rw[zbc] at q⊢;rw[yIp rfl] at q⊢;by_cases c:i<δ.length
  ·rw[yIp c] at q;rw[yIp (by rw[<-h.1];exact c)];have:d=e:=by simpa using q
   subst this;exact⟨v,rfl,g⟩
  ·rw[yIn c] at q;cases q
 ·rw[zaB a] at q⊢;exact h.2 j e q
section
variable {K:yaI}{w w':Wd}{H H':Hp}{S S':aA}
theorem freeze{r:R}{v:V}(k:Ok K w H S)(h:zE K w H S r v):∃w',w.le w'/\Ok K w' H S/\Rep K w' r.d v:=by
 cases r with
 |dat d=>exact⟨w,.refl,k,h⟩
 |new o=>
  obtain⟨a,u,rfl,t,x,l,s⟩:=h;have le:w.le ⟨upd w.B a u,w.r⟩:=⟨al t,λ_ _ e=>e⟩
  refine⟨⟨upd w.B a u,w.r⟩,le,⟨λb c e=>?_,λn c e=>?_,k.inj,k.top⟩,?_⟩
  ·by_cases f:b=a
   ·subst f;have e:upd w.B b u b=some c:=e;rw[bx] at e;rw[x];exact e
   ·have e:upd w.B a u b=some c:=e;rw[aN f] at e;exact k.base b c e
  ·obtain⟨j,q,g,G,E,y⟩:=k.live n c e;have:j≠a:=by intro z;subst z;exact s n c e g
   exact⟨j,q,g,by show upd w.B a u j=none;rw[aN this];exact G,E,y.le le⟩
  ·cases o with
   |lst ds=>
    obtain⟨m,rfl,h⟩:=l;show Rep K _ (.lst ds) _;simp only[Rep];exact⟨a,m,rfl,bx,h.le le⟩
   |dct ks ds=>
    obtain⟨i,rfl,g,h⟩:=l;show Rep K _ (.dct ks ds) _;simp only[Rep];exact⟨a,i,rfl,bx,g,h.le le⟩
   |feed n=>
    show Rep K _ .fd _;simp only[Rep];exact⟨a,rfl⟩
   |ins C ks ds=>
    show Rep K _ .fd _;simp only[Rep];exact⟨a,rfl⟩
   |zM F ks=>
    show Rep K _ .fd _;simp only[Rep];exact⟨a,rfl⟩
theorem store{o:MO}{v:V}(k:Ok K w H S)(h:zE K w H S (.new o) v):∃w',w.le w'/\Ok K w' H (S++[some o])/\Rep K w' (.loc S.length) v:=by
 obtain⟨a,u,rfl,F,G,E,f⟩:=h;let t:Nat->Option Addr:=λn=>if n=S.length then some a else w.r n;have le:w.le ⟨w.B,t⟩:=⟨gz.refl _,λn b e=>by
  have:n≠S.length:=by
   intro z;subst z;rw[k.top _ (zcH _)] at e;cases e
  show(if n=S.length then some a else w.r n)=some b;rw[yIn this];exact e⟩
 have at_:∀n c,(S++[some o])[n]? =some (some c)->(n=S.length/\c=o)∨(n<S.length/\S[n]? =some (some c)):=λn c e=>by
  by_cases i:n<S.length
  ·rw[zaf i] at e;exact .inr ⟨i,e⟩
  ·rw[zab (by lia)] at e;have:n - S.length=0:=by
    cases q:n - S.length with
    |zero=>rfl
    |succ j=>rw[q] at e;simp at e
   rw[this] at e;have e:o=c:=by simpa using e
   exact .inl ⟨by lia,e.symm⟩
 refine⟨⟨w.B,t⟩,le,⟨k.base,λn c e=>?_,λn m l g Q y e=>?_,λn f=>?_⟩,?_⟩
 ·rcases at_ n c e with⟨rfl,rfl⟩|⟨i,e⟩
  ·exact⟨a,u,by show(if _ then _ else _)=_;rw[yIp rfl],F,G,E.le le⟩
  ·obtain⟨U,C,P,O,L,I⟩:=k.live n c e;exact⟨U,C,le.r _ _ P,O,L,I.le le⟩
 ·rcases at_ n l Q with⟨rfl,rfl⟩|⟨i,x⟩
  ·rcases at_ m g y with⟨rfl,rfl⟩|⟨s,q2⟩
   ·rfl
   ·exfalso;have e:(if S.length=S.length then some a else w.r S.length)=(if m=S.length then some a else w.r m):=e;rw[yIp rfl,yIn (by lia)] at e;exact f m g q2 e.symm
  ·rcases at_ m g y with⟨rfl,rfl⟩|⟨s,q2⟩
   ·exfalso;have e:(if n=S.length then some a else w.r n)=(if S.length=S.length then some a else w.r S.length):=e;rw[yIp rfl,yIn (by lia)] at e;exact f n l x e
   ·have e:(if n=S.length then some a else w.r n)=(if m=S.length then some a else w.r m):=e;rw[yIn (by lia),yIn (by lia)] at e;exact k.inj n m l g x q2 e
 ·rw[zaL] at f;have:n≠S.length:=by simp at f;lia
  show(if n=S.length then some a else w.r n)=none;rw[yIn this];exact k.top n (by simp at f;lia)
 ·simp only[Rep];exact⟨a,by show(if _ then _ else _)=_;rw[yIp rfl],rfl⟩
theorem Ok.alloc{p:Addr}{o:HO}(k:Ok K w H S)(c:H p=none):Ok K w (upd H p o) S:=
 ⟨k.base.trans (al c),λn f e=>by
  obtain⟨a,u,j,i,h,g⟩:=k.live n f e;exact⟨a,u,j,i,al c _ _ h,g⟩,k.inj,k.top⟩
theorem Ok.free{p:Addr}(k:Ok K w H S)(a:H p=none):w.B p=none:=k.base.free a
theorem Ok.fresh{p:Addr}{o:HO}{m:MO}(k:Ok K w H S)(c:H p=none)(h:jw K w m o):zE K w (upd H p o) S (.new m) (.ref p):=
 ⟨p,o,rfl,k.free c,bx,h,λn i e z=>by
  obtain⟨a,u,g,l,f,j⟩:=k.live n i e;rw[z] at g;cases g;rw[c] at f;cases f⟩
theorem Ok.qw{p:Addr}{ds:List D}{c:List V}(k:Ok K w H S)(i:H p=none)(h:ak K w ds c):∃w',w.le w'/\Ok K w' (upd H p (.tup c)) S/\Rep K w' (.tup ds) (.ref p):=by
 have l:=k.free i;have le:w.le ⟨upd w.B p (.tup c),w.r⟩:=⟨al l,λ_ _ e=>e⟩
 refine⟨⟨upd w.B p (.tup c),w.r⟩,le,⟨λb o e=>?_,λn o e=>?_,k.inj,k.top⟩,?_⟩
 ·by_cases g:b=p
  ·subst g;have e:upd w.B b (.tup c) b=some o:=e;rw[bx] at e⊢;exact e
  ·have e:upd w.B p (.tup c) b=some o:=e;rw[aN g] at e⊢;exact k.base b o e
 ·obtain⟨a,u,s,q,j,m⟩:=k.live n o e;have f:a≠p:=bC j i;exact⟨a,u,s,by show upd w.B p _ a=none;rw[aN f];exact q,by rw[aN f];exact j,m.le le⟩
 ·simp only[Rep];exact⟨p,c,rfl,ef.of bx,h.le le⟩
theorem Ok.put{n:Nat}{a:Addr}{o o':MO}{u':HO}(k:Ok K w H S)(e:S[n]? =some (some o))(g:w.r n=some a)(h:jw K w o' u'):Ok K w (upd H a u') (S.set n (some o')):=by
 have F:n<S.length:=by
  rcases zcz n S.length with h|h
  ·exact h
  ·rw[zau h] at e;cases e
 have at_:∀m q,(S.set n (some o'))[m]? =some (some q)->(m=n/\q=o')∨(m≠n/\S[m]? =some (some q)):=λm q z=>by
  by_cases c:n=m
  ·subst c;rw[zbc,yIp rfl,yIp F] at z;have z:o'=q:=by simpa using z
   exact .inl ⟨rfl,z.symm⟩
  ·rw[zaB c] at z;exact .inr ⟨λy=>c y.symm,z⟩
 obtain⟨Q,O,j,i,P,_⟩:=k.live n o e;rw[g] at j;cases j;refine⟨λb q z=>?_,λm q z=>?_,λm l q E z x y=>?_,λm c=>k.top m (by simpa using c)⟩
 ·rw[aN (by intro y;subst y;rw[i] at z;cases z)];exact k.base b q z
 ·rcases at_ m q z with⟨rfl,rfl⟩|⟨c,z⟩
  ·exact⟨a,u',g,i,bx,h⟩
  ·obtain⟨b,u,s,L,I,G⟩:=k.live m q z;have:b≠a:=by
    intro y;subst y;exact c (k.inj m n q o z e (s.trans g.symm))
   exact⟨b,u,s,L,by rw[aN this];exact I,G⟩
 ·have old:∀m q,(S.set n (some o'))[m]? =some (some q)->∃f,S[m]? =some (some f):=λm q z=>by
   rcases at_ m q z with⟨rfl,rfl⟩|⟨c,z⟩
   ·exact⟨o,e⟩
   ·exact⟨q,z⟩
  obtain⟨f,v⟩:=old m q z;obtain⟨C,t⟩:=old l E x;exact k.inj m l f C v t y
end
noncomputable def bz(S:aA):D->D
 |.loc n=>match S[n]? with
  |some (some o)=>o.d
  |_=>.loc n
 |d=>d
section
variable {K:yaI}{w:Wd}{H:Hp}{S:aA}{v:V}
theorem bG{d:D}{ds:List D}(k:Ok K w H S)(h:Rep K w d v)(e:bz S d=.lst ds):∃a c,v=.ref a/\H a=some (.lst c)/\ak K w ds c:=by
 cases d with
 |loc n=>
  simp only[Rep] at h;obtain⟨a,f,rfl⟩:=h;simp only[bz] at e;split at e
  next o q=>
   obtain⟨x,u,i,t,s,m⟩:=k.live n o q;rw[f] at i;cases i;cases o with
   |lst es=>
    have:es=ds:=by simpa[MO.d] using e
    subst this;obtain⟨c,rfl,g⟩:=m;exact⟨a,c,rfl,s,g⟩
   |dct ks es=>simp[MO.d] at e
   |feed n=>simp[MO.d] at e
   |ins C ks ds=>simp[MO.d] at e
   |zM F ks=>simp[MO.d] at e
  next=>cases e
 |lst es=>
  have:es=ds:=by simpa[bz] using e
  subst this;simp only[Rep] at h;obtain⟨a,c,f,l,j⟩:=h;exact⟨a,c,f,k.base _ _ l,j⟩
 |_=>simp[bz] at e
theorem dJ{d:D}{ds:List D}(k:Ok K w H S)(h:Rep K w d v)(e:bz S d=.tup ds):∃a c,v=.ref a/\ef K H a c/\ak K w ds c:=by
 cases d with
 |loc n=>
  simp only[bz] at e;split at e
  next o q=>cases o<;>simp[MO.d] at e
  next=>cases e
 |tup es=>
  have:es=ds:=by simpa[bz] using e
  subst this;simp only[Rep] at h;obtain⟨a,c,i,g,f⟩:=h;exact⟨a,c,i,ef.same k.base g,f⟩
 |_=>simp[bz] at e
theorem fT{d:D}{ks:List Key}{ds:List D}(k:Ok K w H S)(h:Rep K w d v)(e:bz S d=.dct ks ds):∃a kvs,v=.ref a/\H a=some (.dK kvs)/\kvs.map (·.1)=ks/\ak K w ds (kvs.map (·.2)):=by
 cases d with
 |loc n=>
  simp only[Rep] at h;obtain⟨a,c,rfl⟩:=h;simp only[bz] at e;split at e
  next o q=>
   obtain⟨x,u,f,t,s,m⟩:=k.live n o q;rw[c] at f;cases f;cases o with
   |lst es=>simp[MO.d] at e
   |feed n=>simp[MO.d] at e
   |ins C ks ds=>simp[MO.d] at e
   |zM F ks=>simp[MO.d] at e
   |dct ks' es=>
    have:ks'=ks/\es=ds:=by simpa[MO.d] using e
    obtain⟨rfl,rfl⟩:=this;obtain⟨kvs,rfl,g⟩:=m;exact⟨a,kvs,rfl,s,g⟩
  next=>cases e
 |dct ks' es=>
  have:ks'=ks/\es=ds:=by simpa[bz] using e
  obtain⟨rfl,rfl⟩:=this;simp only[Rep] at h;obtain⟨a,i,c,l,j⟩:=h;exact⟨a,i,c,k.base _ _ l,j⟩
 |_=>simp[bz] at e
end
abbrev bE:=List (Option D)
abbrev AK:=R->aA->Prop
abbrev AE:=bE->aA->AK->Prop
abbrev AT:=bE->aA->(Bool->aA->Prop)->Prop
abbrev AA:=bE->aA->(List D->aA->Prop)->Prop
abbrev AO:=bE->aA->(Option Int->aA->Prop)->Prop
structure gX where
 nx:bE->aA->Prop
 rt:AK
 bk:bE->aA->Prop:=λ_ _=>False
 ct:bE->aA->Prop:=λ_ _=>False
abbrev AS:=gX->bE->aA->Prop
abbrev AG:=D->bE->aA->(bE->aA->Prop)->Prop
abbrev zK:=List D->bE->aA->(bE->aA->Prop)->Prop
abbrev AI:=bE->aA->(List D->(aA->Prop)->aA->Prop)->Prop
abbrev A2:=D->D->aA->AK->Prop
abbrev A1:=D->aA->AK->Prop
abbrev AN:=List D->aA->AK->Prop
section
variable (K:yaI)(w:Wd)
def dX(f:AK)(Q:VK):Prop:=∀r c v a e,w.le a->Ok K a e c->zE K a e c r v->f r c->Q v e
def yq(f:Bool->aA->Prop)(Q:Bool->Hp->Prop):Prop:=∀b c a e,w.le a->Ok K a e c->f b c->Q b e
def NK(h:List D->aA->Prop)(Q:List V->Hp->Prop):Prop:=∀e f c a g,w.le a->Ok K a g f->ak K a e c->h e f->Q c g
def NJ(f:Option Int->aA->Prop)(Q:Option Int->Hp->Prop):Prop:=∀i c a e,w.le a->Ok K a e c->f i c->Q i e
def kK(h:bE->aA->Prop)(Q:St->Hp->Prop):Prop:=∀e f c a g,w.le a->Ok K a g f->d7 K a e c->h e f->Q c g
structure yp(Da:gX)(D:Ends):Prop where
 nx:kK K w Da.nx D.nx
 rt:dX K w Da.rt D.rt
 bk:kK K w Da.bk D.bk
 ct:kK K w Da.ct D.ct
structure ND(J:It)(ds:List D)(P:aA->Prop):Prop where
 go:∀i H S w' d,w.le w'->Ok K w' H S->P S->ds[i]? =some d->J.go i H
 zQ:∀i H S w' d x H',w.le w'->Ok K w' H S->P S->ds[i]? =some d->J.zQ i H x H'->∃w3,w'.le w3/\Ok K w3 H' S/\Rep K w3 d x
 stop:∀i H S w',w.le w'->Ok K w' H S->P S->i=ds.length->J.stop i H
def NL(g:List D->(aA->Prop)->aA->Prop)(R:It->Hp->Prop):Prop:=∀c P e J a f,w.le a->Ok K a f e->ND K a J c P->g c P e->R J f
end
section
variable {K:yaI}{w w':Wd}
theorem dX.le{a:AK}{Q:VK}(h:dX K w a Q)(e:w.le w'):dX K w' a Q:=λr S v c H l=>h r S v c H (e.trans l)
theorem yq.le{Qa}{Q}(h:yq K w Qa Q)(e:w.le w'):yq K w' Qa Q:=λr S a H l=>h r S a H (e.trans l)
theorem kK.le{Qa}{Q}(h:kK K w Qa Q)(e:w.le w'):kK K w' Qa Q:=λr S v a H l=>h r S v a H (e.trans l)
theorem yp.le{a:gX}{D:Ends}(h:yp K w a D)(e:w.le w'):yp K w' a D:=⟨h.nx.le e,h.rt.le e,h.bk.le e,h.ct.le e⟩
end
section
variable (K:yaI)
def aY(a:AE):TE:=λf H Q=>∃w c S e,Ok K w H S/\d7 K w c f/\a c S e/\dX K w e Q
def jr(a:AT):TT:=λf H Q=>∃w c S e,Ok K w H S/\d7 K w c f/\a c S e/\yq K w e Q
def nB(a:AA):TA:=λf H Q=>∃w c S e,Ok K w H S/\d7 K w c f/\a c S e/\NK K w e Q
def CB(a:AO):TO:=λf H Q=>∃w c S e,Ok K w H S/\d7 K w c f/\a c S e/\NJ K w e Q
def gx(a:AS):TS:=λD f H=>∃w c S e,Ok K w H S/\d7 K w c f/\a e c S/\yp K w e D
def sP(a:AG):TG:=λx f H Q=>∃w d c S e,Ok K w H S/\d7 K w c f/\Rep K w d x/\a d c S e/\kK K w e Q
def pT(a:zK):C9:=λh g H Q=>∃w e c S f,Ok K w H S/\d7 K w c g/\ak K w e h/\a e c S f/\kK K w f Q
def ve(a:AI):TI:=λf H R=>∃w c S e,Ok K w H S/\d7 K w c f/\a c S e/\NL K w e R
def sQ(a:A2):R2:=λx y H Q=>∃w d e S c,Ok K w H S/\Rep K w d x/\Rep K w e y/\a d e S c/\dX K w c Q
def Nj(a:A1):V->Hp->VK->Prop:=λx H Q=>∃w d S c,Ok K w H S/\Rep K w d x/\a d S c/\dX K w c Q
def Kw(a:AN):List V->Hp->VK->Prop:=λf H Q=>∃w c S e,Ok K w H S/\ak K w c f/\a c S e/\dX K w e Q
def Ni(a:D->List D->aA->AK->Prop):V->List V->Hp->VK->Prop:=λx f H Q=>∃w d c S e,Ok K w H S/\Rep K w d x/\ak K w c f/\a d c S e/\dX K w e Q
def aM(a:AN):Sp:=λc H Q _=>Kw K a c H Q
end
structure GE(X:Cx)(e:Expr)(a:AE):Prop where
 p:PE X e (aY X.K a)
structure GT(X:Cx)(e:Expr)(a:AT):Prop where
 p:PT X e (jr X.K a)
structure GW(X:Cx)(e:Expr)(a:AT):Prop where
 p:PW X e (jr X.K a)
structure GA(X:Cx)(e:List Expr)(a:AA):Prop where
 p:PA X e (nB X.K a)
structure GO(X:Cx)(e:Option Expr)(a:AO):Prop where
 p:PO X e (CB X.K a)
structure GS(X:Cx)(s:Stmt)(a:AS):Prop where
 p:PS X s (gx X.K a)
structure ym(X:Cx)(s:List Stmt)(a:AS):Prop where
 p:tP X s (gx X.K a)
structure GG(X:Cx)(e:Expr)(a:AG):Prop where
 p:PG X e (sP X.K a)
structure NF(X:Cx)(e:List Expr)(a:zK):Prop where
 p:Hw X e (pT X.K a)
structure GI(X:Cx)(tg e:Expr)(a:AI):Prop where
 p:PI X tg e (ve X.K a)
structure Ob(X:Cx)(e:List Expr)(a:AT):Prop where
 p:Hv X e (jr X.K a)
structure kX(X:Cx)(f:yai->yai->Sem yai)(a:A2):Prop where
 p:fG X f (sQ X.K a)
structure PY(X:Cx)(f:yai->Sem yai)(a:A1):Prop where
 p:K8 X f (Nj X.K a)
structure ua(X:Cx)(f:yai)(a:AN):Prop where
 p:bW X f (Kw X.K a)
structure PX(X:Cx)(a:A2):Prop where
 p:DP X (sQ X.K a)
section
variable {X:Cx}
theorem mE{e:Expr}{t u:TE}(h:PE X e t)(m:∀a H Q,u a H Q->t a H Q):PE X e u:=λc s a H Q I q=>h c s a H Q I (m a H Q q)
theorem mT{e:Expr}{t u:TT}(h:PT X e t)(m:∀a H Q,u a H Q->t a H Q):PT X e u:=λc s a H Q I q=>h c s a H Q I (m a H Q q)
theorem mW{e:Expr}{t u:TT}(h:PW X e t)(m:∀a H Q,u a H Q->t a H Q):PW X e u:=λf c s a H Q I q=>h f c s a H Q I (m a H Q q)
theorem mA{e:List Expr}{t u:TA}(h:PA X e t)(m:∀a H Q,u a H Q->t a H Q):PA X e u:=λf c s a H Q I q=>h f c s a H Q I (m a H Q q)
theorem mO{e:Option Expr}{t u:TO}(h:PO X e t)(m:∀a H Q,u a H Q->t a H Q):PO X e u:=λc s a H Q I q=>h c s a H Q I (m a H Q q)
theorem mS{e:Stmt}{t u:TS}(h:PS X e t)(m:∀D a H,u D a H->t D a H):PS X e u:=λc s a H D I q=>h c s a H D I (m D a H q)
theorem PJ{e:List Stmt}{t u:TS}(h:tP X e t)(m:∀D a H,u D a H->t D a H):tP X e u:=λc s a H D I q=>h c s a H D I (m D a H q)
theorem mG{e:Expr}{t u:TG}(h:PG X e t)(m:∀x a H Q,u x a H Q->t x a H Q):PG X e u:=λc s a H x v Q I r q=>h c s a H x v Q I r (m x a H Q q)
theorem PK{e:List Expr}{t u:C9}(h:Hw X e t)(m:∀x a H Q,u x a H Q->t x a H Q):Hw X e u:=λc s a H x v Q I r q=>h c s a H x v Q I r (m x a H Q q)
theorem mI{g e:Expr}{t u:TI}(h:PI X g e t)(m:∀a H R,u a H R->t a H R):PI X g e u:=λc s a H R I q=>h c s a H R I (m a H R q)
theorem mTs{e:List Expr}{t u:TT}(h:Hv X e t)(m:∀a H Q,u a H Q->t a H Q):Hv X e u:=λc s a H Q I q=>h c s a H Q I (m a H Q q)
theorem m2{f:yai->yai->Sem yai}{t u:R2}(h:fG X f t)(m:∀x y H Q,u x y H Q->t x y H Q):fG X f u:=λa s c H x y v u Q I r e q=>h a s c H x y v u Q I r e (m x y H Q q)
theorem m1{f:yai->Sem yai}{t u:V->Hp->VK->Prop}(h:K8 X f t)(m:∀x H Q,u x H Q->t x H Q):K8 X f u:=λa s c H x v Q I r q=>h a s c H x v Q I r (m x H Q q)
theorem mC{f:yai}{t u:List V->Hp->VK->Prop}(h:bW X f t)(m:∀x H Q,u x H Q->t x H Q):bW X f u:=λa s c H x v Q I r q=>h a s c H x v Q I r (m x H Q q)
end
def fN(i:Nat):AE:=λa S Q=>∃d,a[i]? =some (some d)/\Q (.dat d) S
def aC(d:D):AE:=λ_ S Q=>Q (.dat d) S
def Ht(r:A2)(a b:AE):AE:=λc S Q=>a c S λx f=>b c f λy e=>r x.d y.d e Q
def Pb(r:A1)(a:AE):AE:=λc S Q=>a c S λx e=>r x.d e Q
def gy:AA:=λ_ S Q=>Q [] S
def ju(a:AE)(b:AA):AA:=λc S Q=>a c S λx g=>b c g λe f=>Q (x.d::e) f
def zv(a:AA):AE:=λe S Q=>a e S λc f=>c.length<=yag/\Q (.dat (.tup c)) f
def nQ(a:AA):AE:=λe S Q=>a e S λc f=>c.length<=yag/\Q (.new (.lst c)) f
def cF(a:AE):AE:=λe S Q=>a e S λr c=>match r with
 |.new o=>Q (.dat (.loc c.length)) (c++[some o])
 |.dat d=>Q (.dat d) c
def aCall(sp:AN)(a:AA):AE:=λc S Q=>a c S λe f=>sp e f Q
def aB(a:AE):AT:=λc S Q=>a c S λr e=>∃b,r.d=.bl b/\Q b e
noncomputable def fh:D->Option Bool
 |.bq=>some false
 |.bl b=>some b
 |.int i=>some (i != 0)
 |.str y=>if y.length<=yag then some ((y.length:Int) != 0) else none
 |.tup ds=>some (!ds.isEmpty)
 |.lst ds=>some (!ds.isEmpty)
 |.dct ks _=>some (!ks.isEmpty)
 |_=>none
def CY(a:AE):AT:=λe S Q=>a e S λr c=>∃b,fh (bz c r.d)=some b/\Q b c
def C7(a b:AE):AE:=λe S Q=>a e S λx f=>∃c,x.d=.bl c/\if c=true then b e f Q else Q (.dat (.bl false)) f
def Pd(a b:AE):AE:=λe S Q=>a e S λx f=>∃c,x.d=.bl c/\if c=true then Q (.dat (.bl true)) f else b e f Q
def Nu(a:AE):AE:=λe S Q=>a e S λx f=>∃c,x.d=.bl c/\Q (.dat (.bl (!c))) f
def Pf(a b:AT):AT:=λe S Q=>a e S λc f=>if c=true then b e f Q else Q false f
def Hs(a b:AT):AT:=λe S Q=>a e S λc f=>if c=true then Q true f else b e f Q
def C0(a:AT):AT:=λe S Q=>a e S λc f=>Q (!c) f
def aIf(t:AT)(a b:AE):AE:=λe S Q=>t e S λc f=>if c=true then a e f Q else b e f Q
def vN(r h:A2)(a b c:AE):AE:=λe S Q=>a e S λx l=>b e l λy j=>r x.d y.d j λz f=>∃k,z.d=.bl k/\if k=true then c e f λg i=>h y.d g.d i Q else Q (.dat (.bl false)) f
def qL:AO:=λ_ S Q=>Q none S
def CZ(a:AE):AO:=λc S Q=>a c S λr e=>∃i,r.d=.int i/\Q (some i) e
def Pc(r:D->Option Int->Option Int->aA->AK->Prop)(a:AE)(l u:AO):AE:=λc S Q=>a c S λx g=>l c g λi f=>u c f λj e=>r x.d i j e Q
def C1:AS:=λD a S=>D.nx a S
def tG(a b:AS):AS:=λD c S=>a {D with nx:=b D} c S
def KG(a:AE):AS:=λD c S=>a c S D.rt
def Nt:AS:=λD _ S=>D.rt (.dat .bq) S
def C5(a:AE):AS:=λD c S=>a c S λ_ e=>D.nx c e
def kW(c:AT)(a b:AS):AS:=λD e S=>c e S λk f=>if k=true then a D e f else b D e f
def bZ(i:Nat):AG:=λd a S Q=>Q (a.set i (some d)) S
def CQ:zK:=λc a S Q=>c=[]/\Q a S
def nN(a:AG)(b:zK):zK:=λf e S Q=>∃d r,f=d::r/\a d e S λc g=>b r c g Q
def CP(n:Nat)(a:zK):AG:=λd e S Q=>∃c,d=.tup c/\c.length=n/\a c e S Q
def C6(a:AE)(g:AG):AS:=λD c S=>a c S λr e=>g r.d c e D.nx
def pF(P:aA->Prop)(g:AG)(b:AS):List D->gX->bE->aA->Prop
 |[],D,δ,S=>P S/\D.nx δ S
 |x::xs,D,δ,S=>P S/\g x δ S λa c=>b {D with nx:=pF P g b xs D,ct:=pF P g b xs D,bk:=D.nx} a c
def iy(i:AI)(g:AG)(b:AS):AS:=λD a S=>i a S λc P e=>pF P g b c D a e
def CV(c:AT)(b:AS):AS:=λD a S=>∃W:Nat->bE->aA->Prop,(∃m,W m a S)/\∀m a S,W m a S->
 c a S λk g=>if k=true then∃N:bE->aA->Prop,(∀e h,N e h->∃f,f<m/\W f e h)/\b {D with nx:=N,ct:=N,bk:=D.nx} a g else D.nx a g
def oH:AT:=λ_ S Q=>Q true S
def ff(P:aA->Prop)(g:AG)(t:AT)(e:AE):List D->List D->bE->aA->(List D->aA->Prop)->Prop
 |[],acc,_,S,Q=>P S/\Q acc S
 |x::xs,acc,δ,S,Q=>P S/\g x δ S λa h=>t a h λb c=>if b=true then e a c λr f=>acc.length<yag/\ff P g t e xs (acc++[r.d]) a f Q else ff P g t e xs acc a c Q
noncomputable def nI(caps:List (Option Nat))(δ:bE):bE:=caps.map λo=>o.bind λi=>(δ[i]?).getD none
def dD(caps:List (Option Nat))(i:AI)(g:AG)(t:AT)(e:AE):AE:=λc S Q=>i c S λf P j=>ff P g t e f [] (nI caps c) j λa h=>Q (.new (.lst a)) h
noncomputable def b9(a:Int)(n:Nat):List D:=(zcK n).map λk:Nat=>.int (a+(k:Int))
def kO(a:AA):AI:=λc S Q=>a c S λe f=>∃j:Int,e=[.int j]/\(-(2 ^ 62)<=j/\j<2 ^ 62)/\Q (b9 0 j.toNat) (λ_=>True) f
noncomputable def signs(x:Str):List D:=x.cps.toList.map λc=>.str ⟨#[c]⟩
section
variable {K:yaI}
theorem dX.go{w:Wd}{i:AK}{Q:VK}(h:∀r S' v c e,w.le c->Ok K c e S'->Rep K c r.d v->i r S'->Q v e):dX K w i Q:=λr S' v c e le ok rep q=>by
 obtain⟨j,g,f,a⟩:=freeze ok rep;exact h r S' v j e (le.trans g) f a q
theorem dX.dat{w a:Wd}{c:AK}{Q:VK}{d:D}{v:V}{S:aA}{H:Hp}(h:dX K w c Q)(le:w.le a)(ok:Ok K a H S)(rep:Rep K a d v)(q:c (.dat d) S):Q v H:=h (.dat d) S v a H le ok rep q
theorem LD{i:Nat}:∀a H Q,aY K (fN i) a H Q->Lg i a H Q:=by
 rintro a H Q ⟨w,g,S,h,ok,env,⟨d,e,q⟩,bk⟩;obtain⟨v,f,c⟩:=env.2 i d e;exact⟨v,f,bk.dat .refl ok c q⟩
theorem K4{d:D}{v:V}(h:∀w,Rep K w d v):∀a H Q,aY K (aC d) a H Q->tC v a H Q:=by
 rintro a H Q ⟨w,c,S,e,ok,env,q,bk⟩;exact bk.dat .refl ok (h w) q
theorem Ek{r:A2}{a b:AE}:∀h H Q,aY K (Ht r a b) h H Q->Lk (sQ K r) (aY K a) (aY K b) h H Q:=by
 rintro h H Q ⟨w,l,S,x,ok,env,q,bk⟩;refine⟨w,l,S,_,ok,env,q,.go λs v v1 n z g j e t=>?_⟩;refine⟨n,l,v,_,j,env.le g,t,.go λo u v2 m y f i c q2=>?_⟩;exact⟨m,s.d,o.d,u,x,i,e.le f,c,q2,bk.le (g.trans f)⟩
theorem Oh{r:A1}{a:AE}:∀e H Q,aY K (Pb r a) e H Q->Pw (Nj K r) (aY K a) e H Q:=by
 rintro e H Q ⟨w,h,S,n,ok,env,q,bk⟩;refine⟨w,h,S,_,ok,env,q,.go λj m v1 i o g f c l=>?_⟩;exact⟨i,j.d,m,n,f,c,l,bk.le g⟩
theorem LK:∀a H Q,nB K gy a H Q->Ac a H Q:=by
 rintro a H Q ⟨w,c,S,e,ok,env,q,bk⟩;exact bk [] S [] w H .refl ok .nil q
theorem IA{a:AE}{b:AA}:∀h H Q,nB K (ju a b) h H Q->Ag (aY K a) (nB K b) h H Q:=by
 rintro h H Q ⟨w,l,S,z,ok,env,q,bk⟩;refine⟨w,l,S,_,ok,env,q,.go λx t v1 n C g j e o=>?_⟩;refine⟨n,l,t,_,j,env.le g,o,λy s v m u f i c q2=>?_⟩;exact bk _ s _ m u (g.trans f) i (.cons (e.le f) c) q2
theorem LF{a:AA}:∀f H Q,aY K (zv a) f H Q->Lh (nB K a) f H Q:=by
 rintro f H Q ⟨w,l,S,y,ok,env,q,bk⟩;refine⟨w,l,S,_,ok,env,q,λv x u t z j h c ⟨o,m⟩=>⟨by rw[c.length];exact o,λp n=>?_⟩⟩;obtain⟨s,i,g,e⟩:=h.qw n c;exact bk.dat (j.trans i) g e m
theorem LL{a:AA}:∀f H Q,aY K (nQ a) f H Q->Lm (nB K a) f H Q:=by
 rintro f H Q ⟨w,i,S,t,ok,env,q,bk⟩;refine⟨w,i,S,_,ok,env,q,λo s l j u g e c ⟨n,m⟩=>⟨by rw[c.length];exact n,λp h=>?_⟩⟩;exact bk (.new (.lst o)) s _ j _ g (e.alloc h) (e.fresh h ⟨l,rfl,c⟩) m
theorem s_alloc{a:AE}:∀h H Q,aY K (cF a) h H Q->aY K a h H Q:=by
 rintro h H Q ⟨w,m,S,u,ok,env,q,bk⟩;refine⟨w,m,S,_,ok,env,q,λr t v s x g f c l=>?_⟩;cases r with
 |dat d=>exact bk.dat g f c l
 |new o=>
  obtain⟨n,j,i,e⟩:=store f c;exact bk.dat (g.trans j) i e l
theorem s_call{sp:AN}{a:AA}{E:XK}:∀e H Q,aY K (aCall sp a) e H Q->wj (aM K sp) [] E (nB K a) e H Q:=by
 rintro e H Q ⟨w,h,S,n,ok,env,q,bk⟩;refine⟨w,h,S,_,ok,env,q,λl m o i s g f c j=>?_⟩;exact⟨i,l,m,n,f,by rw[zbL];exact c,j,bk.le g⟩
theorem LP{r:AN}{a:AA}:∀e H Q,aY K (aCall r a) e H Q->Lp (Kw K r) (nB K a) e H Q:=by
 rintro e H Q ⟨w,h,S,n,ok,env,q,bk⟩;refine⟨w,h,S,_,ok,env,q,λl m o i s g f c j=>?_⟩;exact⟨i,l,m,n,f,c,j,bk.le g⟩
theorem iI{w:Wd}{b:Bool}{v:V}{d:D}(h:Rep K w d v)(e:d=.bl b):v=.bl b:=by subst e;simpa[Rep] using h
theorem bX{w:Wd}{b:Int}{v:V}{d:D}(h:Rep K w d v)(e:d=.int b):v=.int b:=by subst e;simpa[Rep] using h
theorem iW{w:Wd}{b:Str}{v:V}{d:D}(h:Rep K w d v)(e:d=.str b):v=.str b:=by subst e;simpa[Rep] using h
theorem wO{w:Wd}{v:V}{d:D}(h:Rep K w d v)(e:d=.bq):v=.bq:=by subst e;simpa[Rep] using h
theorem Bo{w:Wd}{n:String}{v:V}{d:D}(h:Rep K w d v)(e:d=.ty n):v=.ty n:=by subst e;simpa[Rep] using h
theorem Rep.bl{w:Wd}{b:Bool}:Rep K w (.bl b) (.bl b):=by simp[Rep]
theorem Rep.int{w:Wd}{b:Int}:Rep K w (.int b) (.int b):=by simp[Rep]
theorem Rep.str{w:Wd}{b:Str}:Rep K w (.str b) (.str b):=by simp[Rep]
theorem Rep.bq{w:Wd}:Rep K w .bq .bq:=by simp[Rep]
theorem Rep.ty{w:Wd}{n:String}:Rep K w (.ty n) (.ty n):=by simp[Rep]
theorem Pz{a:AE}:∀f H Q,jr K (aB a) f H Q->tB (aY K a) f H Q:=by
 rintro f H Q ⟨w,i,S,s,ok,env,q,bk⟩;refine⟨w,i,S,_,ok,env,q,.go λo m v1 j n h g c ⟨b,e,l⟩=>⟨b,iI c e,bk b m j n h g l⟩⟩
theorem DU{w:Wd}{H:Hp}{S:aA}{d:D}{v:V}{b:Bool}(ok:Ok K w H S)(h:Rep K w d v)(e:fh (bz S d)=some b):C8 K v H b:=by
 cases q:bz S d with
 |lst ds=>
  rw[q] at e;obtain⟨a,c,rfl,i,g⟩:=bG ok h q;refine Or.inl ⟨c,cV.of i,?_⟩;have:b= !ds.isEmpty:=by simpa[fh] using e.symm
  rw[this];have:=g.length;cases ds<;>cases c<;>simp at this⊢
 |tup ds=>
  rw[q] at e;obtain⟨a,c,rfl,i,g⟩:=dJ ok h q;refine Or.inr (Or.inl ⟨c,i,?_⟩);have:b= !ds.isEmpty:=by simpa[fh] using e.symm
  rw[this];have:=g.length;cases ds<;>cases c<;>simp at this⊢
 |dct ks ds=>
  rw[q] at e;obtain⟨a,f,rfl,i,g,j⟩:=fT ok h q;refine Or.inr (Or.inr ⟨f,i,?_⟩);have:b= !ks.isEmpty:=by simpa[fh] using e.symm
  rw[this,<-g];cases f<;>simp
 |_=>
  rw[q] at e;cases d<;>simp[bz] at q<;>first
   |(subst q;simp only[Rep] at h;subst h;simp[fh] at e;simp[C8,e];done)
   |(simp[fh] at e;done)
   |skip
  all_goals first
   |(simp only[Rep] at h;subst h;subst q;simp only[fh,zcJ.injEq] at e;subst e;rfl)
   |(simp only[Rep] at h;subst h;simp only[fh,zcJ.injEq] at e;subst e;rfl)
   |(split at q<;>first|(rename_i o _;cases o<;>simp[MO.d] at q)|(cases q;simp[fh] at e)|cases q)
   |(simp only[Rep] at h;subst h;subst q;simp only[fh] at e;split at e;next hl=>exact⟨hl,by simpa using e.symm⟩;next=>cases e)
   |skip
theorem LG{a:AE}:∀g H Q,jr K (CY a) g H Q->(aY K a) g H (λx i=>∃k,C8 K x i k/\Q k i):=by
 rintro g H Q ⟨w,j,S,t,ok,env,q,bk⟩;exact⟨w,j,S,_,ok,env,q,.go λs n v1 l o h f c ⟨b,e,m⟩=>⟨b,DU f c e,bk b n l o h f m⟩⟩
theorem IB{a b:AE}:∀i H Q,aY K (C7 a b) i H Q->Gv (aY K a) (aY K b) i H Q:=by
 rintro i H Q ⟨w,j,S,o,ok,env,q,bk⟩;refine⟨w,j,S,_,ok,env,q,.go λs n v1 m t f h g ⟨c,e,l⟩=>⟨c,iI g e,?_⟩⟩;cases c with
 |true=>exact yY ⟨m,j,n,o,h,env.le f,by simpa using l,bk.le f⟩
 |false=>exact yZ (bk.dat f h .bl (by simpa using l))
theorem Oj{a b:AT}:∀g H Q,jr K (Hs a b) g H Q->Py (jr K a) (jr K b) g H Q:=by
 rintro g H Q ⟨w,h,S,m,ok,env,q,bk⟩;refine⟨w,h,S,_,ok,env,q,λc l i n e f j=>?_⟩;cases c with
 |false=>exact yZ ⟨i,h,l,m,f,env.le e,by simpa using j,bk.le e⟩
 |true=>exact yY (bk _ l i n e f (by simpa using j))
theorem LJ{a:AT}:∀e H Q,jr K (C0 a) e H Q->Ll (jr K a) e H Q:=by
 rintro e H Q ⟨w,h,S,n,ok,env,q,bk⟩;exact⟨w,h,S,_,ok,env,q,λc l i m g f j=>bk _ l i m g f j⟩
theorem Eu{r y:A2}{a b c:AE}:∀n H Q,aY K (vN r y a b c) n H Q->Ai (sQ K r) (sQ K y) (aY K a) (aY K b) (aY K c) n H Q:=by
 rintro n H Q ⟨w,o,S,Qa,ok,env,q,bk⟩;refine⟨w,o,S,_,ok,env,q,.go λI X v1 F H1 m u h L=>?_⟩;refine⟨F,o,X,_,u,env.le m,L,.go λx W v2 E H2 l t e q2=>?_⟩;refine⟨E,I.d,x.d,W,_,t,h.le l,e,q2,.go λr3 U Z C H3 j dR g ⟨k,O,q3⟩=>⟨k,iI g O,?_⟩⟩;have v:=m.trans (l.trans j);cases k with
 |false=>exact yZ (bk.dat v dR .bl (by simpa using q3))
 |true=>
  rw[yIp rfl] at q3;refine yY ⟨C,o,U,_,dR,env.le v,q3,.go λG P Y z H4 i s f q4=>?_⟩;exact⟨z,x.d,G.d,P,_,s,e.le (j.trans i),f,q4,bk.le (v.trans i)⟩
theorem AV:∀a H Q,CB K qL a H Q->wg a H Q:=by
 rintro a H Q ⟨w,c,S,e,ok,env,q,bk⟩;exact bk none S w H .refl ok q
theorem Ij{a:AE}:∀f H Q,CB K (CZ a) f H Q->Gm (aY K a) f H Q:=by
 rintro f H Q ⟨w,j,S,t,ok,env,q,bk⟩;exact⟨w,j,S,_,ok,env,q,.go λs n v1 l o h g c ⟨i,e,m⟩=>⟨i,bX c e,bk _ n l o h g m⟩⟩
def Hj(K:yaI)(a:D->Option Int->Option Int->aA->AK->Prop):V->Option Int->Option Int->Hp->VK->Prop:=λx i j H Q=>∃w d S c,Ok K w H S/\Rep K w d x/\a d i j S c/\dX K w c Q
theorem Oi{r:D->Option Int->Option Int->aA->AK->Prop}{a:AE}{l u:AO}:∀h H Q,aY K (Pc r a l u) h H Q->Px (Hj K r) (aY K a) (CB K l) (CB K u) h H Q:=by
 rintro h H Q ⟨w,m,S,F,ok,env,q,bk⟩;refine⟨w,m,S,_,ok,env,q,.go λx E v1 v L e o f y=>?_⟩;refine⟨v,m,E,_,o,env.le e,y,λi C t I c n q2=>?_⟩;refine⟨t,m,C,_,n,env.le (e.trans c),q2,λj z s G g dR q3=>?_⟩;exact⟨s,x.d,z,F,dR,f.le (c.trans g),q3,bk.le (e.trans (c.trans g))⟩
theorem Il:∀D a H,gx K C1 D a H->Gn D a H:=by
 rintro D a H ⟨w,c,S,e,ok,env,q,bk⟩;exact bk.nx c S a w H .refl ok env q
theorem LH{a b:AS}:∀D e H,gx K (tG a b) D e H->Li (gx K a) (gx K b) D e H:=by
 rintro D e H ⟨w,j,S,o,ok,env,q,bk⟩;refine⟨w,j,S,_,ok,env,q,⟨λf n i l s h g c m=>?_,bk.rt,bk.bk,bk.ct⟩⟩;exact⟨l,f,n,o,g,c,m,bk.le h⟩
theorem LI{a:AE}:∀D c H,gx K (KG a) D c H->Lj (aY K a) D c H:=by
 rintro D c H ⟨w,e,S,f,ok,env,q,bk⟩;exact⟨w,e,S,_,ok,env,q,bk.rt⟩
theorem Iz{a:AE}:∀D e H,gx K (C5 a) D e H->Gs (aY K a) D e H:=by
 rintro D e H ⟨w,g,S,o,ok,env,q,bk⟩;exact⟨w,g,S,_,ok,env,q,.go λn l v1 i m c f h j=>bk.nx g l e i m c f (env.le c) j⟩
theorem LM{c:AT}{a b:AS}:∀D g H,gx K (kW c a b) D g H->Ln (jr K c) (gx K a) (gx K b) D g H:=by
 rintro D g H ⟨w,h,S,m,ok,env,q,bk⟩;refine⟨w,h,S,_,ok,env,q,λk l i n e f j=>?_⟩;cases k with
 |true=>exact yY ⟨i,h,l,m,f,env.le e,by simpa using j,bk.le e⟩
 |false=>exact yZ ⟨i,h,l,m,f,env.le e,by simpa using j,bk.le e⟩
theorem qd{i:Nat}:∀x a H Q,sP K (bZ i) x a H Q->xB i x a H Q:=by
 rintro x a H Q ⟨w,d,c,S,e,ok,env,rep,q,bk⟩;exact bk _ S _ w H .refl ok (env.set rep i) q
theorem Ir:∀x a H Q,pT K CQ x a H Q->MP x a H Q:=by
 rintro x a H Q ⟨w,e,c,S,f,ok,env,rep,⟨rfl,q⟩,bk⟩;exact⟨by simpa[ak] using rep,bk _ S _ w H .refl ok env q⟩
theorem Eo{a:AG}{b:zK}:∀x f H Q,pT K (nN a b) x f H Q->Hg (sP K a) (pT K b) x f H Q:=by
 rintro x f H Q ⟨w,y,j,S,u,ok,env,rep,⟨d,r,rfl,q⟩,bk⟩;simp only[ak] at rep;obtain⟨v,m,rfl,s,o⟩:=rep;refine⟨v,m,rfl,w,d,j,S,_,ok,env,s,q,λg t i l z c h e n=>?_⟩;exact⟨l,r,g,t,u,h,e,o.le c,n,bk.le c⟩
theorem Iq{n:Nat}{a:zK}:∀x c H Q,sP K (CP n a) x c H Q->MN K n (pT K a) x c H Q:=by
 rintro x c H Q ⟨w,d,f,S,l,ok,env,rep,⟨j,rfl,h,q⟩,bk⟩;simp only[Rep] at rep;obtain⟨p,g,rfl,i,e⟩:=rep;exact⟨p,g,rfl,ef.same ok.base i,by rw[e.length];exact h,w,j,f,S,l,ok,env,e,q,bk⟩
theorem AX{a:AE}{g:AG}:∀D f H,gx K (C6 a g) D f H->DW (aY K a) (sP K g) D f H:=by
 rintro D f H ⟨w,i,S,s,ok,env,q,bk⟩;refine⟨w,i,S,_,ok,env,q,.go λl n v1 j o e h c m=>?_⟩;exact⟨j,l.d,i,n,_,h,env.le e,c,m,bk.nx.le e⟩
theorem LO{i:AI}{g:AG}{b:AS}:∀D O H,gx K (iy i g b) D O H->Lo (ve K i) (sP K g) (gx K b) D O H:=by
 rintro D O H ⟨w,δ,S,Da,ok,env,q,bk⟩;refine⟨w,δ,S,_,ok,env,q,λn P S1 J w1 H1 G ok1 it q1=>?_⟩;refine⟨λi m O H=>m=n.length - i/\i<=n.length/\∃s j u,w1.le s/\Ok K s H u/\d7 K s j O/\pF P g b (n.drop i) Da j u,⟨n.length,by simp,zcI _,w1,δ,S1,.refl,ok1,env.le G,by simpa using q1⟩,?_⟩;rintro i m σ2 Y ⟨rfl,hi,s,j,u,a,f,c,C⟩;by_cases I:i<n.length
 ·rw[zag I] at C;obtain⟨hP,C⟩:=C;have hd:n[i]? =some n[i]:=zak I;refine .inr ⟨it.go i Y u s _ a f hP hd,λL Z=>∃Q o X,w1.le Q/\Ok K Q Z X/\d7 K Q o L/\pF P g b (n.drop (i+1)) Da o X,λL Z h=>⟨_,by lia,rfl,I,h⟩,λx Z y=>?_⟩;obtain⟨w2',t,f,rx⟩:=it.zQ i Y u s _ x Z a f hP hd y
  replace c:=c.le t
  replace a:=a.trans t
  refine⟨w2',n[i],j,u,_,f,c,rx,C,λo X σ3 Q H3 F dR W q3=>?_⟩;have U:=G.trans (a.trans F);refine⟨Q,o,X,_,dR,W,q3,⟨?_,bk.rt.le U,bk.nx.le U,?_⟩⟩
  ·exact λv S4 σ4 w4 H4 E z l q4=>⟨w4,v,S4,a.trans (F.trans E),z,l,q4⟩
  ·exact λv S4 σ4 w4 H4 E z l q4=>⟨w4,v,S4,a.trans (F.trans E),z,l,q4⟩
 ·have e:i=n.length:=by lia
  subst e;rw[List.drop_length] at C;exact .inl ⟨it.stop _ Y u s a f C.1 rfl,bk.nx j u σ2 s Y (G.trans a) f c C.2⟩
theorem Eh{c:AT}{b:AS}:∀D q H,gx K (CV c b) D q H->z9 (jr K c) (gx K b) D q H:=by
 rintro D q H ⟨w,X,S,Da,ok,env,⟨W,⟨m0,Y⟩,u⟩,bk⟩;refine⟨λm q H=>∃t a C,w.le t/\Ok K t H C/\d7 K t a q/\W m a C,⟨m0,w,X,S,.refl,ok,env,Y⟩,?_⟩;rintro m F H1 ⟨t,a,C,x,I,g,h1⟩;refine⟨t,a,C,_,I,g,u m a C h1,λk Q P H2 i v q2=>?_⟩;cases k with
 |false=>exact yZ (bk.nx a Q F P H2 (x.trans i) v (g.le i) (by simpa using q2))
 |true=>
  rw[yIp rfl] at q2;obtain⟨N,hN,q2⟩:=q2;have h:=x.trans i;refine yY ⟨λo U=>∃s e z,w.le s/\Ok K s U z/\d7 K s e o/\N e z,?_,P,a,Q,_,v,g.le i,q2,⟨?_,bk.rt.le h,bk.nx.le h,?_⟩⟩
  ·rintro o U ⟨s,e,z,L,dR,y,Z⟩;obtain⟨m',hm,h3⟩:=hN e z Z;exact⟨m',hm,s,e,z,L,dR,y,h3⟩
  ·exact λj O E G H4 n l f q4=>⟨G,j,O,h.trans n,l,f,q4⟩
  ·exact λj O E G H4 n l f q4=>⟨G,j,O,h.trans n,l,f,q4⟩
theorem LC:∀a H Q,jr K oH a H Q->Le a H Q:=by
 rintro a H Q ⟨w,c,S,e,ok,env,q,bk⟩;exact bk true S w H .refl ok q
theorem Ct{w:Wd}{δ:bE}{a:St}(h:d7 K w δ a)(caps:List (Option Nat)):d7 K w (nI caps δ) (oE caps a):=by
 refine⟨by simp[nI,oE],λi d e=>?_⟩;simp only[nI,zaZ] at e;cases q:caps[i]? with
 |none=>rw[q] at e;cases e
 |some o=>
  rw[q] at e;cases o with
  |none=>simp at e
  |some j=>
   cases z:δ[j]? with
   |none=>rw[Option.map_some] at e;simp[z] at e
   |some d'=>
    simp[z] at e;subst e;obtain⟨v,f,c⟩:=h.2 j d z;exact⟨v,by simp[oE,zaZ,q,f],c⟩
theorem AW{caps:List (Option Nat)}{i:AI}{g:AG}{t:AT}{e:AE}:∀σ H Q,aY K (dD caps i g t e) σ H Q->Ah caps (ve K i) (sP K g) (jr K t) (aY K e) σ H Q:=by
 rintro σ H Q ⟨w,δ,S,Qa,ok,env,q,bk⟩;refine⟨w,δ,S,_,ok,env,q,λz P S1 J w1 H1 Y ok1 it q1=>?_⟩;refine⟨λi m xs τ H=>m=z.length - i/\i<=z.length/\∃E C s c,w1.le E/\Ok K E H s/\d7 K E C τ/\ak K E c xs/\ff P g t e (z.drop i) c C s (λO s=>Qa (.new (.lst O)) s),⟨z.length,by simp,zcI _,w1,nI caps δ,S1,[],.refl,ok1,Ct (env.le Y) caps,.nil,by simpa using q1⟩,?_⟩;rintro i m xs τ2 H2 ⟨rfl,hi,E,C,s,c,f,l,v,a,G⟩;by_cases L:i<z.length
 ·rw[zag L] at G;obtain⟨hP,G⟩:=G;have hd:z[i]? =some z[i]:=zak L;refine .inr ⟨it.go i H2 s E _ f l hP hd,λys τ' H'=>∃U j Z c,w1.le U/\Ok K U H' Z/\d7 K U j τ'/\ak K U c ys/\ff P g t e (z.drop (i+1)) c j Z (λO s=>Qa (.new (.lst O)) s),λys σ' H' h=>⟨_,by lia,rfl,L,h⟩,λx H' y=>?_⟩;obtain⟨w2',u,l,rx⟩:=it.zQ i H2 s E _ x H' f l hP hd y
  replace v:=v.le u
  replace f:=f.trans u
  replace a:=a.le u
  refine⟨w2',z[i],C,s,_,l,v,rx,G,λj Z σ3 U H3 F dR o q3=>?_⟩;refine⟨U,j,Z,_,dR,o,q3,λk S4 w4 H4 n X q4=>?_⟩;cases k with
  |false=>
   exact yZ ⟨w4,j,S4,c,f.trans (F.trans n),X,o.le n,a.le (F.trans n),by simpa using q4⟩
  |true=>
   rw[yIp rfl] at q4;refine yY ⟨w4,j,S4,_,X,o.le n,q4,.go λr5 S5 v5 w5 H5 I ok5 W ⟨hz,q5⟩=>?_⟩;exact⟨by rw[a.length];exact hz,w5,j,S5,c++[r5.d],f.trans (F.trans (n.trans I)),ok5,o.le (n.trans I),(a.le (F.trans (n.trans I))).snoc W,q5⟩
 ·have e:i=z.length:=by lia
  subst e;rw[List.drop_length] at G;refine .inl ⟨it.stop _ H2 s E f l G.1 rfl,λp hp=>?_⟩;exact bk (.new (.lst c)) s _ E _ (Y.trans f) (l.alloc hp) (l.fresh hp ⟨xs,rfl,a⟩) G.2
theorem Fd{w:Wd}{p:Addr}{a:List V}{ds:List D}(h1:w.B p=some (.lst a))(h:ak K w ds a):ND K w (NC K p) ds (λ_=>True) where
 go:=λi H S c d le ok g e=>by
  obtain⟨v,f,_⟩:=h.get e;exact⟨a,v,cV.of ((le.b.trans ok.base) _ _ h1),f⟩
 zQ:=λi H S c d x n le ok g e y=>by
  obtain⟨v,f,m⟩:=h.get e;obtain⟨l,j⟩:=y;have:=j a (cV.of ((le.b.trans ok.base) _ _ h1));rw[f] at this;cases this;subst l;exact⟨c,.refl,ok,m.le le⟩
 stop:=λi H S c le ok g e=>⟨a,cV.of ((le.b.trans ok.base) _ _ h1),by rw[h.length];lia⟩
theorem Fe{w:Wd}{p:Addr}{n:Nat}{ds:List D}(j:w.r n=some p):ND K w (NC K p) ds (λS=>S[n]? =some (some (.lst ds))) where
 go:=λi H S h d le ok g e=>by
  obtain⟨b,u,k1,k2,f,a,rfl,c⟩:=ok.live n _ g;rw[le.r n p j] at k1;cases k1;obtain⟨v,l,_⟩:=c.get e;exact⟨a,v,cV.of f,l⟩
 zQ:=λi H S h d x s le ok g e y=>by
  obtain⟨b,u,k1,k2,f,a,rfl,c⟩:=ok.live n _ g;rw[le.r n p j] at k1;cases k1;obtain⟨v,l,q⟩:=c.get e;obtain⟨o,m⟩:=y;have:=m a (cV.of f);rw[l] at this;cases this;subst o;exact⟨h,.refl,ok,q⟩
 stop:=λi H S h le ok g e=>by
  obtain⟨b,u,k1,k2,f,a,rfl,c⟩:=ok.live n _ g;rw[le.r n p j] at k1;cases k1;exact⟨a,cV.of f,by rw[c.length];lia⟩
theorem Fb{w:Wd}{p:Addr}{a:List V}{ds:List D}(h1:ef K w.B p a)(f:ak K w ds a):ND K w (NZ K p) ds (λ_=>True) where
 go:=λi H S c d le ok h e=>by
  obtain⟨v,g,_⟩:=f.get e;exact⟨a,v,ef.same (le.b.trans ok.base) h1,g⟩
 zQ:=λi H S c d x n le ok h e y=>by
  obtain⟨v,g,m⟩:=f.get e;obtain⟨l,j⟩:=y;have:=j a (ef.same (le.b.trans ok.base) h1);rw[g] at this;cases this;subst l;exact⟨c,.refl,ok,m.le le⟩
 stop:=λi H S c le ok h e=>⟨a,ef.same (le.b.trans ok.base) h1,by rw[f.length];lia⟩
theorem Fc{w:Wd}{x:Str}:ND K w (Oa x) (signs x) (λ_=>True) where
 go:=λi H S f d le ok g e=>by
  have:i<(signs x).length:=by
   rcases zcz i (signs x).length with h|h
   ·exact h
   ·rw[zau h] at e;cases e
  show i<x.cps.size;simpa[signs] using this
 zQ:=λi H S f d y m le ok g e z=>by
  obtain⟨l,c,j,rfl⟩:=z;subst l;refine⟨f,.refl,ok,?_⟩;rw[signs,zaZ] at e;have a:x.cps.toList[i]? =some c:=by simpa using j
  rw[a] at e;have:D.str ⟨#[c]⟩=d:=by simpa using e
  subst this;exact .str
 stop:=λi H S f le ok g e=>by
  show _=_;rw[e];simp[signs]
def dU(c:aA)(Q:List D->(aA->Prop)->aA->Prop):D->Prop
 |.lst a=>Q a (λ_=>True) c
 |.tup a=>Q a (λ_=>True) c
 |.str x=>Q (signs x) (λ_=>True) c
 |.loc n=>∃a,c[n]? =some (some (.lst a))/\Q a (λS=>S[n]? =some (some (.lst a))) c
 |_=>False
def fM(t:AE):AI:=λa S Q=>t a S λr c=>dU c Q r.d
theorem Ip{t:AE}:∀v H R,ve K (fM t) v H R->(aY K t) v H λx g=>(∃a,x=.ref a/\(∃h,cV K g a h)/\R (NC K a) g)∨(∃a,x=.ref a/\(∃h,ef K g a h)/\R (NZ K a) g)∨∃y,x=.str y/\R (Oa y) g:=by
 rintro v H R ⟨w,F,S,Q,ok,env,q,bk⟩;refine⟨w,F,S,_,ok,env,q,.go λG s v1 o g i f c j=>?_⟩;generalize G.d=d at c j;cases d with
 |lst m=>
  simp only[Rep] at c;obtain⟨p,h,rfl,l,z⟩:=c;exact .inl ⟨p,rfl,⟨h,cV.of (f.base _ _ l)⟩,bk m _ s _ o g i f (Fd l z) j⟩
 |tup m=>
  simp only[Rep] at c;obtain⟨p,h,rfl,l,z⟩:=c;exact .inr (.inl ⟨p,rfl,⟨h,ef.same f.base l⟩,bk m _ s _ o g i f (Fb l z) j⟩)
 |str x=>exact .inr (.inr ⟨x,iW c rfl,bk _ _ s _ o g i f Fc j⟩)
 |loc n=>
  simp only[Rep] at c;obtain⟨p,C,rfl⟩:=c;obtain⟨m,e,j⟩:=j;obtain⟨L,u,E,P,I,h,rfl,O⟩:=f.live n _ e;rw[C] at E;cases E;exact .inl ⟨p,rfl,⟨h,cV.of I⟩,bk m _ s _ o g i f (Fe C) j⟩
 |_=>exact j.elim
theorem Bk{a:Int}{n i:Nat}{d:D}(e:(b9 a n)[i]? =some d):i<n/\d=.int (a+(i:Int)):=by
 unfold b9 at e;rw[zaZ] at e;by_cases h:i<n
 ·rw[List.getElem?_range h] at e;exact⟨h,by simpa using e.symm⟩
 ·rw[zau (by simpa using h)] at e;cases e
theorem Io{a:AA}:∀f H R,ve K (kO a) f H R->G6 (nB K a) f H R:=by
 rintro f H R ⟨w,n,S,L,ok,env,q,bk⟩;refine⟨w,n,S,_,ok,env,q,λI C F t E l h c ⟨j,hd,⟨z,v⟩,u⟩=>⟨j,?_,z,v,?_⟩⟩
 ·subst hd;simp only[ak,Rep] at c;obtain⟨x,r,rfl,rfl,rfl⟩:=c;rfl
 ·refine bk _ _ C _ t E l h ⟨λi H S g d le ok m e=>?_,λi H S g d x O le ok m e y=>?_,λi H S g le ok m e=>?_⟩ u
  ·exact(Bk e).1
  ·obtain⟨s,o⟩:=y;obtain⟨G,rfl⟩:=Bk e;subst o s;exact⟨g,.refl,ok,.int⟩
  ·show _<=_;rw[e];simp[b9]
end
end M
namespace M
open PySem PySem.Spec PyProof.Rows L2
section
variable {X:Cx}{pos:Pos}{e a b c:Expr}{es:List Expr}
theorem pv(i:Nat){x:Str}(h:X.N[i]? =some x:=by rfl)(g:Ph X.env.scope x:=by first|exact Or.inl rfl|exact Or.inr (Or.inl rfl)|exact Or.inr (Or.inr rfl))(hd:(x==("__debug__":Str))=false:=by decide)(f:(x==("__classdict__":Str))=false:=by decide):GE X (.Name x pos) (fN i):=⟨mE (L2.Jf h g hd f) LD⟩
theorem aa{i j}:GE X (.Constant (.int i) j pos) (aC (.int i)):=⟨mE L2.aa (K4 λ_=>.int)⟩
theorem c9{i j}:GE X (.Constant (.bool i) j pos) (aC (.bl i)):=⟨mE L2.c9 (K4 λ_=>.bl)⟩
theorem aW{i j}:GE X (.Constant (.str i) j pos) (aC (.str i)):=⟨mE L2.aW (K4 λ_=>.str)⟩
theorem uK{j}:GE X (.Constant .none j pos) (aC .bq):=⟨mE L2.uK (K4 λ_=>.bq)⟩
theorem BI(T:String){x:Str}(i:Gl X x)(h:X.mg x=none)(f:bootBuiltins x=some (.type T))(g:x≠"__name__":=by decide+kernel)(hd:(x==("__debug__":Str))=false:=by decide+kernel):GE X (.Name x pos) (aC (.ty T)):=
 ⟨mE (L2.BI T i h f g hd) (K4 λ_=>.ty)⟩
theorem k9{x:Str}{d:D}{v:V}{u:yai}(g:Gl X x)(f:X.mg x=some u)(r:RelV v u)(h:∀w,Rep X.K w d v)(hd:(x==("__debug__":Str))=false:=by decide):GE X (.Name x pos) (aC d):=
 ⟨mE (L2.k9 g f r hd) (K4 h)⟩
theorem av{g:Operator}{r:A2}{f tb:AE}(h:kX X (binaryOp g) r)(j:GE X a f)(i:GE X b tb):GE X (.BinOp a g b pos) (Ht r f tb):=⟨mE (L2.av h.p j.p i.p) Ek⟩
theorem BH{g:UnaryOp}{r:A1}{f:AE}(h:PY X (unaryOp g) r)(i:GE X a f):GE X (.UnaryOp g a pos) (Pb r f):=⟨mE (L2.BH h.p i.p) Oh⟩
theorem cZ{f:CmpOp}{r:A2}{g tb:AE}(h:kX X (yan f) r)(l:GE X a g)(j:GE X b tb)(i:behindInMarks f b=false):GE X (.Compare a [f] [b] pos) (Ht r g tb):=⟨mE (L2.cZ h.p l.p j.p i) Ek⟩
theorem ao{r:A2}{f tb:AE}(h:PX X r)(j:GE X a f)(i:GE X b tb)(g:xY b):GE X (.Subscript a b pos) (Ht r f tb):=⟨mE (L2.ao h.p j.p i.p g) Ek⟩
theorem af:GA X [] gy:=⟨mA L2.af LK⟩
theorem au{f:AE}{t:AA}(i:GE X e f)(h:GA X es t)(g:notStar e=true:=by rfl):GA X (e::es) (ju f t):=⟨mA (L2.au i.p h.p g) IA⟩
theorem aP{k:Nat}{t:AA}(h:GA X es t):GE X (.Tuple es k pos) (zv t):=⟨mE (L2.aP h.p) LF⟩
theorem aZ{t:AA}(h:GA X es t):GE X (.List es pos) (nQ t):=⟨mE (L2.aZ h.p) LL⟩
theorem nK{t:AE}(h:GE X e t):GE X e (cF t):=⟨mE h.p s_alloc⟩
theorem uJ{op}{t:AE}(h:GE X a t):GE X (.BoolOp op [a] pos) t:=⟨L2.uJ h.p⟩
theorem uL{rest:List Expr}{f tb:AE}(h:GE X a f)(g:GE X (.BoolOp .And (b::rest) pos) tb):GE X (.BoolOp .And (a::b::rest) pos) (C7 f tb):=⟨mE (L2.uL h.p g.p) IB⟩
theorem dZ:GO X none qL:=⟨mO L2.dZ AV⟩
theorem cK{t:AE}(h:GE X e t):GO X (some e) (CZ t):=⟨mO (L2.cK h.p) Ij⟩
structure PV(X:Cx)(r:D->Option Int->Option Int->aA->AK->Prop):Prop where
 p:DO X (Hj X.K r)
theorem cB{g h:Option Expr}{i:Pos}{r:D->Option Int->Option Int->aA->AK->Prop}{te:AE}{tl f:AO}(l:PV X r)(n:GE X e te)(m:GO X g tl)(j:GO X h f):GE X (.Subscript e (.Slice g h none i) pos) (Pc r te tl f):=
 ⟨mE (L2.cB l.p n.p m.p j.p) Oi⟩
theorem mL{id:String}{r:AN}{t:AA}{x:Str}{p:Pos}(m:ua X (.builtin id) r)(l:Gl X x)(j:X.mg x=none)(g:bootBuiltins x=some (.builtin id))(n:GA X (e::es) t)(i:x≠"__name__":=by decide+kernel)(f:(x==("__debug__":Str))=false:=by decide+kernel)(h:(e::es).all notStar=true:=by rfl):GE X (.Call (.Name x p) (e::es) [] pos) (aCall r t):=⟨mE (L2.mL m.p l j g n.p i f h) LP⟩
theorem uM{T:String}{r:AN}{t:AA}{x:Str}{p:Pos}(m:ua X (.type T) r)(l:Gl X x)(j:X.mg x=none)(g:bootBuiltins x=some (.type T))(n:GA X (e::es) t)(i:x≠"__name__":=by decide+kernel)(f:(x==("__debug__":Str))=false:=by decide+kernel)(h:(e::es).all notStar=true:=by rfl):GE X (.Call (.Name x p) (e::es) [] pos) (aCall r t):=⟨mE (L2.uM m.p l j g n.p i f h) LP⟩
theorem uI{k:Nat}{ps:List Str}{sp:AN}{t:AA}{x:Str}{p:Pos}(D:Def X.prog X.w X.K X.mg X.base k x ps (aM X.K sp))(h:aQ k X.A)(i:Gl X x)(j:GA X (e::es) t)(f:(x==("__debug__":Str))=false:=by decide+kernel)(g:(e::es).all notStar=true:=by rfl):
  GE X (.Call (.Name x p) (e::es) [] pos) (aCall sp t):=⟨mE (L2.uI D h i pq j.p f g) s_call⟩
theorem l9{t:AE}(h:GE X e t)(g:∀f,isTrue e X.env f=(do let v <-f;standAt e.pos;holding [v] (truthy v)):=by intro _;rfl):GT X e (CY t):=⟨mT (L2.BD h.p g) LG⟩
theorem aH{f:CmpOp}{r:A2}{i tb:AE}(l:kX X (yan f) r)(o:GE X a i)(n:GE X b tb)(m:behindInMarks f b=false):GT X (.Compare a [f] [b] pos) (aB (Ht r i tb)):=
 ⟨mT (L2.aH l.p o.p n.p m) λg H Q h=>by
  obtain⟨w,j,S,s,ok,env,q,bk⟩:=Pz g H Q h;exact Ek g H _ ⟨w,j,S,s,ok,env,q,bk⟩⟩
theorem mh{g f:CmpOp}{r m:A2}{l tb tc:AE}(o:kX X (yan g) r)(i:kX X (yan f) m)(v:GE X a l)(u:GE X b tb)(t:GE X c tc)(s:lastMarks [g,f] [b,c]=false:=by with_unfolding_all rfl):
  GT X (.Compare a [g,f] [b,c] pos) (aB (vN r m l tb tc)):=⟨mT (L2.mh o.p i.p v.p u.p t.p s) λj H Q h=>by
  obtain⟨w,n,S,x,ok,env,q,bk⟩:=Pz j H Q h;exact Eu j H _ ⟨w,n,S,x,ok,env,q,bk⟩⟩
theorem pw_pt{t:AT}(h:GW X e t):GT X e t:=⟨h.p.pt⟩
theorem pw_or1{t:AT}(h:GT X a t):GW X (.BoolOp .Or [a] pos) t:=⟨L2.pw_or1 h.p⟩
theorem pw_or{rest:List Expr}{t u:AT}(g:GT X a t)(f:GW X (.BoolOp .Or (b::rest) pos) u):GW X (.BoolOp .Or (a::b::rest) pos) (Hs t u):=⟨mW (L2.pw_or g.p f.p) Oj⟩
theorem jS{t:AT}(h:GT X a t):GT X (.UnaryOp .Not a pos) (C0 t):=⟨mT (L2.jS h.p) LJ⟩
theorem cJ:Ob X [] oH:=⟨mTs L2.cJ LC⟩
theorem cY{t:AT}(h:GT X c t):Ob X [c] t:=⟨L2.cY h.p⟩
theorem bN{f:Expr}{t:AA}{p:Pos}(i:Gl X "range")(h:X.mg "range"=none)(j:GA X [a] t)(g:yao [a] X.env=[(false,eval a X.env)]:=by rfl):GI X f (.Call (.Name "range" p) [a] [] pos) (kO t):=⟨mI (L2.bN i h j.p g) Io⟩
theorem EE{F l:Expr}{tl:TE}(P:PE X l tl):PI X F l (λz H R=>tl z H λx i=>(∃a,x=.ref a/\(∃j,cV X.K i a j)/\R (NC X.K a) i)∨(∃a,x=.ref a/\(∃j,ef X.K i a j)/\R (NZ X.K a) i)∨∃y,x=.str y/\R (Oa y) i):=by
 intro m s z H R I h;refine b6 (P m s z H _ I h) λv f ⟨x,i,g,C,L⟩=>?_;rcases L with⟨a,rfl,⟨j,E⟩,q⟩|⟨a,rfl,⟨j,E⟩,q⟩|⟨y,rfl,q⟩
 ·cases C;obtain⟨n,G,p,O⟩:=g.list E;refine wpAny_pyIter_list p.isList ?_;refine⟨f.heap.objs.size,[f.heap.objs.size],_,_,i,rfl,g.kept (t':=f.toks) λb o e=>zaq _ e,yr a _,⟨_,zaJ _ rfl,rfl,rfl⟩,λb u=>?_,q⟩;have e:b=f.heap.objs.size:=by simpa using u
  subst e;exact g.sD (zcH _) (g.hok.fresh (zcH _))
 ·cases C;obtain⟨n,G,p,O⟩:=g.tuple E;refine wpAny_pyIter_tuple (show f.heap.IsTuple a n.toArray from p) ?_;refine⟨f.heap.objs.size,[f.heap.objs.size],_,_,i,rfl,g.kept (t':=f.toks) λb o e=>zaq _ e,uf a _,⟨_,zaJ _ rfl,rfl,rfl⟩,λb u=>?_,q⟩;have e:b=f.heap.objs.size:=by simpa using u
  subst e;exact g.sD (zcH _) (g.hok.fresh (zcH _))
 ·obtain⟨t,rfl⟩:=C;refine wpAny_pyIter_strU ?_;refine⟨f.heap.objs.size,[f.heap.objs.size],_,_,i,rfl,g.kept (t':=f.toks) λb o e=>zaq _ e,zZ _ y t,⟨_,zaJ _ rfl,rfl,rfl⟩,λb u=>?_,q⟩;have e:b=f.heap.objs.size:=by simpa using u
  subst e;exact g.sD (zcH _) (g.hok.fresh (zcH _))
theorem bK{f l:Expr}{tl:AE}(g:GE X l tl):GI X f l (fM tl):=⟨mI (EE g.p) Ip⟩
theorem bH{j l f:Expr}{h:List Expr}{scope:Scope}{N:List Str}{caps:List (Option Nat)}{n:AI}{g:AG}{o:AT}{te:AE}(S:eX scope N)(i:kI X.N X.env scope N caps=true)(m:L2.freeOk X.env scope=true)(y:X.calm=true)(t:GI X l f n)(u:∀s₀ H₀ C fp,GG (kU X scope N s₀ H₀ C fp) l g)(q:∀s₀ H₀ C fp,Ob (kU X scope N s₀ H₀ C fp) h o)(v:∀s₀ H₀ C fp,GE (kU X scope N s₀ H₀ C fp) j te)(s:∀x,foldedSetIterable f X.env x=pure x:=by intro _;rfl):GE X (.ListComp j [⟨l,f,h,0⟩] scope pos) (dD caps n g o te):=
 ⟨mE (L2.bH S i m y t.p (λs₀ H₀ C fp=>(u s₀ H₀ C fp).p) (λs₀ H₀ C fp=>(q s₀ H₀ C fp).p) (λs₀ H₀ C fp=>(v s₀ H₀ C fp).p) s) AW⟩
theorem aV:ym X [] C1:=⟨PJ L2.aV Il⟩
theorem aj{st:Stmt}{t:AS}(h:GS X st t):ym X [st] t:=⟨L2.aj h.p⟩
theorem ah{st:Stmt}{rest:List Stmt}{t u:AS}(h:GS X st t)(g:ym X rest u):ym X (st::rest) (tG t u):=⟨PJ (L2.ah h.p g.p) LH⟩
theorem bL{t:AE}(h:GE X e t)(f:yat e none pos.line X.env=pure false:=by rfl):GS X (.Expr e pos) (C5 t):=⟨mS (L2.bL h.p f) Iz⟩
theorem aK{t:AE}(h:GE X e t):GS X (.Return (some e) pos) (KG t):=⟨mS (L2.aK h.p) LI⟩
theorem bR{p q:List Stmt}{tc:AT}{t u:AS}(f:GT X c tc)(h:ym X p t)(g:ym X q u):GS X (.If c p q pos) (kW tc t u):=⟨mS (L2.bR f.p h.p g.p) LM⟩
theorem aq{i:Nat}{x:Str}(j:X.N.Nodup)(g:X.N[i]? =some x)(f:Loc X.env.scope x)(h:X.fn x=true∨X.env.scope.names.lookup x=some .local:=by first|exact .inl rfl|exact .inr rfl|assumption):GG X (.Name x pos) (bZ i):=⟨mG (L2.aq j g f h) qd⟩
theorem cR:NF X [] CQ:=⟨PK L2.cR Ir⟩
theorem aL{t:AG}{u:zK}(h1:GG X e t)(g:NF X es u)(f:(assignEach (e::es) X.env).map (·.2)=assign e X.env::(assignEach es X.env).map (·.2):=by rfl):NF X (e::es) (nN t u):=⟨PK (L2.aL h1.p g.p f) Eo⟩
theorem eN{k:Nat}{t:zK}{n:Nat}(i:X.calm=true)(h:NF X es t)(g:(assignEach es X.env).length=n:=by rfl)(f:(assignEach es X.env).findIdx? (·.1)=none:=by rfl):GG X (.Tuple es k pos) (CP n t):=⟨mG (L2.eN i h.p g f) Iq⟩
theorem uG{f:Expr}{t:AE}{g:AG}(j:GE X e t)(i:GG X f g)(h:swapsWithSole [f] e pos.line X.env=pure false:=by rfl)(hw:swappedStores [f] e X.env=pure none:=by rfl)(h1:(assignEach [f] X.env).map (·.2)=[assign f X.env]:=by rfl):GS X (.Assign [f] e pos) (C6 t g):=⟨mS (L2.uG j.p i.p h hw h1) AX⟩
theorem aO{i:Nat}{x:Str}{t:AE}{f:Pos}(C:X.N.Nodup)(u:X.N[i]? =some x)(o:Loc X.env.scope x)(z:GE X e t)(s:yat e (some (.Name x f)) pos.line X.env=pure false:=by rfl)(y:X.fn x=true∨X.env.scope.names.lookup x=some .local:=by first|exact .inl rfl|exact .inr rfl|assumption):
  GS X (.Assign [.Name x f] e pos) (C6 t (bZ i)):=⟨mS (L2.aO C u o z.p s y) λD j H h=>by
  obtain⟨w,l,S,F,ok,env,q,bk⟩:=AX D j H h;exact⟨w,l,S,F,ok,env,q,λr E v m G le g rep n=>qd _ _ _ _ (bk r E v m G le g rep n)⟩⟩
theorem eG{n s f:Expr}{m:List Expr}{scope:Scope}{N:List Str}{caps:List (Option Nat)}{l j:Pos}{E:AI}{g:AG}{F:AT}{te:AE}{i:Nat}{x:Str}(hN:X.N.Nodup)(y:X.N[i]? =some x)(P:X.env.scope.names.lookup x=some .local)(S:eX scope N)(o:kI X.N X.env scope N caps=true)(z:L2.freeOk X.env scope=true)(hc:X.calm=true)(W:GI X s f E)(Y:∀s₀ H₀ C fp,GG (kU X scope N s₀ H₀ C fp) s g)(Q:∀s₀ H₀ C fp,Ob (kU X scope N s₀ H₀ C fp) m F)(Z:∀s₀ H₀ C fp,GE (kU X scope N s₀ H₀ C fp) n te)(u:yat (.ListComp n [⟨s,f,m,0⟩] scope pos) (some (.Name x l)) j.line X.env=pure true:=by rfl)(U:∀x,foldedSetIterable f X.env x=pure x:=by intro _;rfl):GS X (.Assign [.Name x l] (.ListComp n [⟨s,f,m,0⟩] scope pos) j) (C6 (dD caps E g F te) (bZ i)):=
 ⟨mS (L2.eG hN y P S o z hc W.p (λs₀ H₀ C fp=>(Y s₀ H₀ C fp).p) (λs₀ H₀ C fp=>(Q s₀ H₀ C fp).p) (λs₀ H₀ C fp=>(Z s₀ H₀ C fp).p) u U) λD G H h=>by
  obtain⟨w,I,S,Qa,ok,env,q,bk⟩:=AX D G H h;exact AW _ _ _ ⟨w,I,S,Qa,ok,env,q,λr S' v L H' le t rep O=>qd _ _ _ _ (bk r S' v L H' le t rep O)⟩⟩
theorem cA{i f:Expr}{h:List Stmt}{j:AI}{g:AG}{tb:AS}(m:PassesOwn (model X.prog X.w) X.A X.env X.xe)(q:X.calm=true)(n:GI X i f j)(o:GG X i g)(s:ym X h tb)(l:∀x,foldedSetIterable f X.env x=pure x:=by intro _;rfl):GS X (.For i f h [] pos) (iy j g tb):=⟨mS (L2.cA m q n.p o.p s.p l) LO⟩
theorem mj{f:List Stmt}{tc:AT}{tb:AS}(g:PassesOwn (model X.prog X.w) X.A X.env X.xe)(h:GT X c tc)(i:ym X f tb):GS X (.While c f [] pos) (CV tc tb):=⟨mS (L2.mj g h.p i.p) Eh⟩
end
section
variable {X:Cx}
theorem EK{f:yai->yai->Sem yai}{r i:R2}(h:fG X f r)(h':fG X f i):fG X f (λx y H Q=>r x y H Q∨i x y H Q):=by
 intro a s c H x y v u Q I g e q;rcases q with q|q
 ·exact h a s c H x y v u Q I g e q
 ·exact h' a s c H x y v u Q I g e q
theorem PC{f:yai}{r g:List V->Hp->VK->Prop}(h:bW X f r)(h':bW X f g):bW X f (λx H Q=>r x H Q∨g x H Q):=by
 intro a s c H x v Q I e q;rcases q with q|q
 ·exact h a s c H x v Q I e q
 ·exact h' a s c H x v Q I e q
variable {K:yaI}{w:Wd}{H:Hp}{S:aA}{v u:V}{d e:D}
theorem cH{i:Int}(h:Rep K w d v)(z:bz S d=.int i):v=.int i:=by
 cases d<;>simp only[bz] at z
 case loc n=>split at z<;>first|(rename_i o _;cases o<;>simp[MO.d] at z)|cases z
 all_goals first|cases z|skip
 simpa[Rep] using h
theorem bO{i:Str}(h:Rep K w d v)(z:bz S d=.str i):v=.str i:=by
 cases d<;>simp only[bz] at z
 case loc n=>split at z<;>first|(rename_i o _;cases o<;>simp[MO.d] at z)|cases z
 all_goals first|cases z|skip
 simpa[Rep] using h
theorem fU{i:Bool}(h:Rep K w d v)(z:bz S d=.bl i):v=.bl i:=by
 cases d<;>simp only[bz] at z
 case loc n=>split at z<;>first|(rename_i o _;cases o<;>simp[MO.d] at z)|cases z
 all_goals first|cases z|skip
 simpa[Rep] using h
theorem D8(h:Rep K w d v)(z:bz S d=.bq):v=.bq:=by
 cases d<;>simp only[bz] at z
 case loc n=>split at z<;>first|(rename_i o _;cases o<;>simp[MO.d] at z)|cases z
 all_goals first|cases z|skip
 simpa[Rep] using h
theorem iS{ns:List Int}(k:Ok K w H S)(h:Rep K w d v)(z:bz S d=.k8 ns):∃a,v=.ref a/\cV K H a (ns.map V.int):=by
 cases d<;>simp only[bz] at z
 case loc n=>split at z<;>first|(rename_i o _;cases o<;>simp[MO.d] at z)|cases z
 all_goals first|cases z|skip
 simp only[Rep] at h;obtain⟨a,f,c⟩:=h;exact⟨a,f,k.base.seq c⟩
def aI(C:Int->Int->Prop)(g:Int->Int->D):A2:=λx y S Q=>∃i j,x=.int i/\y=.int j/\C i j/\Q (.dat (g i j)) S
theorem Np{C:Int->Int->Prop}{g:Int->Int->D}{g':Int->Int->V}(h:∀w i j,Rep K w (g i j) (g' i j)):∀x y H Q,sQ K (aI C g) x y H Q->rI C g' x y H Q:=by
 rintro x y H Q ⟨w,d,e,S,n,ok,c,a,⟨i,j,m,l,f,q⟩,bk⟩;exact⟨i,j,bX c m,bX a l,f,bk.dat .refl ok (h w i j) q⟩
theorem Bv{g:Int->Int->V}:∀x y H Q,rI (λ_ _=>True) g x y H Q->GP g x y H Q:=by
 rintro x y H Q ⟨i,j,c,a,_,q⟩;exact⟨i,j,c,a,q⟩
theorem GU:kX X (binaryOp .Sub) (aI (λ_ _=>True) λi j=>.int (i - j)):=⟨m2 L2.Ji λx y H Q h=>Bv x y H Q (Np (g':=λi j=>.int (i - j)) (λ_ _ _=>.int) x y H Q h)⟩
theorem qt:kX X (binaryOp .FloorDiv) (aI K0 λi j=>.int (i / j)):=⟨m2 L2.EM (Np λ_ _ _=>.int)⟩
theorem b7:kX X (binaryOp .Mod) (aI (λ_ j=>0<j) λi j=>.int (i % j)):=⟨m2 L2.Jo (Np λ_ _ _=>.int)⟩
theorem BO:kX X (binaryOp .Pow) (aI NI λi j=>.int (i ^ j.toNat)):=⟨m2 L2.Jk (Np λ_ _ _=>.int)⟩
theorem JB:kX X (yan .GtE) (aI (λ_ _=>True) λi j=>.bl (decide (j<=i))):=⟨m2 L2.L7 λx y H Q h=>Bv x y H Q (Np (g':=λi j=>.bl (decide (j<=i))) (λ_ _ _=>.bl) x y H Q h)⟩
def PU:A2:=λx y S Q=>match x,y with
 |.int i,.int j=>Q (.dat (.bl (decide (i<j)))) S
 |.str i,.str j=>Q (.dat (.bl (decide (i.cps.toList<j.cps.toList)))) S
 |_,_=>False
def Pe:A2:=λx y S Q=>match x,y with
 |.int i,.int j=>Q (.dat (.bl (decide (i<=j)))) S
 |.str i,.str j=>Q (.dat (.bl (!decide (j.cps.toList<i.cps.toList)))) S
 |_,_=>False
theorem EX:kX X (yan .Lt) PU:=⟨m2 (EK L2.L5 L2.yI) λx y H Q h=>by
 obtain⟨w,d,e,S,f,ok,c,a,q,bk⟩:=h;cases d<;>cases e<;>first|exact q.elim|skip
 ·exact .inl ⟨_,_,bX c rfl,bX a rfl,bk.dat .refl ok .bl q⟩
 ·exact .inr ⟨_,_,iW c rfl,iW a rfl,bk.dat .refl ok .bl q⟩⟩
theorem OI:kX X (yan .LtE) Pe:=⟨m2 (EK L2.L6 L2.yJ) λx y H Q h=>by
 obtain⟨w,d,e,S,f,ok,c,a,q,bk⟩:=h;cases d<;>cases e<;>first|exact q.elim|skip
 ·exact .inl ⟨_,_,bX c rfl,bX a rfl,bk.dat .refl ok .bl q⟩
 ·exact .inr ⟨_,_,iW c rfl,iW a rfl,bk.dat .refl ok .bl q⟩⟩
def tN:A2:=λx y S Q=>match bz S x,bz S y with
 |.int i,.int j=>Q (.dat (.int (i+j))) S
 |.str i,.str j=>i.length+j.length<=yag/\Q (.dat (.str (i++j))) S
 |.lst xs,.lst ys=>xs.length+ys.length<=yag/\Q (.new (.lst (xs++ys))) S
 |.tup xs,.tup ys=>xs≠[]/\xs.length+ys.length<=yag/\Q (.dat (.tup (xs++ys))) S
 |_,_=>False
theorem bB:kX X (binaryOp .Add) tN:=⟨m2 (EK L2.Jv (EK L2.uO (EK L2.Ju L2.EN))) λx y H Q h=>by
 obtain⟨w,d,e,S,W,ok,l,m,q,bk⟩:=h;unfold tN at q;cases c:bz S d<;>cases i:bz S e<;>rw[c,i] at q<;>first|exact q.elim|skip
 ·exact .inl ⟨_,_,cH l c,cH m i,bk.dat .refl ok .int q⟩
 ·exact .inr (.inl ⟨_,_,bO l c,bO m i,q.1,bk.dat .refl ok .str q.2⟩)
 ·obtain⟨a,C,rfl,L,g⟩:=dJ ok l c;obtain⟨b,t,rfl,I,f⟩:=dJ ok m i;obtain⟨G,P,q⟩:=q;refine .inr (.inr (.inr ⟨a,b,C,t,rfl,rfl,L,I,?_,by rw[g.length,f.length];exact P,λO=>?_,λO p s=>?_⟩))
  ·intro z;subst z;have:=g.length;simp at this;exact G (zaa this.symm)
  ·subst O;have:_=[]:=zaa f.length.symm;rw[this,zbL] at q;cases d<;>simp only[bz] at c
   case tup=>cases c;exact bk.dat .refl ok l q
   case loc n=>split at c<;>first|(rename_i o _;cases o<;>simp[MO.d] at c)|cases c
   all_goals cases c
  ·obtain⟨U,F,E,j⟩:=ok.qw s (g.append f);exact bk.dat F E j q
 ·obtain⟨a,C,rfl,L,g⟩:=bG ok l c;obtain⟨b,t,rfl,I,f⟩:=bG ok m i;refine .inr (.inr (.inl ⟨a,b,C,t,rfl,rfl,L,I,by rw[g.length,f.length];exact q.1,λp s=>?_⟩));exact bk (.new (.lst _)) S _ w _ .refl (ok.alloc s) (ok.fresh s ⟨_,rfl,g.append f⟩) q.2⟩
end
end M
namespace M
open PySem PySem.Spec PyProof.Rows PySem.SeqAt L2
mutual
noncomputable def dz:D->Bool
 |.bq|.bl _|.int _|.str _=>true
 |.tup ds|.lst ds=>ck ds
 |_=>false
noncomputable def ck:List D->Bool
 |[]=>true
 |d::ds=>dz d&&ck ds
end
mutual
noncomputable def py:D->yam
 |.bq=>.none
 |.bl b=>.bool b
 |.int i=>.int i
 |.str x=>.str x
 |.tup ds=>.tuple (gp ds)
 |.lst ds=>.list (gp ds)
 |_=>.none
noncomputable def gp:List D->List yam
 |[]=>[]
 |d::ds=>py d::gp ds
end
section
variable {K:yaI}{w:Wd}{H:Hp}{S:aA}
mutual
theorem Cw(e:gz w.B H):∀(d:D)(v:V),dz d=true->Rep K w d v->cu K H (py d) v
 |.bq,v,_,h=>by simpa[Rep,py,cu] using h
 |.bl _,v,_,h=>by simpa[Rep,py,cu] using h
 |.int _,v,_,h=>by simpa[Rep,py,cu] using h
 |.str _,v,_,h=>by simpa[Rep,py,cu] using h
 |.tup ds,v,hp,h=>by
  simp only[Rep,py,cu] at h⊢;obtain⟨a,c,i,g,f⟩:=h;exact⟨a,c,i,ef.same e g,lC e ds c (by simpa[dz] using hp) f⟩
 |.lst ds,v,hp,h=>by
  simp only[Rep,py,cu] at h⊢;obtain⟨a,c,i,g,f⟩:=h;exact⟨a,c,i,cV.of (e _ _ g),lC e ds c (by simpa[dz] using hp) f⟩
 |.dct _ _,_,hp,_=>by simp[dz] at hp
 |.loc _,_,hp,_=>by simp[dz] at hp
 |.ty _,_,hp,_=>by simp[dz] at hp
 |.k8 _,_,hp,_=>by simp[dz] at hp
 |.fd,_,hp,_=>by simp[dz] at hp
 |.fn _,_,hp,_=>by simp[dz] at hp
theorem lC(e:gz w.B H):∀(ds:List D)(vs:List V),ck ds=true->ak K w ds vs->jK K H (gp ds) vs
 |[],vs,_,h=>by simpa[ak,gp,jK] using h
 |d::ds,vs,hp,h=>by
  simp only[ck,zbG] at hp;simp only[ak,gp,jK] at h⊢;obtain⟨x,r,f,c,a⟩:=h;exact⟨x,r,f,Cw e d x hp.1 c,lC e ds r hp.2 a⟩
end
theorem wD(k:Ok K w H S){d:D}{v:V}(h:Rep K w d v)(c:dz (bz S d)=true):cu K H (py (bz S d)) v:=by
 cases d with
 |loc n=>
  cases z:bz S (.loc n) with
  |lst ds=>
   rw[z] at c;obtain⟨a,e,rfl,g,f⟩:=bG k h z;simp only[py,cu];exact⟨a,e,rfl,cV.of g,lC k.base ds e (by simpa[dz] using c) f⟩
  |_=>
   rw[z] at c;simp only[bz] at z;split at z<;>first|(rename_i o _;cases o<;>simp[MO.d] at z)|(cases z;simp[dz] at c)|cases z
   all_goals simp[dz] at c
 |_=>exact Cw k.base _ v (by simpa[bz] using c) h
end
noncomputable def fit(d:D):Bool:=dz d&&shaped (py d)
def Ny:A2:=λx y S Q=>match bz S x,bz S y with
 |.str a,.str b=>Q (.dat (.bl (decide (a=b)))) S
 |.int a,.int b=>Q (.dat (.bl (decide (a=b)))) S
 |.bl a,.bl b=>Q (.dat (.bl (decide (a=b)))) S
 |x',y'=>fit x'=true/\fit y'=true/\Q (.dat (.bl (PyData.eqv (py x') (py y')))) S
def KI:A2:=λx y S Q=>match bz S x,bz S y with
 |.str a,.str b=>Q (.dat (.bl (!decide (a=b)))) S
 |.int a,.int b=>Q (.dat (.bl (!decide (a=b)))) S
 |.bl a,.bl b=>Q (.dat (.bl (!decide (a=b)))) S
 |x',y'=>fit x'=true/\fit y'=true/\Q (.dat (.bl (!PyData.eqv (py x') (py y')))) S
section
variable {X:Cx}
def OD(K:yaI):R2:=λx y H Q=>∃a b,cu K H a x/\cu K H b y/\shaped a=true/\shaped b=true/\Q (.bl (PyData.eqv a b)) H
def OA(K:yaI):R2:=λx y H Q=>∃a b,cu K H a x/\cu K H b y/\shaped a=true/\shaped b=true/\Q (.bl (!PyData.eqv a b)) H
theorem Jt{k:Nat}(j:aQ k X.A):fG X (yan .Eq) (OD X.K):=by
 intro c s t H x y v u Q I f e h;obtain⟨a,b,o,n,m,l,q⟩:=h;obtain⟨as,i⟩:=I.reads a x v o f;obtain⟨bs,g⟩:=I.reads b y u n e;exact eq_dataH i g m l j.units ⟨.bl _,H,I,rfl,q⟩
theorem Jl{k:Nat}(j:aQ k X.A):fG X (yan .NotEq) (OA X.K):=by
 intro c s t H x y v u Q I f e h;obtain⟨a,b,o,n,m,l,q⟩:=h;obtain⟨as,i⟩:=I.reads a x v o f;obtain⟨bs,g⟩:=I.reads b y u n e;exact ne_dataH i g m l j.units ⟨.bl _,H,I,rfl,q⟩
theorem e8{K:yaI}{w:Wd}{H:Hp}{S:aA}{d:D}{v:V}(k:Ok K w H S)(h:Rep K w d v)(a:fit (bz S d)=true):cu K H (py (bz S d)) v/\shaped (py (bz S d))=true:=by
 unfold fit at a;rw[zbG] at a;exact⟨wD k h a.1,a.2⟩
theorem fB{k:Nat}(j:aQ k X.A):kX X (yan .Eq) Ny:=⟨m2 (EK L2.L8 (Jt j)) λx y H Q h=>by
 obtain⟨w,d,e,S,s,ok,f,c,q,bk⟩:=h;unfold Ny at q;split at q
 next a b z1 z2=>
  refine .inl ⟨by rw[bO f z1,bO c z2];rfl,?_⟩;rw[bO f z1,bO c z2];exact bk.dat .refl ok (by rw[show decide (V.str a=V.str b)=decide (a=b) by simp];exact .bl) q
 next a b z1 z2=>
  refine .inl ⟨by rw[cH f z1,cH c z2];rfl,?_⟩;rw[cH f z1,cH c z2];exact bk.dat .refl ok (by rw[show decide (V.int a=V.int b)=decide (a=b) by simp];exact .bl) q
 next a b z1 z2=>
  refine .inl ⟨by rw[fU f z1,fU c z2];rfl,?_⟩;rw[fU f z1,fU c z2];exact bk.dat .refl ok (by rw[show decide (V.bl a=V.bl b)=decide (a=b) by simp];exact .bl) q
 next=>
  obtain⟨o,n,q⟩:=q;obtain⟨m,i⟩:=e8 ok f o;obtain⟨l,g⟩:=e8 ok c n;exact .inr ⟨_,_,m,l,i,g,bk.dat .refl ok .bl q⟩⟩
theorem Jy{k:Nat}(j:aQ k X.A):kX X (yan .NotEq) KI:=⟨m2 (EK L2.L4 (Jl j)) λx y H Q h=>by
 obtain⟨w,d,e,S,s,ok,f,c,q,bk⟩:=h;unfold KI at q;split at q
 next a b z1 z2=>
  refine .inl ⟨by rw[bO f z1,bO c z2];rfl,?_⟩;rw[bO f z1,bO c z2];exact bk.dat .refl ok (by rw[show decide (V.str a=V.str b)=decide (a=b) by simp];exact .bl) q
 next a b z1 z2=>
  refine .inl ⟨by rw[cH f z1,cH c z2];rfl,?_⟩;rw[cH f z1,cH c z2];exact bk.dat .refl ok (by rw[show decide (V.int a=V.int b)=decide (a=b) by simp];exact .bl) q
 next a b z1 z2=>
  refine .inl ⟨by rw[fU f z1,fU c z2];rfl,?_⟩;rw[fU f z1,fU c z2];exact bk.dat .refl ok (by rw[show decide (V.bl a=V.bl b)=decide (a=b) by simp];exact .bl) q
 next=>
  obtain⟨o,n,q⟩:=q;obtain⟨m,i⟩:=e8 ok f o;obtain⟨l,g⟩:=e8 ok c n;exact .inr ⟨_,_,m,l,i,g,bk.dat .refl ok .bl q⟩⟩
noncomputable def inD(d:D)(ds:List D):Bool:=ds.any λy=>PyData.eqv (py y) (py d)
def C2(a:Bool):A2:=λx y S Q=>match bz S y with
 |.tup ds=>fit (bz S x)=true/\fit (.tup ds)=true/\Q (.dat (.bl (a != inD (bz S x) ds))) S
 |.lst ds=>fit (bz S x)=true/\fit (.lst ds)=true/\Q (.dat (.bl (a != inD (bz S x) ds))) S
 |_=>False
def IZ(K:yaI)(c:Bool):R2:=λx y H Q=>∃d a,cu K H d x/\(cu K H (.tuple a) y∨cu K H (.list a) y)/\shaped d=true/\PyData.canLayAll0 a=true/\Q (.bl (c != a.any λy=>PyData.eqv y d)) H
theorem Js{k:Nat}(m:aQ k X.A):fG X (yan .In) (IZ X.K false):=by
 intro i s o H x y v u Q I l f h;obtain⟨d,z,n,a,c,j,q⟩:=h;obtain⟨as,g⟩:=I.reads d x v n l;have t:=m.un;rcases a with a|a
 ·obtain⟨bs,e⟩:=I.reads _ y u a f;exact PySem.SeqAt.in_tuple_reads e g j (canLay_of_shaped c) (room_in_shaped c (by lia)) ⟨.bl _,H,I,by simp[L2.RelV],q⟩
 ·obtain⟨bs,e⟩:=I.reads _ y u a f;exact PySem.SeqAt.in_list_reads e g j (canLay_of_shaped c) (room_in_shaped c (by lia)) ⟨.bl _,H,I,by simp[L2.RelV],q⟩
theorem yH{k:Nat}(m:aQ k X.A):fG X (yan .NotIn) (IZ X.K true):=by
 intro i s o H x y v u Q I l f h;obtain⟨d,z,n,a,c,j,q⟩:=h;obtain⟨as,g⟩:=I.reads d x v n l;have t:=m.un;rcases a with a|a
 ·obtain⟨bs,e⟩:=I.reads _ y u a f;exact PySem.SeqAt.notIn_tuple_reads e g j (canLay_of_shaped c) (room_in_shaped c (by lia)) ⟨.bl _,H,I,by simp[L2.RelV],q⟩
 ·obtain⟨bs,e⟩:=I.reads _ y u a f;exact PySem.SeqAt.notIn_list_reads e g j (canLay_of_shaped c) (room_in_shaped c (by lia)) ⟨.bl _,H,I,by simp[L2.RelV],q⟩
theorem EC(ds:List D):gp ds=ds.map py:=by
 induction ds with
 |nil=>rfl
 |cons d ds ih=>simp[gp,ih]
theorem xT(ds:List D)(p:yam->Bool):(gp ds).any p=ds.any λy=>p (py y):=by
 rw[EC,zcs];rfl
theorem Fo{ds:List D}(h:fit (.tup ds)=true):PyData.canLayAll0 (gp ds)=true:=by
 unfold fit at h;rw[zbG] at h;have:=canLay_of_shaped h.2;simpa[py,PyData.canLay0] using this
theorem Cr{ds:List D}(h:fit (.lst ds)=true):PyData.canLayAll0 (gp ds)=true:=by
 unfold fit at h;rw[zbG] at h;have:=canLay_of_shaped h.2;simpa[py,PyData.canLay0] using this
theorem Nn{K:yaI}{a:Bool}:∀x y H Q,sQ K (C2 a) x y H Q->IZ K a x y H Q:=by
 rintro x y H Q ⟨w,d,e,S,n,ok,l,j,q,bk⟩;unfold C2 at q;split at q
 next ds z=>
  obtain⟨i,f,q⟩:=q;obtain⟨h,g⟩:=e8 ok l i;obtain⟨c,m⟩:=e8 ok j (by rw[z];exact f);rw[z] at c;refine⟨_,gp ds,h,.inl (by simpa only[py] using c),g,Fo f,?_⟩;rw[xT];exact bk.dat .refl ok .bl q
 next ds z=>
  obtain⟨i,f,q⟩:=q;obtain⟨h,g⟩:=e8 ok l i;obtain⟨c,m⟩:=e8 ok j (by rw[z];exact f);rw[z] at c;refine⟨_,gp ds,h,.inr (by simpa only[py] using c),g,Cr f,?_⟩;rw[xT];exact bk.dat .refl ok .bl q
 next=>exact q.elim
theorem JA{k:Nat}(a:aQ k X.A):kX X (yan .In) (C2 false):=⟨m2 (Js a) Nn⟩
theorem xg{k:Nat}(a:aQ k X.A):kX X (yan .NotIn) (C2 true):=⟨m2 (yH a) Nn⟩
end
section
variable {X:Cx}{K:yaI}{w:Wd}{H:Hp}{S:aA}{d:D}{v:V}
theorem rG{ds:List D}{a:List V}{i:Int}{e:D}(h:ak K w ds a)(q:fS ds i=some e):∃u,fS a i=some u/\Rep K w e u:=by
 unfold fS at q⊢;rw[h.length];cases z:G4 ds.length i with
 |none=>rw[z] at q;cases q
 |some j=>
  rw[z] at q;exact h.get q
def vJ:A2:=λx y S Q=>match bz S x,y with
 |.lst ds,.int i=>∃e,fS ds i=some e/\Q (.dat e) S
 |.tup ds,.int i=>∃e,fS ds i=some e/\Q (.dat e) S
 |.str z,.int i=>z.length<=yag/\∃c,fS z.cps.toList i=some c/\Q (.dat (.str ⟨#[c]⟩)) S
 |.k8 ns,.int i=>∃n,fS ns i=some n/\Q (.dat (.int n)) S
 |_,_=>False
theorem FY{α e:Type}{f:α->e}{c:List α}{i:Int}{a:α}(h:fS c i=some a):fS (c.map f) i=some (f a):=by
 unfold fS at h⊢;rw[zbK];cases z:G4 c.length i with
 |none=>rw[z] at h;cases h
 |some j=>
  rw[z] at h;have h:c[j]? =some a:=h;show(c.map f)[j]? =some (f a);rw[zaZ,h];rfl
theorem aF:PX X vJ:=⟨λf g j s O H x y v u Q I U P h W=>by
 refine L2.JV f g j s O H x y v u Q I U P ?_ W;obtain⟨w,d,e,S,Qa,ok,o,m,q,bk⟩:=h;unfold vJ at q;split at q
 next ds i z=>
  obtain⟨a,t,rfl,l,F⟩:=bG ok o z;obtain⟨e',E,q⟩:=q;obtain⟨C,L,G⟩:=rG F E;exact .inl ⟨a,t,i,C,rfl,bX m rfl,cV.of l,L,bk.dat .refl ok G q⟩
 next ds i z=>
  obtain⟨a,t,rfl,l,F⟩:=dJ ok o z;obtain⟨e',E,q⟩:=q;obtain⟨C,L,G⟩:=rG F E;exact .inr (.inl ⟨a,t,i,C,rfl,bX m rfl,l,L,bk.dat .refl ok G q⟩)
 next y i z=>
  obtain⟨Z,c,hc,q⟩:=q;exact .inr (.inr ⟨y,i,c,bO o z,bX m rfl,Z,hc,bk.dat .refl ok .str q⟩)
 next ns i z=>
  obtain⟨a,rfl,l⟩:=iS ok o z;obtain⟨n,Y,q⟩:=q;exact .inl ⟨a,_,i,.int n,rfl,bX m rfl,l,FY Y,bk.dat .refl ok .int q⟩
 next=>exact q.elim⟩
noncomputable def cutD{α:Type}(a:List α)(c e:Option Int):List α:=(a.drop (HT.cy a.length 0 c)).take (HT.cy a.length a.length e - HT.cy a.length 0 c)
theorem lZ{ds:List D}{a:List V}(h:ak K w ds a)(c e:Option Int):ak K w (cutD ds c e) (sO a c e):=by
 unfold cutD sO;rw[h.length];exact(h.drop _).take _
end
section
variable {prog:yaj}{w:yak}{A:yal}{E:yai->yah->Prop}{s:yah}
theorem ir{t sl:Addr}{items:Array yai}{n l:yai}{a f:Option Int}{Q:yai->yah->Prop}(e:IsTup s.heap t items)(o:s.heap.IsSliceOf sl n l .none)(pl:IsPart n a)(q:IsPart l f)(hw:HT.cy items.size 0 a=0/\HT.cy items.size items.size f=items.size)(h:Q (.ref t) s):yar (model prog w) A (getItem (.ref t) (.ref sl)) Q E s:=by
 obtain⟨os,g,i,u⟩:=id o;have j:s.TypeIs (.ref sl) "slice":=⟨os,g,i⟩
 unfold getItem
 try with_reducible refine yad ?_
 first|refine yaa (yab ?_)|skip
 refine yaa (wpAny_sequenceKey e.typeIs (by decide) ?_);refine yaa (wpAny_callSpecial?_slot (name:=Str.ofString "__getitem__") e.typeIs PyProof.Rows.slot_tuple_getitem (wpAny_call_entry PyProof.Rows.slot_tuple_getitem e.typeIs PyProof.Rows.entry_tuple_getitem ?_ (PyProof.Rows.args_tuple_getitem _ _)));show yar _ _ (Builtin.Tuple.tupleItemsOf (.ref t) >>= _) _ _ s;refine yaa (PyProof.Rows.tupleItemsOf_ e ?_);refine yaa (wpAny_typeOf j ?_);rw[yIp (by decide)];refine yaa (HT.fH o pl q ?_);have c:(((HT.cy items.size 0 a:Nat):Int)==0&&(1:Int)==1&&(HT.cy items.size items.size f - HT.cy items.size 0 a)==items.size)=true:=by
  rw[hw.1,hw.2];simp
 show yar _ _ (if(((HT.cy items.size 0 a:Nat):Int)==0&&(1:Int)==1&&(HT.cy items.size items.size f - HT.cy items.size 0 a)==items.size)=true then _ else _) _ _ s;rw[yIp c];refine yaa (m:=Builtin.Tuple.tupleIsExact (.ref t)) ?_;unfold Builtin.Tuple.tupleIsExact;refine yaa (wpAny_typeOf e.typeIs (yab ?_));rw[yIp (by decide)];exact yaa (wpAny_rule (yab ⟨_,rfl,yab h⟩))
end
section
variable {X:Cx}{K:yaI}{w:Wd}{H:Hp}{S:aA}{d:D}{v:V}
def qK:D->Option Int->Option Int->aA->AK->Prop:=λx a c S Q=>match bz S x with
 |.lst ds=>Q (.new (.lst (cutD ds a c))) S
 |.tup ds=>Q (.dat (.tup (cutD ds a c))) S
 |.str z=>z.length<=yag/\Q (.dat (.str (Txt.slice z a c))) S
 |.k8 ns=>Q (.new (.lst ((cutD ns a c).map D.int))) S
 |_=>False
def Ov(K:yaI):V->Option Int->Option Int->Hp->VK->Prop:=λx e f H Q=>∃a c,x=.ref a/\ef K H a c/\(HT.cy c.length 0 e=0/\HT.cy c.length c.length f=c.length)/\Q (.ref a) H
theorem AD:DO X (Ov X.K):=by
 intro f s o H x v u t z E y Q I j n pl l h;obtain⟨a,i,rfl,m,hw,q⟩:=h;cases j;obtain⟨e,r,g,C⟩:=I.tuple m;have c:e.toArray.size=i.length:=by rw[zaX];exact r.length.symm
 refine⟨"tuple",_,PyProof.Rows.slot_tuple_getitem.lookup,g.typeIs,?_⟩;exact ir g n pl l (by rw[c];exact hw) ⟨.ref a,H,I,rfl,q⟩
theorem zh{α:Type}{a:List α}{c e:Option Int}(h:HT.cy a.length 0 c=0/\HT.cy a.length a.length e=a.length):cutD a c e=a:=by
 unfold cutD;rw[h.1,h.2];simp
theorem FL{α g:Type}(f:α->g)(a:List α)(c e:Option Int):cutD (a.map f) c e=(cutD a c e).map f:=by
 unfold cutD;rw[zbK,zck,zcl]
theorem jP{w:Wd}:∀(ns:List Int),ak K w (ns.map D.int) (ns.map V.int)
 |[]=>.nil
 |n::ns=>.cons .int (jP ns)
theorem i8:PV X qK:=⟨by
 intro j s E H x v G F l m L Q I O U pl P h;refine(L2.D4.or (L2.HS.or (AD.or L2.HU))) j s E H x v G F l m L Q I O U pl P ?_;obtain⟨w,d,S,Y,ok,i,q,bk⟩:=h;unfold qK at q;split at q
 next ds z=>
  obtain⟨a,c,rfl,f,t⟩:=bG ok i z;exact .inl ⟨a,c,rfl,cV.of f,λp e=>bk (.new (.lst _)) S _ w _ .refl (ok.alloc e) (ok.fresh e ⟨_,rfl,lZ t l m⟩) q⟩
 next ds z=>
  obtain⟨a,c,rfl,f,t⟩:=dJ ok i z;by_cases hw:HT.cy c.length 0 l=0/\HT.cy c.length c.length m=c.length
  ·refine .inr (.inr (.inl ⟨a,c,rfl,f,hw,?_⟩));rw[t.length] at hw;rw[zh hw] at q;cases d<;>simp only[bz] at z
   case tup=>cases z;exact bk.dat .refl ok i q
   case loc n=>split at z<;>first|(rename_i o _;cases o<;>simp[MO.d] at z)|cases z
   all_goals cases z
  ·refine .inr (.inl ⟨a,c,rfl,f,hw,λp e=>?_⟩);obtain⟨W,C,u,g⟩:=ok.qw e (lZ t l m);exact bk.dat C u g q
 next y z=>exact .inr (.inr (.inr ⟨y,bO i z,q.1,bk.dat .refl ok .str q.2⟩))
 next ns z=>
  obtain⟨a,rfl,f⟩:=iS ok i z;refine .inl ⟨a,_,rfl,f,λp e=>bk (.new (.lst _)) S _ w _ .refl (ok.alloc e) (ok.fresh e ⟨_,rfl,?_⟩) q⟩;have:=lZ (jP (K:=X.K) (w:=w) ns) l m;rw[FL] at this;exact this
 next=>exact q.elim⟩
def vG:A2:=λx y S Q=>match bz S x,y with
 |.int i,.int j=>zJ i j/\Q (.dat (.int (i*j))) S
 |.lst ds,.int k=>(-(2 ^ 63)<=k/\k<2 ^ 63)/\ds.length*k.toNat<=yag/\Q (.new (.lst (zcb k.toNat ds).flatten)) S
 |.str z,.int n=>MulOk z n/\Q (.dat (.str (Txt.mul z n))) S
 |_,_=>False
theorem rF{ds:List D}{a:List V}(h:ak K w ds a):∀k:Nat,ak K w (zcb k ds).flatten (zcb k a).flatten
 |0=>.nil
 |k+1=>by
  rw[zaE,zaE,zba,zba];exact h.append (rF h k)
theorem dB:kX X (binaryOp .Mult) vG:=⟨m2 (EK L2.Jm (EK L2.Jj L2.uN)) λx y H Q h=>by
 obtain⟨w,d,e,S,C,ok,f,c,q,bk⟩:=h;unfold vG at q;split at q
 next i j z=>exact .inl ⟨i,j,cH f z,bX c rfl,q.1,bk.dat .refl ok .int q.2⟩
 next ds k z=>
  obtain⟨a,m,rfl,s,l⟩:=bG ok f z;obtain⟨⟨u,t⟩,o,q⟩:=q;refine .inr (.inl ⟨a,k,m,rfl,bX c rfl,s,u,t,by rw[l.length];exact o,λp g=>?_⟩);exact bk (.new (.lst _)) S _ w _ .refl (ok.alloc g) (ok.fresh g ⟨_,rfl,rF l k.toNat⟩) q
 next y n z=>exact .inr (.inr ⟨y,n,bO f z,bX c rfl,q.1,bk.dat .refl ok .str q.2⟩)
 next=>exact q.elim⟩
end
mutual
noncomputable def iw(n:Nat):D->Bool
 |.loc m=>decide (m<n)
 |.tup ds|.lst ds|.dct _ ds=>gQ n ds
 |_=>true
noncomputable def gQ(n:Nat):List D->Bool
 |[]=>true
 |d::ds=>iw n d&&gQ n ds
end
noncomputable def j9(n:Nat):MO->Bool
 |.lst ds=>gQ n ds
 |.dct _ ds=>gQ n ds
 |.feed _=>true
 |.ins _ _ ds=>gQ n ds
 |.zM _ ks=>gQ n ks
mutual
theorem xR(n:Nat):∀d:D,dz d=true->iw n d=true
 |.bq,_=>by simp[iw]
 |.bl _,_=>by simp[iw]
 |.int _,_=>by simp[iw]
 |.str _,_=>by simp[iw]
 |.tup ds,h=>by simp only[iw];exact cE n ds (by simpa[dz] using h)
 |.lst ds,h=>by simp only[iw];exact cE n ds (by simpa[dz] using h)
 |.dct _ _,h=>by simp[dz] at h
 |.loc _,h=>by simp[dz] at h
 |.ty _,h=>by simp[dz] at h
 |.k8 _,h=>by simp[dz] at h
 |.fd,h=>by simp[dz] at h
 |.fn _,h=>by simp[dz] at h
theorem cE(n:Nat):∀ds:List D,ck ds=true->gQ n ds=true
 |[],_=>by simp[gQ]
 |d::ds,h=>by
  simp only[ck,zbG] at h;simp only[gQ,zbG];exact⟨xR n d h.1,cE n ds h.2⟩
end
noncomputable def iU(n:Nat)(w:Wd):Wd:=⟨w.B,λk=>if k<n then w.r k else none⟩
section
variable {K:yaI}{w w1:Wd}{H H1:Hp}{S S0 S1:aA}
mutual
theorem oZ(n:Nat):∀(d:D)(v:V),iw n d=true->Rep K w d v->Rep K (iU n w) d v
 |.bq,_,_,h=>by simpa[Rep] using h
 |.bl _,_,_,h=>by simpa[Rep] using h
 |.int _,_,_,h=>by simpa[Rep] using h
 |.str _,_,_,h=>by simpa[Rep] using h
 |.ty _,_,_,h=>by simpa[Rep] using h
 |.fd,_,_,h=>by simpa[Rep] using h
 |.fn _,_,_,h=>by simpa[Rep] using h
 |.k8 _,_,_,h=>by simpa[Rep,iU] using h
 |.loc m,v,hb,h=>by
  simp only[iw,decide_eq_true_eq] at hb;simp only[Rep] at h⊢;obtain⟨a,f,e⟩:=h;exact⟨a,by show(if m<n then w.r m else none)=_;rw[yIp hb];exact f,e⟩
 |.tup ds,v,hb,h=>by
  simp only[Rep] at h⊢;obtain⟨a,c,f,e,g⟩:=h;exact⟨a,c,f,e,cz n ds c (by simpa[iw] using hb) g⟩
 |.lst ds,v,hb,h=>by
  simp only[Rep] at h⊢;obtain⟨a,c,f,e,g⟩:=h;exact⟨a,c,f,e,cz n ds c (by simpa[iw] using hb) g⟩
 |.dct ks ds,v,hb,h=>by
  simp only[Rep] at h⊢;obtain⟨a,c,f,e,g,i⟩:=h;exact⟨a,c,f,e,g,cz n ds _ (by simpa[iw] using hb) i⟩
theorem cz(n:Nat):∀(ds:List D)(vs:List V),gQ n ds=true->ak K w ds vs->ak K (iU n w) ds vs
 |[],_,_,h=>by simpa[ak] using h
 |d::ds,vs,hb,h=>by
  simp only[gQ,zbG] at hb;simp only[ak] at h⊢;obtain⟨x,r,e,c,a⟩:=h;exact⟨x,r,e,oZ n d x hb.1 c,cz n ds r hb.2 a⟩
end
mutual
theorem Ez(n:Nat)(f:∀k,n<=k->w.r k=none):∀(d:D)(v:V),Rep K w d v->iw n d=true
 |.bq,_,_=>by simp[iw]
 |.bl _,_,_=>by simp[iw]
 |.int _,_,_=>by simp[iw]
 |.str _,_,_=>by simp[iw]
 |.ty _,_,_=>by simp[iw]
 |.fd,_,_=>by simp[iw]
 |.fn _,_,_=>by simp[iw]
 |.k8 _,_,_=>by simp[iw]
 |.loc m,v,h=>by
  simp only[Rep] at h;obtain⟨a,c,i⟩:=h;simp only[iw,decide_eq_true_eq];rcases zcz m n with q|q
  ·exact q
  ·rw[f m q] at c;cases c
 |.tup ds,v,h=>by
  simp only[Rep] at h;obtain⟨a,e,c,i,g⟩:=h;simp only[iw];exact dO n f ds e g
 |.lst ds,v,h=>by
  simp only[Rep] at h;obtain⟨a,e,c,i,g⟩:=h;simp only[iw];exact dO n f ds e g
 |.dct ks ds,v,h=>by
  simp only[Rep] at h;obtain⟨a,e,c,i,g,j⟩:=h;simp only[iw];exact dO n f ds _ j
theorem dO(n:Nat)(a:∀k,n<=k->w.r k=none):∀(ds:List D)(vs:List V),ak K w ds vs->gQ n ds=true
 |[],_,_=>by simp[gQ]
 |d::ds,vs,h=>by
  simp only[ak] at h;obtain⟨x,r,f,e,c⟩:=h;simp only[gQ,zbG];exact⟨Ez n a d x e,dO n a ds r c⟩
end
theorem iJ(n:Nat):∀{o:MO}{u:HO},j9 n o=true->jw K w o u->jw K (iU n w) o u
 |.lst ds,u,hb,⟨xs,h1,h2⟩=>⟨xs,h1,cz n ds xs hb h2⟩
 |.dct ks ds,u,hb,⟨xs,h1,h2,h3⟩=>⟨xs,h1,h2,cz n ds _ hb h3⟩
 |.feed _,u,_,h=>h
 |.ins C ks ds,u,hb,⟨dx,fs,h1,h2,h3⟩=>⟨dx,fs,h1,h2,cz n ds _ hb h3⟩
 |.zM F ks,u,hb,⟨a,bs,h1,h2⟩=>⟨a,bs,h1,cz n ks _ hb h2⟩
theorem Bp(n:Nat)(c:∀k,n<=k->w.r k=none):∀{o:MO}{u:HO},jw K w o u->j9 n o=true
 |.lst ds,u,⟨xs,h1,h2⟩=>dO n c ds xs h2
 |.dct ks ds,u,⟨xs,h1,h2,h3⟩=>dO n c ds _ h3
 |.feed _,u,h=>rfl
 |.ins C ks ds,u,⟨dx,fs,h1,h2,h3⟩=>dO n c ds _ h3
 |.zM F ks,u,⟨a,bs,h1,h2⟩=>dO n c ks _ h2
noncomputable def out(n:Nat)(S1:aA):R->Option R
 |.dat (.loc m)=>if m<n then some (.dat (.loc m)) else match S1[m]? with
  |some (some o)=>if j9 n o=true then some (.new o) else none
  |_=>none
 |.dat d=>if iw n d=true then some (.dat d) else none
 |.new o=>if j9 n o=true then some (.new o) else none
def chg(S0 S1:aA):Prop:=∀k o,k<S0.length->S1[k]? =some (some o)->S0[k]? =some (some o)∨j9 S0.length o=true
def ret(S0 S1:aA)(r:R)(Q:AK):Prop:=∃a,out S0.length S1 r=some a/\chg S0 S1/\Q a (S1.take S0.length)
theorem qf{r:R}{v:V}{I:AK}{Q:VK}(ok:Ok K w H S0)(le:w.le w1)(f:Ok K w1 H1 S1)(rep:zE K w1 H1 S1 r v)(h:ret S0 S1 r I)(bk:dX K w I Q):Q v H1:=by
 obtain⟨E,c,O,q⟩:=h;generalize L:S0.length=n at*;have lt:∀k a,w.r k=some a->k<n:=λk a e=>by
  rcases zcz k n with z|z
  ·exact z
  ·rw[ok.top k (by lia)] at e;cases e
 have at_:∀k o,(S1.take n)[k]? =some (some o)->k<n/\S1[k]? =some (some o):=λk o e=>by
  rw[zaM] at e;by_cases z:k<n
  ·rw[yIp z] at e;exact⟨z,e⟩
  ·rw[yIn z] at e;cases e
 have G:w.le (iU n w1):=⟨le.b,λk a e=>by show(if k<n then w1.r k else none)=_;rw[yIp (lt k a e)];exact le.r k a e⟩
 have bl:∀k o,k<n->S1[k]? =some (some o)->j9 n o=true:=λk o g e=>by
  rcases O k o (by lia) e with z|z
  ·obtain⟨a,u,_,_,_,l⟩:=ok.live k o z;exact Bp n (λk g=>ok.top k (by lia)) l
  ·rw[L] at z;exact z
 have F:Ok K (iU n w1) H1 (S1.take n):=⟨f.base,λk o e=>by
   obtain⟨g,e⟩:=at_ k o e;obtain⟨a,u,t,y,x,l⟩:=f.live k o e;exact⟨a,u,by show(if k<n then w1.r k else none)=_;rw[yIp g];exact t,y,x,iJ n (bl k o g e) l⟩,
  λk m o i e s z=>by
   obtain⟨g,e⟩:=at_ k o e;obtain⟨j,s⟩:=at_ m i s;have z:(if k<n then w1.r k else none)=(if m<n then w1.r m else none):=z;rw[yIp g,yIp j] at z;exact f.inj k m o i e s z,
  λk g=>by
   show(if k<n then w1.r k else none)=none;by_cases z:k<n
   ·rw[yIp z];rw[zbr] at g;exact f.top k (by lia)
   ·rw[yIn z]⟩
 refine bk E (S1.take n) v (iU n w1) H1 G F ?_ q;have fresh:∀m o a,n<=m->S1[m]? =some (some o)->w1.r m=some a->∀k i,(S1.take n)[k]? =some (some i)->(iU n w1).r k≠some a:=λm o a j e C k i s z=>by
  obtain⟨g,s⟩:=at_ k i s;have z:(if k<n then w1.r k else none)=some a:=z;rw[yIp g] at z;have:=f.inj k m i o s e (z.trans C.symm);lia
 cases r with
 |new o=>
  simp only[out] at c;split at c
  next hb=>
   cases c;obtain⟨a,u,rfl,t,y,x,l⟩:=rep;refine⟨a,u,rfl,t,y,iJ n hb x,λk i e z=>?_⟩;obtain⟨g,e⟩:=at_ k i e;have z:(if k<n then w1.r k else none)=some a:=z;rw[yIp g] at z;exact l k i e z
  next=>cases c
 |dat d=>
  have gen:(if iw n d=true then some (R.dat d) else none)=some E->zE K (iU n w1) H1 (S1.take n) E v:=λc=>by
   split at c
   next hb=>cases c;exact oZ n d v hb rep
   next=>cases c
  cases d with
  |loc m=>
   simp only[out] at c;split at c
   next j=>exact gen (by simp[iw,j,c])
   next j=>
    have j:n<=m:=by lia
    split at c
    next o e=>
     split at c
     next hb=>
      cases c;have rep:Rep K w1 (.loc m) v:=rep;simp only[Rep] at rep;obtain⟨a,C,rfl⟩:=rep;obtain⟨P,u,t,y,x,l⟩:=f.live m o e;rw[C] at t;cases t;exact⟨a,u,rfl,y,x,iJ n hb l,fresh m o a j e C⟩
     next=>cases c
    next=>cases c
  |_=>exact gen (by simpa only[out] using c)
end
noncomputable def aG(N:List Str)(ds:List D):bE:=ds.map some++zcb (N.length - ds.length) none
theorem g8{K:yaI}{w:Wd}{N:List Str}{ds:List D}{vs:List V}(h:ak K w ds vs):d7 K w (aG N ds) (L2.start N vs):=by
 have c:=h.length;refine⟨by simp[aG,L2.start,c],λi d e=>?_⟩;unfold aG at e;by_cases a:i<ds.length
 ·rw[zaf (by simpa using a),zaZ] at e;cases z:ds[i]? with
  |none=>rw[z] at e;cases e
  |some d'=>
   rw[z] at e;have e:d'=d:=by simpa using e
   subst e;obtain⟨v,g,f⟩:=h.get z;refine⟨v,?_,f⟩;unfold L2.start;rw[zaf (by rw[zbK,c];exact a),zaZ,g];rfl
 ·rw[zab (by simpa using a),List.getElem?_replicate] at e;split at e<;>cases e
section
variable {P:yaj}{w:yak}{K:yaI}{mg:Str->Option yai}{base:Heap}
theorem iu{x:Str}{st:Stmt}{N ps:List Str}{k:Nat}{sp:AN}(F:Src K mg x ps st)(S:az N ps (ai st))(len:∀ds S Q,sp ds S Q->ds.length=ps.length)(g:∀(f:Addr)(c:yai)(A:yal)(outer:List Env)(s:yah)(H:Hp)(E:XK),aQ k (A.deeper (envOfC x (ai st) s.heap.objs.size f c))->∃a,ym (iO jL P w K mg base N x (ai st) f c A outer s H E).BS (bw st) a/\∀ds S Q,sp ds S Q->a {nx:=λ_ S'=>ret S S' (.dat .bq) Q,rt:=λr S'=>ret S S' r Q} (aG N ds) S):Def P w K mg base (k+1) x ps (aM K sp):=
 F.def S (λn H Q E h=>by
  obtain⟨w,ds,S,l,ok,rep,q,bk⟩:=h;rw[rep.length];exact len ds S l q) λf c A outer s H n Q E o h=>by
  obtain⟨a,t,hd⟩:=g f c A outer s H E o;obtain⟨w,ds,S,l,ok,rep,q,bk⟩:=h;refine⟨_,t.p,w,aG N ds,S,_,ok,g8 rep,hd ds S l q,⟨λC S' y m u le e env j=>?_,λr S' v m u le e i j=>?_,λ_ _ _ _ _ _ _ _ z=>z.elim,λ_ _ _ _ _ _ _ _ z=>z.elim⟩⟩
  ·exact qf (r:=.dat .bq) (v:=.bq) ok le e (show Rep K m .bq .bq from .bq) j bk
  ·exact qf ok le e i j bk
end
section
variable {X:Cx}{K:yaI}{w:Wd}{H:Hp}{S:aA}{d:D}{v:V}
theorem eF{vs:List V}(h:ak K w [d] vs):∃v,vs=[v]/\Rep K w d v:=by
 simp only[ak] at h;obtain⟨x,r,rfl,a,rfl⟩:=h;exact⟨x,rfl,a⟩
theorem LQ{e:D}{vs:List V}(h:ak K w [d,e] vs):∃v u,vs=[v,u]/\Rep K w d v/\Rep K w e u:=by
 simp only[ak] at h;obtain⟨x,r,rfl,c,y,f,rfl,a,rfl⟩:=h;exact⟨x,y,rfl,c,a⟩
noncomputable def gq:D->Option Nat
 |.lst ds=>some ds.length
 |.tup ds=>some ds.length
 |.k8 ns=>some ns.length
 |.dct ks _=>some ks.length
 |.str z=>if z.length<=yag then some z.length else none
 |_=>none
def vI:AN:=λa S Q=>∃d n,a=[d]/\gq (bz S d)=some n/\Q (.dat (.int n)) S
theorem fK:ua X (.builtin "len") vI:=⟨mC (PC L2.CD L2.zo) λl H Q h=>by
 obtain⟨w,j,S,o,ok,rep,⟨d,n,rfl,e,q⟩,bk⟩:=h;obtain⟨v,rfl,g⟩:=eF rep;cases z:bz S d with
 |lst j=>
  rw[z] at e;have e:j.length=n:=by simpa[gq] using e
  obtain⟨a,l,rfl,c,i⟩:=bG ok g z;exact .inl ⟨_,n,rfl,.inl ⟨l,cV.of c,by rw[i.length,e]⟩,bk.dat .refl ok .int q⟩
 |tup j=>
  rw[z] at e;have e:j.length=n:=by simpa[gq] using e
  obtain⟨a,l,rfl,c,i⟩:=dJ ok g z;exact .inl ⟨_,n,rfl,.inr ⟨l,c,by rw[i.length,e]⟩,bk.dat .refl ok .int q⟩
 |k8 ns=>
  rw[z] at e;have e:ns.length=n:=by simpa[gq] using e
  obtain⟨a,rfl,c⟩:=iS ok g z;exact .inl ⟨_,n,rfl,.inl ⟨_,c,by rw[zbK,e]⟩,bk.dat .refl ok .int q⟩
 |str y=>
  rw[z] at e;simp only[gq] at e;split at e
  next hl=>
   cases e;exact .inl ⟨_,_,rfl,(by rw[bO g z];exact⟨hl,rfl⟩),bk.dat .refl ok .int q⟩
  next=>cases e
 |dct ks j=>
  rw[z] at e;have e:ks.length=n:=by simpa[gq] using e
  obtain⟨a,m,rfl,c,i,_⟩:=fT ok g z;refine .inr ⟨a,m,rfl,c,?_⟩;rw[<-zbK (f:=(·.1)),i,e];exact bk.dat .refl ok .int q
 |_=>rw[z] at e;simp[gq] at e⟩
noncomputable def K3:D->Option String
 |.bq=>some "NoneType"
 |.bl _=>some "bool"
 |.int _=>some "int"
 |.str _=>some "str"
 |.tup _=>some "tuple"
 |.lst _=>some "list"
 |_=>none
noncomputable def MB(d:D)(T:String):Option Bool:=(K3 d).bind λt=>if T=="str"||T=="int"||T=="bool"||T=="tuple"||T=="list" then some (t==T||(t=="bool"&&T=="int")) else none
def KL:AN:=λa S Q=>∃d T b,a=[d,.ty T]/\MB (bz S d) T=some b/\Q (.dat (.bl b)) S
theorem HE(ok:Ok K w H S)(h:Rep K w d v){t:String}(e:K3 (bz S d)=some t):jv K H v (.type t)∨t="tuple"/\∃a g,v=.ref a/\ef K H a g:=by
 cases z:bz S d with
 |lst ds=>
  rw[z] at e;cases e;obtain⟨a,f,rfl,c,i⟩:=bG ok h z;exact .inl (.lst c)
 |tup ds=>
  rw[z] at e;cases e;obtain⟨a,f,rfl,c,i⟩:=dJ ok h z;exact .inr ⟨rfl,a,f,rfl,c⟩
 |bq=>rw[z] at e;cases e;rw[D8 h z];exact .inl .bq
 |bl b=>rw[z] at e;cases e;rw[fU h z];exact .inl (.bl b)
 |int b=>rw[z] at e;cases e;rw[cH h z];exact .inl (.int b)
 |str b=>rw[z] at e;cases e;rw[bO h z];exact .inl (.str b)
 |_=>rw[z] at e;simp[K3] at e
theorem JN{t T:String}{b:Bool}(a:t="NoneType"∨t="bool"∨t="int"∨t="str"∨t="tuple"∨t="list")(e:(if T=="str"||T=="int"||T=="bool"||T=="tuple"||T=="list" then some (t==T||(t=="bool"&&T=="int")) else none)=some b):PySem.W.kitOne K (.type t) (.type T)=some b:=by
 split at e
 next hT=>
  simp only[zbW,beq_iff_eq] at hT;cases e;rcases hT with(((rfl|rfl)|rfl)|rfl)|rfl<;>rcases a with rfl|rfl|rfl|rfl|rfl|rfl<;>rfl
 next=>cases e
theorem HG{t:String}(e:K3 d=some t):t="NoneType"∨t="bool"∨t="int"∨t="str"∨t="tuple"∨t="list":=by
 cases d<;>simp[K3] at e<;>subst e<;>simp
theorem zp:bW X (.builtin "isinstance") (λf H Q=>∃(a:Addr)(e:List V)(T:String)(b:Bool),f=[.ref a,.ty T]/\ef X.K H a e/\PySem.W.kitOne X.K (.type "tuple") (.type T)=some b/\Q (.bl b) H):=by
 intro g s u H f x Q I r h;obtain⟨a,e,T,b,rfl,l,m,q⟩:=h;obtain⟨v,i,rfl,j,c⟩:=vals2 r;cases Br.2 i c;cases(show v=Value.ref a from j);obtain⟨_,_,⟨o,t,n,_⟩,_⟩:=I.tuple l;exact zbZ (b:=b) PySem.W.kitx_tuple I.jN ⟨o,t,n⟩ m (λz=>nomatch z) λtk=>⟨.bl b,H,I.tok tk,rfl,q⟩
theorem Mf:ua X (.builtin "isinstance") KL:=⟨mC (PC L2.CF zp) λl H Q h=>by
 obtain⟨w,m,S,n,ok,rep,⟨d,T,b,rfl,e,q⟩,bk⟩:=h;obtain⟨v,u,rfl,i,c⟩:=LQ rep;unfold MB at e;cases z:K3 (bz S d) with
 |none=>rw[z] at e;cases e
 |some t=>
  rw[z] at e;have f:=JN (K:=X.K) (HG z) e;rcases HE ok i z with ty|⟨rfl,a,g,rfl,j⟩
  ·exact .inl ⟨v,.ty T,_,_,b,(by rw[Bo c rfl]),Br.1,Br.2,ty,f,bk.dat .refl ok .bl q⟩
  ·exact .inr ⟨a,g,T,b,(by rw[Bo c rfl]),j,f,bk.dat .refl ok .bl q⟩⟩
def qM:AN:=λa S Q=>∃d,a=[d]/\match bz S d with
 |.lst es=>Q (.new (.lst es)) S
 |.tup es=>Q (.new (.lst es)) S
 |.k8 ns=>Q (.new (.lst (ns.map D.int))) S
 |_=>False
theorem rX:ua X (.type "list") qM:=⟨mC L2.qF λf H Q h=>by
 obtain⟨w,j,S,l,ok,rep,⟨d,rfl,q⟩,bk⟩:=h;obtain⟨v,rfl,g⟩:=eF rep;split at q
 next es z=>
  obtain⟨a,f,rfl,e,i⟩:=bG ok g z;exact⟨a,f,rfl,.inl (cV.of e),λp c=>bk (.new (.lst _)) S _ w _ .refl (ok.alloc c) (ok.fresh c ⟨_,rfl,i⟩) q⟩
 next es z=>
  obtain⟨a,f,rfl,e,i⟩:=dJ ok g z;exact⟨a,f,rfl,.inr e,λp c=>bk (.new (.lst _)) S _ w _ .refl (ok.alloc c) (ok.fresh c ⟨_,rfl,i⟩) q⟩
 next ns z=>
  obtain⟨a,rfl,e⟩:=iS ok g z;exact⟨a,_,rfl,.inl e,λp c=>bk (.new (.lst _)) S _ w _ .refl (ok.alloc c) (ok.fresh c ⟨_,rfl,jP ns⟩) q⟩
 next=>exact q.elim⟩
def tF:AN:=λa S Q=>∃d,a=[d]/\match bz S d with
 |.lst es=>Q (.dat (.tup es)) S
 |.tup es=>Q (.dat (.tup es)) S
 |_=>False
theorem pB:ua X (.type "tuple") tF:=⟨mC L2.oF λe H Q h=>by
 obtain⟨w,t,S,u,ok,rep,⟨d,rfl,q⟩,bk⟩:=h;obtain⟨v,rfl,f⟩:=eF rep;split at q
 next es z=>
  obtain⟨a,e,rfl,j,l⟩:=bG ok f z;refine⟨a,e,rfl,.inl ⟨cV.of j,λp m=>?_⟩⟩;obtain⟨s,i,g,c⟩:=ok.qw m l;exact bk.dat i g c q
 next es z=>
  obtain⟨a,e,rfl,j,l⟩:=dJ ok f z;refine⟨a,e,rfl,.inr ⟨j,?_⟩⟩;cases d<;>simp only[bz] at z
  case tup=>cases z;exact bk.dat .refl ok f q
  case loc n=>split at z<;>first|(rename_i o _;cases o<;>simp[MO.d] at z)|cases z
  all_goals cases z
 next=>exact q.elim⟩
theorem sY:∀{ns:List Bool}{a:List V},ak K w (ns.map D.bl) a->a=ns.map V.bl
 |[],_,h=>by simpa[ak] using h
 |n::ns,a,h=>by
  simp only[zch,ak,Rep] at h;obtain⟨x,r,rfl,rfl,h⟩:=h;rw[sY h];rfl
def Pg:AN:=λa S Q=>∃(d:D)(bs:List Bool),a=[d]/\bz S d=.lst (bs.map D.bl)/\Q (.dat (.bl (bs.all id))) S
theorem Mi(g:X.calm=true):ua X (.builtin "all") Pg:=⟨mC (L2.CG g) λe H Q h=>by
 obtain⟨w,j,S,l,ok,rep,⟨d,bs,rfl,z,q⟩,bk⟩:=h;obtain⟨v,rfl,f⟩:=eF rep;obtain⟨a,e,rfl,c,i⟩:=bG ok f z;rw[sY i] at c;exact⟨a,bs,rfl,cV.of c,bk.dat .refl ok .bl q⟩⟩
end
abbrev AM:=D->List D->aA->AK->Prop
structure Pn(X:Cx)(id:String)(r:AM):Prop where
 p:DH X id (Ni X.K r)
def JX(T:String):D->Prop
 |.lst _=>T="list"
 |.str _=>T="str"
 |.k8 _=>T="list"
 |.dct _ _=>T="dict"
 |_=>False
def xX(T:String)(r:AM)(a:AE)(b:AA):AE:=λc S Q=>a c S λx e=>JX T (bz e x.d)/\b c e λf g=>r x.d f g Q
section
variable {X:Cx}{K:yaI}{w:Wd}{H:Hp}{S:aA}{d:D}{v:V}
theorem Lb{T:String}(ok:Ok K w H S)(h:Rep K w d v)(t:JX T (bz S d)):Od K T v H:=by
 cases z:bz S d with
 |lst ds=>
  rw[z] at t;cases t;obtain⟨a,f,rfl,c,g⟩:=bG ok h z;exact .inl ⟨rfl,f,cV.of c⟩
 |str y=>rw[z] at t;cases t;rw[bO h z];exact rfl
 |k8 ns=>
  rw[z] at t;cases t;obtain⟨a,rfl,c⟩:=iS ok h z;exact .inl ⟨rfl,_,c⟩
 |dct ks ds=>
  rw[z] at t;cases t;obtain⟨a,e,rfl,c,_⟩:=fT ok h z;exact .inr (.inr (.inl ⟨rfl,.inl ⟨e,c⟩⟩))
 |_=>rw[z] at t;exact t.elim
theorem Ol{T:String}{r:AM}{a:AE}{b:AA}:∀i H Q,aY K (xX T r a b) i H Q->Of K T (Ni K r) (aY K a) (nB K b) i H Q:=by
 rintro i H Q ⟨w,l,S,y,ok,env,q,bk⟩;refine⟨w,l,S,_,ok,env,q,.go λo x v1 n E h f c ⟨ty,s⟩=>⟨Lb f c ty,?_⟩⟩;refine⟨n,l,x,_,f,env.le h,s,λt u z m C g j e q2=>?_⟩;exact⟨m,o.d,t,u,y,j,c.le g,e,q2,bk.le (h.trans g)⟩
theorem iD{o e:Expr}{es:List Expr}{j:AE}{t:AA}{name:Str}{c a:Pos}{T id:String}{r:AM}(l:PlainAttrs T)(slot:Slot T name id)(i:typeOf (.builtin id)=pure (.type "method_descriptor"))(q:Pn X id r)(n:GE X o j)(s:GA X (e::es) t)(g:attributeBase o name X.env (eval o X.env)=eval o X.env:=by rfl)(m:(e::es).all notStar=true:=by rfl)(h:decide ((e::es).length+0+0<30)=true:=by rfl)(f:(c.endLine==a.line)=true:=by rfl):GE X (.Call (.Attribute o name c) (e::es) [] a) (xX T r j t):=⟨mE (L2.Jg l slot i q.p n.p s.p g m h f) Ol⟩
theorem mM{id:String}{t u:V->List V->Hp->VK->Prop}(h:DH X id t)(m:∀x a H Q,u x a H Q->t x a H Q):DH X id u:=λc s e H x a v f Q I g i q=>h c s e H x a v f Q I g i (m x a H Q q)
theorem B5{n:Nat}{ds:List D}(ok:Ok K w H S)(h:Rep K w (.loc n) v)(e:S[n]? =some (some (.lst ds))):∃a c,v=.ref a/\w.r n=some a/\H a=some (.lst c)/\ak K w ds c:=by
 simp only[Rep] at h;obtain⟨a,f,rfl⟩:=h;obtain⟨m,u,g,l,j,c,rfl,i⟩:=ok.live n _ e;rw[f] at g;cases g;exact⟨a,c,rfl,f,j,i⟩
theorem l5{ds:List D}{a:List V}(h:ak K w ds a):jw K w (.lst ds) (.lst a):=⟨a,rfl,h⟩
def qN:AM:=λx c S Q=>∃n a e,x=.loc n/\c=[e]/\S[n]? =some (some (.lst a))/\a.length<yag/\Q (.dat .bq) (S.set n (some (.lst (a++[e]))))
theorem jd:Pn X "list.append" qN:=⟨mM (X:=X) (t:=wU) L2.yP λx u H Q h=>by
 obtain⟨w,d,z,S,C,ok,l,j,⟨n,y,e,rfl,rfl,f,m,q⟩,bk⟩:=h;obtain⟨a,g,rfl,o,s,c⟩:=B5 ok l f;obtain⟨v,rfl,i⟩:=eF j;exact⟨a,g,v,rfl,rfl,s,by rw[c.length];exact m,bk.dat .refl (ok.put f o (l5 (c.snoc i))) .bq q⟩⟩
def Bw(K:yaI):V->List V->Hp->VK->Prop:=λx e H Q=>∃l b c a,x=.ref l/\e=[.ref b]/\H l=some (.lst c)/\ef K H b a/\c.length+a.length<=yag/\Q .bq (upd H l (.lst (c++a)))
theorem Fp{l b:Addr}{a c:Array yai}{n k:Nat}{dd:Option Addr}{sl:Array (Option yai)}(h0:¬(!a.isEmpty&&Builtin.List.listTooLong (a.size+c.size))=true)(h1:a.size<=yag)(i:a.size+c.size<=yag+1):
  Meets (Builtin.«list.extend» ⟨[.ref l,.ref b],[]⟩) (λ_ R s=>s.heap.get? l=some {cls:=.type "list",dict:=none,data:=.seq a n,slots:=#[]}/\s.heap.get? b=some {cls:=.type "tuple",dict:=dd,data:=.seq c k,slots:=sl}/\R (.ok (.ret Value.none)) {s with heap:=s.heap.update l (Obj.mapSeq λx=>x++c),toks:=s.toks}):=
 .of_wp λprog w A R s h=>by
  obtain⟨e,f,q⟩:=h;obtain⟨j,g,C,tk,os⟩:=s;have y:=AutoSeq1.idx_int;have u:=AutoSeq1.sub_tuple_tuple;have t:=AutoSeq1.sub_list_list;have o:=AutoSeq1.sub_tuple_list;have m:=AutoSeq1.sub_list_tuple;have z:(a++c).size<=yag+1:=by rw[Array.size_append];exact i
  wp_walk using(wpAny_updateSeq e rfl (hz:=h1) (_hz':=z)),AutoSeq1.wpAny_loadPart' e,AutoSeq1.wpAny_loadPart' f
  exact⟨_,rfl,q⟩
theorem uS:DH X "list.extend" (Bw X.K):=by
 intro j s P H x Z v us Q I y C h;obtain⟨l,b,Y,U,rfl,rfl,m,L,hz,q⟩:=h;cases y;obtain⟨u,rfl,ru⟩:=C.one;cases ru;obtain⟨z,c,n,r,hl,e⟩:=I.uW m;obtain⟨a,i,⟨⟨c2,dd,da,sl⟩,O,f,E,o⟩,W⟩:=I.tuple L;simp only at f o;subst f o;have G:=i.length;have g:c.toArray.size+a.toArray.size<=yag:=by rw[zaX,zaX];lia
 have t:¬(!c.toArray.isEmpty&&Builtin.List.listTooLong (c.toArray.size+a.toArray.size))=true:=by
  rw[mQ g,Bool.and_false];exact zaS
 refine call_meets F.slot_list_extend ⟨_,e,rfl⟩ F.entry_list_extend (F.args_list_extend_2 _ _)
  (Fp (n:=n) (k:=E) (dd:=dd) (sl:=sl) t (by rw[zaX];lia) (by lia)) ⟨e,O,?_⟩
 refine⟨.bq,_,I.JK (its':=c++a) m e (by simp) (r.append i) ?_,rfl,q⟩;rw[zaL];lia
def F6:AM:=λx c S Q=>∃n a e fs,x=.loc n/\c=[e]/\S[n]? =some (some (.lst a))/\(bz S e=.lst fs∨bz S e=.tup fs)/\a.length+fs.length<=yag/\Q (.dat .bq) (S.set n (some (.lst (a++fs))))
theorem jc:Pn X "list.extend" F6:=⟨mM (DH.or (X:=X) (r:=wR) L2.yO uS) λx C H Q h=>by
 obtain⟨w,d,F,S,G,ok,z,y,⟨n,E,e,fs,rfl,rfl,j,c,s,q⟩,bk⟩:=h;obtain⟨a,m,rfl,t,u,g⟩:=B5 ok z j;obtain⟨v,rfl,o⟩:=eF y;rcases c with c|c
 ·obtain⟨b,i,rfl,l,f⟩:=bG ok o c;exact .inl ⟨a,b,m,i,rfl,rfl,u,l,by rw[g.length,f.length];exact s,bk.dat .refl (ok.put j t (l5 (g.append f))) .bq q⟩
 ·obtain⟨b,i,rfl,l,f⟩:=dJ ok o c;exact .inr ⟨a,b,m,i,rfl,rfl,u,l,by rw[g.length,f.length];exact s,bk.dat .refl (ok.put j t (l5 (g.append f))) .bq q⟩⟩
end
end M
namespace M
open PySem L2
theorem bY{P:aA->Prop}{g:AG}{b:AS}{D:gX}(I:List M.D->bE->aA->Prop)(f:∀δ S,I [] δ S->P S/\D.nx δ S)(i:∀x c δ S N,I (x::c) δ S->(∀a S',I c a S'->N a S')->P S/\g x δ S λe l=>b {D with nx:=N,ct:=N,bk:=D.nx} e l):∀ds δ S,I ds δ S->pF P g b ds D δ S
 |[],δ,S,h=>f δ S h
 |x::c,δ,S,h=>i x c δ S _ h λa S' j=>bY I f i c a S' j
theorem ic{P:aA->Prop}{g:AG}{t:AT}{e:AE}{Q:List M.D->aA->Prop}(I:List M.D->List M.D->bE->aA->Prop)(l:∀a δ S,I [] a δ S->P S/\Q a S)(m:∀x j a δ S (N:List M.D->bE->aA->Prop),I (x::j) a δ S->(∀c f S',I j c f S'->N c f S')->P S/\g x δ S λi s=>t i s λb n=>if b=true then e i n λr q=>a.length<yag/\N (a++[r.d]) i q else N a i n):
  ∀ds a δ S,I ds a δ S->ff P g t e ds a δ S Q
 |[],a,δ,S,h=>l a δ S h
 |x::j,a,δ,S,h=>m x j a δ S (λc f S'=>ff P g t e j c f S' Q) h λc f S' o=>ic I l m j c f S' o
theorem comp_map{P:aA->Prop}{e:AE}{Q:List M.D->aA->Prop}{δ:bE}{S:aA}(f:M.D->M.D)(i:P S):∀(g c:List M.D)(a:bE),a.set 0 none=δ.set 0 none->(∀x∈g,∀Q:AK,Q (.dat (f x)) S->e (δ.set 0 (some x)) S Q)->c.length+g.length<=yag->Q (c++g.map f) S->
  ff P (bZ 0) oH e g c a S Q
 |[],c,a,_,_,_,q=>⟨i,by simpa using q⟩
 |x::g,c,a,hd,h,hl,q=>by
  refine⟨i,?_⟩;have m:a.set 0 (some x)=δ.set 0 (some x):=by
   have:=congrArg (λl=>l.set 0 (some x)) hd;simpa[List.set_set] using this
  simp only[bZ,oH,if_true];rw[m];refine h x (by simp) _ ⟨by simp at hl;lia,?_⟩;refine comp_map f i g _ _ (by simp[List.set_set]) (λy j=>h y (by simp[j])) (by simp at hl⊢;lia) ?_;simpa[R.d,zbb] using q
theorem wC{S:aA}{d:D}(h:dz d=true):bz S d=d:=by
 cases d<;>first|rfl|simp[dz] at h
theorem AR{S:aA}{i:Int}:bz S (.int i)=.int i:=rfl
theorem AJ{S:aA}{i:Str}:bz S (.str i)=.str i:=rfl
theorem Ea{S:aA}{i:Bool}:bz S (.bl i)=.bl i:=rfl
theorem AQ{S:aA}:bz S .bq=.bq:=rfl
theorem rq{S:aA}{i:List D}:bz S (.tup i)=.tup i:=rfl
theorem eB{S:aA}{i:List D}:bz S (.lst i)=.lst i:=rfl
theorem AL{S:aA}{i:List Int}:bz S (.k8 i)=.k8 i:=rfl
theorem fy{d:D}:(R.dat d).d=d:=rfl
theorem fu{o:MO}:(R.new o).d=o.d:=rfl
theorem EZ{ds:List D}:(MO.lst ds).d=.lst ds:=rfl
theorem E6{i j:Int}{S:aA}{Q:AK}:Pe (.int i) (.int j) S Q=Q (.dat (.bl (decide (i<=j)))) S:=rfl
theorem E4{i j:Int}{S:aA}{Q:AK}:PU (.int i) (.int j) S Q=Q (.dat (.bl (decide (i<j)))) S:=rfl
theorem NS{i j:Str}{S:aA}{Q:AK}:Pe (.str i) (.str j) S Q=Q (.dat (.bl (!decide (j.cps.toList<i.cps.toList)))) S:=rfl
theorem KP{C:Int->Int->Prop}{g:Int->Int->D}{i j:Int}{S:aA}{Q:AK}:aI C g (.int i) (.int j) S Q=(C i j/\Q (.dat (g i j)) S):=by
 refine propext ⟨λ⟨a,b,e,c,h⟩=>?_,λh=>⟨i,j,rfl,rfl,h⟩⟩;cases e;cases c;exact h
theorem CU{i j:Int}{S:aA}{Q:AK}:tN (.int i) (.int j) S Q=Q (.dat (.int (i+j))) S:=rfl
theorem CT{i j:List D}{S:aA}{Q:AK}:tN (.lst i) (.lst j) S Q=(i.length+j.length<=yag/\Q (.new (.lst (i++j))) S):=rfl
theorem Fw{i j:Int}{S:aA}{Q:AK}:Ny (.int i) (.int j) S Q=Q (.dat (.bl (decide (i=j)))) S:=rfl
theorem Fv{i j:Str}{S:aA}{Q:AK}:Ny (.str i) (.str j) S Q=Q (.dat (.bl (decide (i=j)))) S:=rfl
theorem HJ{b:Bool}:fh (.bl b)=some b:=rfl
theorem DV{ds:List D}:fh (.lst ds)=some (!ds.isEmpty):=rfl
theorem DT{ds:List D}:fh (.tup ds)=some (!ds.isEmpty):=rfl
theorem w6{n:Nat}{S:aA}{d:D}(h:dz d=true):out n S (.dat d)=some (.dat d):=by
 have b:=xR n d h;cases d<;>first|(simp[dz] at h;done)|(simp only[out];rw[yIp b])
theorem nG{S:aA}:chg S S:=λ_ _ _ e=>.inl e
theorem eZ{S:aA}{d:D}{Q:AK}(h:dz d=true)(q:Q (.dat d) S):ret S S (.dat d) Q:=⟨_,w6 h,nG,by rw[zbv];exact q⟩
theorem IS{S:aA}{b:Bool}{Q:AK}:ret S S (.dat (.bl b)) Q=Q (.dat (.bl b)) S:=by
 refine propext ⟨λ⟨r,c,_,a⟩=>?_,eZ rfl⟩;simp[out,iw] at c;subst c;rw[zbv] at a;exact a
theorem Ey{S:aA}{b:Int}{Q:AK}:ret S S (.dat (.int b)) Q=Q (.dat (.int b)) S:=by
 refine propext ⟨λ⟨r,c,_,a⟩=>?_,eZ rfl⟩;simp[out,iw] at c;subst c;rw[zbv] at a;exact a
theorem qg{S:aA}{ds:List D}{Q:AK}(h:ck ds=true)(q:Q (.new (.lst ds)) S):ret S S (.new (.lst ds)) Q:=
 ⟨_,by simp only[out];rw[yIp (show j9 _ (.lst ds)=true from cE _ ds h)],nG,by rw[zbv];exact q⟩
theorem qh{S:aA}{ds:List D}{Q:AK}{S':aA}{n:Nat}(f:S.length<=n)(h:ck ds=true)(e:S'[n]? =some (some (.lst ds)))(a:S'.take S.length=S)(q:Q (.new (.lst ds)) S):ret S S' (.dat (.loc n)) Q:=by
 refine⟨.new (.lst ds),?_,λk o c e=>.inl ?_,by rw[a];exact q⟩
 ·simp only[out];rw[yIn (by lia),e];show(if j9 S.length (.lst ds)=true then some (R.new (.lst ds)) else none)=_;rw[yIp (show j9 _ (.lst ds)=true from cE _ ds h)]
 ·rw[<-a,zaM,yIp c];exact e
noncomputable def cP(x:Str):Bool:=x.cps.toList.all (λc=>decide (c<128))&&decide (x.length<=100)
noncomputable def tZ:Nat->D->Bool
 |_,.bq=>true
 |_,.bl _=>true
 |_,.int _=>true
 |_,.str x=>cP x
 |n+1,.tup ds=>decide (ds.length<=100)&&ds.all (tZ n)
 |n+1,.lst ds=>decide (ds.length<=100)&&ds.all (tZ n)
 |_,_=>false
theorem gJ{x:Str}(h:cP x=true):PyData.strOk x=true:=by
 unfold cP at h;rw[zbG] at h;unfold PyData.strOk;rw[<-Array.all_toList];refine zbu.mpr λc a=>?_;have:=of_decide_eq_true (zbu.mp h.1 c a);exact yDt (by lia)
theorem z8:∀(n:Nat)(d:D),tZ n d=true->dz d=true/\(py d).canLay0=true/\(py d).depth<=n:=by
 intro n
 induction n with
 |zero=>
  intro d h;cases d<;>first|(simp[tZ] at h;done)|skip
  ·simp[dz,py,PyData.canLay0,PyData.depth]
  ·simp[dz,py,PyData.canLay0,PyData.depth]
  ·simp[dz,py,PyData.canLay0,PyData.depth]
  ·simp only[tZ] at h;simp[dz,py,PyData.canLay0,PyData.depth,gJ h]
 |succ n ih=>
  have all:∀a:List D,(a.all (tZ n))=true->ck a=true/\PyData.canLayAll0 (gp a)=true/\PyData.depthAll (gp a)<=n:=by
   intro a
   induction a with
   |nil=>intro _;simp[ck,gp,PyData.canLayAll0,PyData.depthAll]
   |cons d a ih2=>
    intro h;rw[zcj,zbG] at h;obtain⟨e,c,f⟩:=ih d h.1;obtain⟨i,g,j⟩:=ih2 h.2;refine⟨by simp[ck,e,i],by simp[gp,PyData.canLayAll0,c,g],?_⟩;simp only[gp,PyData.depthAll];lia
  intro d h;cases d<;>first|(simp[tZ] at h;done)|skip
  ·simp[dz,py,PyData.canLay0,PyData.depth]
  ·simp[dz,py,PyData.canLay0,PyData.depth]
  ·simp[dz,py,PyData.canLay0,PyData.depth]
  ·simp only[tZ] at h;simp[dz,py,PyData.canLay0,PyData.depth,gJ h]
  ·simp only[tZ,zbG] at h;obtain⟨e,c,f⟩:=all _ h.2;exact⟨by simpa[dz] using e,by simpa[py,PyData.canLay0] using c,by simp only[py,PyData.depth];lia⟩
  ·simp only[tZ,zbG] at h;obtain⟨e,c,f⟩:=all _ h.2;exact⟨by simpa[dz] using e,by simpa[py,PyData.canLay0] using c,by simp only[py,PyData.depth];lia⟩
theorem z7{n:Nat}{d:D}(h:tZ n d=true):dz d=true:=(z8 n d h).1
theorem lP{n:Nat}{d:D}(h:tZ n d=true)(e:n<=64):fit d=true:=by
 obtain⟨a,b,c⟩:=z8 n d h;unfold fit PySem.SeqAt.shaped;rw[a,b,yDt (by lia)];rfl
noncomputable def MC(x:D)(s:Str):Bool:=match x with
 |.str a=>decide (a=s)
 |_=>false
noncomputable def K7(x:D)(ss:List Str):Bool:=ss.any λs=>MC x s
theorem Ft{x:D}{s:Str}(h:dz x=true):PyData.eqv (.str s) (py x)=MC x s:=by
 cases x<;>first|(simp[dz] at h;done)|simp only[py,PyData.eqv,MC]
 rename_i a;by_cases e:s=a
 ·subst e;simp
 ·rw[yDf (λz=>e z.symm)];exact beq_eq_false_iff_ne.mpr e
theorem nu{x:D}(h:dz x=true):∀ss:List Str,inD x (ss.map D.str)=K7 x ss
 |[]=>rfl
 |s::ss=>by
  have:=nu h ss;unfold inD K7 at this⊢;rw[zch,zci,zci,this];rw[show PyData.eqv (py (.str s)) (py x)=MC x s from Ft h]
theorem Cb{n:Nat}{x:D}{ss:List Str}{a:Bool}{S:aA}{Q:AK}(h:tZ n x=true)(f:n<=64)(e:ss.all cP=true)(q:Q (.dat (.bl (a != K7 x ss))) S)(g:ss.length<=100:=by decide):C2 a x (.tup (ss.map D.str)) S Q:=by
 have c:=z7 h;unfold C2;rw[wC c,rq];refine⟨lP h f,lP (n:=1) ?_ (by decide),?_⟩
 ·simp only[tZ,List.all_map,zbK,yDt g,Bool.true_and];exact e
 ·rw[nu c];exact q
theorem pO{n:Nat}{x:D}{ss:List Str}{a:Bool}{S:aA}{Q:AK}(h:tZ n x=true)(f:n<=64)(e:ss.all cP=true)(q:Q (.dat (.bl (a != K7 x ss))) S)(g:ss.length<=100:=by decide):C2 a x (.lst (ss.map D.str)) S Q:=by
 have c:=z7 h;unfold C2;rw[wC c,eB];refine⟨lP h f,lP (n:=1) ?_ (by decide),?_⟩
 ·simp only[tZ,List.all_map,zbK,yDt g,Bool.true_and];exact e
 ·rw[nu c];exact q
end M
namespace M
open PySem PySem.Spec PyProof.Rows L2
theorem oN:∀{vs:List yai}{ss:List Str},StrsAre vs ss->Vals (ss.map V.str) vs
 |_,_,.nil=>.nil
 |_,_,.cons y t h=>.cons ⟨t,rfl⟩ (oN h)
section
variable {X:Cx}
theorem iV{K:yaI}{w:Wd}:∀ss:List Str,ak K w (ss.map D.str) (ss.map V.str)
 |[]=>by simp[ak]
 |s::ss=>by
  simp only[zch,ak];exact⟨_,_,rfl,by simp[Rep],iV ss⟩
end
section
variable {X:Cx}{e o value:Expr}{es:List Expr}{p p2 pos pos2 apos tpos:Pos}
noncomputable def putD(f:Str)(d:D):List Str->List D->List Str×List D
 |k::ks,e::ds=>if k=f then(k::ks,d::ds) else(k::(putD f d ks ds).1,e::(putD f d ks ds).2)
 |_,_=>([f],[d])
theorem wV{K:yaI}{w:Wd}{f:Str}{d:D}{v:V}(g:Rep K w d v):∀(fs:List (Str×V))(ds:List D),ak K w ds (fs.map (·.2))->(fW f v fs).map (·.1)=(putD f d (fs.map (·.1)) ds).1/\ak K w (putD f d (fs.map (·.1)) ds).2 ((fW f v fs).map (·.2))
 |[],ds,h=>by
  cases ds with
  |nil=>exact⟨rfl,.cons g .nil⟩
  |cons _ _=>exact⟨rfl,.cons g .nil⟩
 |(k,x)::fs,ds,h=>by
  cases ds with
  |nil=>simp[ak] at h
  |cons e ds=>
   simp only[zch,ak] at h;obtain⟨y,r,i,m,c⟩:=h;have q:=(zcN.inj i).1;have n:=(zcN.inj i).2;subst q;subst n;obtain⟨l,j⟩:=wV g fs ds c;simp only[fW,zch,putD];by_cases a:k=f
   ·rw[yIp a,yIp a];exact⟨rfl,.cons g c⟩
   ·rw[yIn a,yIn a];exact⟨by rw[zch,l],.cons m j⟩
theorem sf{K:yaI}{w:Wd}{f:Str}{d:D}:∀(fs:List (Str×V))(ds:List D),ak K w ds (fs.map (·.2))->((fs.map (·.1)).zip ds).lookup f=some d->∃v,fs.lookup f=some v/\Rep K w d v
 |[],ds,h,q=>by simp at q
 |(k,x)::fs,ds,h,q=>by
  cases ds with
  |nil=>simp at q
  |cons e ds=>
   simp only[zch,ak] at h;obtain⟨y,r,c,i,g⟩:=h;have l:=(zcN.inj c).1;have j:=(zcN.inj c).2;subst l;subst j;rw[zch,zaN,zbt] at q;rw[zbt];split at q
   ·rename_i a;have:e=d:=by simpa using q
    subst this;exact⟨x,by rw[a],i⟩
   ·rename_i a;obtain⟨v,e,r⟩:=sf fs ds g q;exact⟨v,by rw[a];exact e,r⟩
theorem jY{f:Str}:∀(fs:List (Str×V)),f ∉ fs.map (·.1)->fs.lookup f=none
 |[],_=>rfl
 |(k,x)::fs,h=>by
  rw[zbt];have:(f==k)=false:=by
   rw[beq_eq_false_iff_ne];intro z;exact h (by simp[z])
  rw[this];exact jY fs λz=>h (by simp only[zch,zcg];exact .inr z)
theorem qy{K:yaI}{w:Wd}{H:Hp}{S:aA}{n:Nat}{v:V}{C:Addr}{ks:List Str}{ds:List D}(ok:Ok K w H S)(h:Rep K w (.loc n) v)(e:S[n]? =some (some (.ins C ks ds))):
  ∃a c fs,v=.ref a/\w.r n=some a/\H a=some (.ins C c fs)/\fs.map (·.1)=ks/\ak K w ds (fs.map (·.2)):=by
 simp only[Rep] at h;obtain⟨a,f,rfl⟩:=h;obtain⟨q,u,g,m,l,c,fs,rfl,j,i⟩:=ok.live n _ e;rw[f] at g;cases g;exact⟨a,c,fs,rfl,f,l,j,i⟩
def tM(C:Addr)(a:AE)(f:Str):AE:=λi S Q=>a i S λr h=>∃n c g d,r=.dat (.loc n)/\h[n]? =some (some (.ins C c g))/\(c.zip g).lookup f=some d/\Q (.dat d) h
theorem bQ{C:Addr}{f:Str}{m:AE}(z:GE X e m)(c:ud X.K C)(nf:dw X.K C f)(E:attributeBase e f X.env (eval e X.env)=eval e X.env:=by rfl):GE X (.Attribute e f pos) (tM C m f):=
 ⟨mE (L2.bQ z.p E) λP H Q h=>by
  obtain⟨w,s,S,Z,ok,env,q,bk⟩:=h;refine⟨w,s,S,_,ok,env,q,λr Y v U H1 j i g ⟨n,W,O,d,I,G,x,u⟩=>?_⟩;subst I;obtain⟨a,L,fs,rfl,_,F,y,hd⟩:=qy i g G;subst y;obtain⟨v,l,t⟩:=sf fs O hd x;exact⟨a,C,L,fs,v,rfl,F,c,nf,l,bk.dat j i t u⟩⟩
def wL(C:Addr)(a v:AE)(f:Str):AS:=λD g S=>v g S λy j=>a g j λr i=>∃n c h,r=.dat (.loc n)/\i[n]? =some (some (.ins C c h))/\c.length<1000/\D.nx g (i.set n (some (.ins C (putD f y.d c h).1 (putD f y.d c h).2)))
theorem gE{C:Addr}{f:Str}{z x:AE}(t:GE X o z)(Q:GE X value x)(c:ud X.K C)(nf:dw X.K C f)(U:yat value (some (.Attribute o f pos2)) pos.line X.env=pure false:=by rfl):
  GS X (.Assign [.Attribute o f pos2] value pos) (wL C z x f):=
 ⟨mS (L2.gE t.p Q.p U) λDx σ H h=>by
  obtain⟨w,v,S,Da,ok,env,q,bk⟩:=h;refine⟨w,v,S,_,ok,env,q,.go λy S1 v1 I H1 i s l L=>?_⟩;refine⟨I,v,S1,_,s,env.le i,L,λr S2 v2 G H2 g m j ⟨n,ks,u,er,E,Y,q2⟩=>?_⟩;subst er;obtain⟨a,F,fs,rfl,W,t,Z,hd⟩:=qy m j E;subst Z;obtain⟨P,O⟩:=wV (f:=f) (l.le g) fs u hd;refine⟨a,C,F,fs,rfl,t,c,nf,by simpa using Y,?_⟩;exact bk.nx _ _ _ G _ (i.trans g) (m.put E W (o':=.ins C (putD f y.d (fs.map (·.1)) u).1 (putD f y.d (fs.map (·.1)) u).2) ⟨F,_,rfl,P,O⟩) (env.le (i.trans g)) q2⟩
end
structure iz(K:yaI)(C:Addr)(m qual:Str)(ps:List Str)(st:Stmt):Prop where
 ex:∃f fd,zP K m qual st f fd/\Meth K C m f/\Binds K fd ps []
structure cQ(P:yaj)(w:yak)(K:yaI)(mg:Str->Option yai)(base:Heap)(k:Nat)(C:Addr)(m:Str)(ps:List Str)(sp:AN):Prop where
 ex:∃f fd,cW P w K mg base jL k f fd ps (aM K sp)/\Meth K C m f/\Binds K fd ps []
section
variable {P:yaj}{w:yak}{K:yaI}{mg:Str->Option yai}{base:Heap}{C:Addr}
theorem PF{x c:Str}{st:Stmt}{f:Addr}{fd:yap}{N ps:List Str}{k:Nat}{sp:AN}(F:zP K x c st f fd)(S:az N ps (ai st))(len:∀ds S Q,sp ds S Q->ds.length=ps.length)(i:∀(f:Addr)(e:yai)(A:yal)(outer:List Env)(s:yah)(H:Hp)(E:XK),aQ k (A.deeper (PyProof.Rows.envOfC c (ai st) s.heap.objs.size f e))->∃a,ym (iO jL P w K mg base N c (ai st) f e A outer s H E).BS (bw st) a/\∀ds S Q,sp ds S Q->a {nx:=λ_ S'=>M.ret S S' (.dat .bq) Q,rt:=λr S'=>M.ret S S' r Q} (aG N ds) S):cW P w K mg base jL (k+1) f fd ps (aM K sp):=
 F.ok S (λo H Q E h=>by
  obtain⟨w,ds,S,m,ok,rep,q,bk⟩:=h;rw[rep.length];exact len ds S m q) λe A outer s H o Q E t h=>by
  obtain⟨a,u,hd⟩:=i f e A outer s H E t;obtain⟨w,ds,S,m,ok,rep,q,bk⟩:=h;refine⟨_,u.p,w,aG N ds,S,_,ok,g8 rep,hd ds S m q,⟨λI S' G n y le g env l=>?_,λr S' v n y le g j l=>?_,λ_ _ _ _ _ _ _ _ z=>z.elim,λ_ _ _ _ _ _ _ _ z=>z.elim⟩⟩
  ·exact qf (r:=.dat .bq) (v:=.bq) ok le g (show Rep K n .bq .bq from .bq) l bk
  ·exact qf ok le g j l bk
theorem O2{m c:Str}{st:Stmt}{N ps:List Str}{k:Nat}{sp:AN}(F:iz K C m c ps st)(S:az N ps (ai st))(len:∀ds S Q,sp ds S Q->ds.length=ps.length)(e:∀(f:Addr)(g:yai)(A:yal)(outer:List Env)(s:yah)(H:Hp)(E:XK),aQ k (A.deeper (PyProof.Rows.envOfC c (ai st) s.heap.objs.size f g))->∃a,ym (iO jL P w K mg base N c (ai st) f g A outer s H E).BS (bw st) a/\∀ds S Q,sp ds S Q->a {nx:=λ_ S'=>M.ret S S' (.dat .bq) Q,rt:=λr S'=>M.ret S S' r Q} (aG N ds) S):cQ P w K mg base (k+1) C m ps sp:=by
 obtain⟨f,fd,F,h,i⟩:=F.ex;exact⟨f,fd,PF F S len e,h,i⟩
end
section
variable {X:Cx}{e o:Expr}{es:List Expr}{p pos apos:Pos}{C:Addr}{k:Nat}{m:Str}{ps:List Str}{sp:AN}
def tK(C:Addr)(m:Str)(sp:AN)(a:AE)(t:AA):AE:=λc S Q=>a c S λr g=>∃n f h,r=.dat (.loc n)/\g[n]? =some (some (.ins C f h))/\m ∉ f/\t c g λes i=>sp (.loc n::es) i Q
theorem Im{K:yaI}{E:XK}{a:AE}{t:AA}:∀j H Q,aY K (tK C m sp a t) j H Q->Ad C m (aM K sp) [] E (aY K a) (nB K t) j H Q:=by
 rintro j H Q ⟨w,s,S,Y,ok,env,q,bk⟩;refine⟨w,s,S,_,ok,env,q,λr W v x H1 i g f ⟨n,ks,ds,O,L,F,y⟩=>?_⟩;subst O;obtain⟨a,P,fs,rfl,z,I,G,hd⟩:=qy g f L;subst G;refine⟨a,P,fs,rfl,I,jY fs F,x,s,W,_,g,env.le i,y,λes U Z u H2 h l c q2=>?_⟩;refine⟨u,.loc n::es,U,Y,l,?_,q2,bk.le (i.trans h)⟩;rw[zbL];exact .cons (by simp only[Rep];exact⟨a,h.r _ _ z,rfl⟩) c
theorem bP{pl:Sem Bool}{h:AE}{t:AA}(n:GE X o h)(c:ud X.K C)(D:cQ X.prog X.w X.K X.mg X.base k C m ps sp)(j:aQ k X.A)(s:GA X (e::es) t)(a:yao (e::es) X.env=(false,eval e X.env)::yao es X.env:=by rfl)(g:(yau pos (yao es X.env)).any (·.1)=false:=by rfl)(i:eval (.Call (.Attribute o m apos) (e::es) [] pos) X.env=(do
   let ov <-eval o X.env
   standAt apos.atName
   let(f,first) <-holding [ov] (yaC ov m pl)
   yaz pos f first (yau pos (yao (e::es) X.env)) (yaE pos (yaD [] X.env))):=by rfl):
  GE X (.Call (.Attribute o m apos) (e::es) [] pos) (tK C m sp h t):=by
 obtain⟨f,fd,F,l,q⟩:=D.ex;exact⟨mE (L2.bP n.p c l F j q .nil pq s.p a g i) Im⟩
theorem i7{pl:Sem Bool}{s:AE}(G:GE X o s)(c:ud X.K C)(D:cQ X.prog X.w X.K X.mg X.base k C m ps sp)(t:aQ k X.A)(z:eval (.Call (.Attribute o m apos) [] [] pos) X.env=(do
   let ov <-eval o X.env
   standAt apos.atName
   let(f,first) <-holding [ov] (yaC ov m pl)
   yaz pos f first (yau pos (yao [] X.env)) (yaE pos (yaD [] X.env))):=by rfl):
  GE X (.Call (.Attribute o m apos) [] [] pos) (tK C m sp s gy):=by
 obtain⟨f,fd,F,l,I⟩:=D.ex;exact⟨mE (L2.i7 G.p c l F t I .nil pq z) λZ H Q h=>by
  obtain⟨w,u,S,Y,ok,env,q,bk⟩:=h;refine⟨w,u,S,_,ok,env,q,λr W v x H1 j i g ⟨n,ks,ds,P,O,l,y⟩=>?_⟩;subst P;obtain⟨a,U,fs,rfl,t,L,E,hd⟩:=qy i g O;subst E;refine⟨a,U,fs,rfl,L,jY fs l,x,[.loc n],W,Y,i,?_,y,bk.le j⟩;rw[zbR];exact .cons g .nil⟩
def xV(C:Addr)(sp:AN)(t:AA):AE:=λc S Q=>t c S λes a=>sp (.loc a.length::es) (a++[some (.ins C [] [])]) λr f=>r=.dat .bq/\Q (.dat (.loc a.length)) f
theorem qo{x:Str}{t:AA}{f:Addr}{fd:yap}(MK:Mk X.K C f)(F:cW X.prog X.w X.K X.mg X.base jL k f fd ps (aM X.K sp))(hb:Binds X.K fd ps [])(Y:aQ (k+1) X.A)(hg:Gl X x)(Z:X.mg x=some (.ref C))(ha:GA X (e::es) t)(E:(x==("__debug__":Str))=false:=by decide+kernel)(W:(e::es).all notStar=true:=by rfl):GE X (.Call (.Name x p) (e::es) [] pos) (xV C sp t):=by
 have G:=W;rw[zcj,zbG] at G;refine⟨mE (L2.qo MK F Y hg Z hb .nil pq ha.p E (bA es X.env G.1) (d9 es G.2)) λσ H Q h=>?_⟩;obtain⟨w,L,S,Qa,ok,env,q,bk⟩:=h;refine⟨w,L,S,_,ok,env,q,λds S1 vs w1 H1 z y i P a I U nd ne=>?_⟩;have s:(upd H1 I (HO.own a)) a=none:=by rw[aN (Ne.symm ne)];exact U
 have j:=(y.alloc (o:=.own a) nd)
 obtain⟨O,n,dR,c⟩:=store (j.alloc (o:=.ins C I []) s) (j.fresh s (m:=.ins C [] []) ⟨I,[],rfl,rfl,.nil⟩);refine⟨O,_,_,_,dR,by rw[zbL];exact .cons c (i.le n),P,λr S2 v w3 H3 l u g ⟨er,q4⟩=>?_⟩;subst er;have ev:=wO g rfl;exact⟨ev,bk.dat (z.trans (n.trans l)) u (c.le l) q4⟩
def KH:AS:=λ_ _ _=>False
theorem eK{st:Stmt}:GS X st KH:=⟨mS L2.eK λD a H h=>by obtain⟨_,_,_,_,_,_,z,_⟩:=h;exact z.elim⟩
end
end M
namespace Srt
open PySem PySem.W PyProof.Rows
structure Ord(α:Type) where
 lt:α->α->Bool
 OP:∀a,lt a a=false
 tr:∀a b c,lt a b=true->lt b c=true->lt a c=true
 nt:∀a b c,lt a c=true->lt a b=true∨lt b c=true
noncomputable def run{c:Type}(f:Nat->Nat->Bool):KasT c->c
 |.ret a=>a
 |.ask i j k=>run f (k (f i j))
theorem run_bind{c e:Type}{f:Nat->Nat->Bool}{g:c->KasT e}:∀t:KasT c,run f (t.bind g)=run f (g (run f t))
 |.ret a=>rfl
 |.ask i j k=>run_bind (k (f i j))
section
variable {α:Type}(O:Ord α)
def le(a b:α):Prop:=O.lt b a=false
variable {O}
theorem le_rfl(a:α):le O a a:=O.OP a
theorem xq{a b:α}(h:O.lt a b=true):le O a b:=by
 unfold le;cases e:O.lt b a with
 |false=>rfl
 |true=>have:=O.tr _ _ _ h e;rw[O.OP] at this;cases this
theorem iE{a b c:α}(h:le O a b)(g:le O b c):le O a c:=by
 unfold le at*;cases e:O.lt c a with
 |false=>rfl
 |true=>
  rcases O.nt _ b _ e with z|z
  ·rw[g] at z;cases z
  ·rw[h] at z;cases z
theorem m8{a b:α}(h:¬O.lt a b=true):le O b a:=by unfold le;simpa using h
end
section
variable {α:Type}{O:Ord α}{k:Nat->α}{p:Array Nat}
noncomputable def val(k:Nat->α)(p:Array Nat)(i:Nat):α:=k (p.getD i 0)
variable (O k)
def Up(p:Array Nat)(m:Nat):Prop:=∀i j,i<=j->j<m->le O (val k p i) (val k p j)
def Down(p:Array Nat)(m:Nat):Prop:=∀i j,i<=j->j<m->le O (val k p j) (val k p i)
noncomputable abbrev ask(i j:Nat):Bool:=O.lt (k i) (k j)
variable {O k}
theorem DS{n:Nat}(h:Up O k p n)(h1:1<=n)(g:le O (val k p (n - 1)) (val k p n)):Up O k p (n+1):=λi j a f=>by
 by_cases e:j<n
 ·exact h i j a e
 ·have:j=n:=by lia
  subst this;by_cases c:i=j
  ·subst c;exact le_rfl _
  ·exact iE (h i (j - 1) (by lia) (by lia)) g
theorem ia{n:Nat}(h:Down O k p n)(h1:1<=n)(g:le O (val k p n) (val k p (n - 1))):Down O k p (n+1):=λi j a f=>by
 by_cases e:j<n
 ·exact h i j a e
 ·have:j=n:=by lia
  subst this;by_cases c:i=j
  ·subst c;exact le_rfl _
  ·exact iE g (h i (j - 1) (by lia) (by lia))
theorem vA:∀(f n:Nat),1<=n->Up O k p n->n<=run (ask O k) (kas_asc p f n)/\run (ask O k) (kas_asc p f n)<=n+f/\Up O k p (run (ask O k) (kas_asc p f n))
 |0,n,_,h=>⟨zcH _,zcH _,h⟩
 |f+1,n,h1,h=>by
  show n<=run _ (if O.lt (val k p n) (val k p (n - 1))=true then _ else _)/\_;by_cases e:O.lt (val k p n) (val k p (n - 1))=true
  ·have:run (ask O k) (kas_asc p (f+1) n)=n:=by
    show run _ (if O.lt (val k p n) (val k p (n - 1))=true then _ else _)=_;rw[yIp e];rfl
   rw[yIp e,this];exact⟨zcH _,by lia,h⟩
  ·have g:run (ask O k) (kas_asc p (f+1) n)=run (ask O k) (kas_asc p f (n+1)):=by
    show run _ (if O.lt (val k p n) (val k p (n - 1))=true then _ else _)=_;rw[yIn e]
   rw[yIn e,g];obtain⟨a,b,c⟩:=vA f (n+1) (by lia) (DS h h1 (m8 e));exact⟨by lia,by lia,c⟩
theorem jj{x:Nat}:p.getD x 0=(p[x]?).getD 0:=by
 by_cases h:x<p.size
 ·simp[zcM,h]
 ·simp[zcM,h,zap (Nat.le_of_not_lt h)]
theorem val_rev{i j:Nat}(a:j<=p.size)(x:Nat):val k (kas_rev p i j) x=if i<=x/\x<j then val k p (i+j - 1 - x) else val k p x:=by
 unfold val kas_rev;rw[jj,getElem?_mirror_all a];split<;>rw[jj]
theorem lX{i j:Nat}:(kas_rev p i j).size=p.size:=mirror_size _ _ _ _
theorem cX{i j:Nat}:(kas_rev p i j).Perm p:=mirror_perm _ _ _ _
def Flat(O:Ord α)(k:Nat->α)(p:Array Nat)(n q:Nat):Prop:=q+1<=n/\∀i j,n - (q+1)<=i->i<n->n - (q+1)<=j->j<n->le O (val k p i) (val k p j)
theorem sJ{n q:Nat}(e:n<=p.size)(h:Down O k p n)(f:Flat O k p n q):Down O k (kas_rev p (n - (q+1)) n) n:=λi j c g=>by
 obtain⟨m,l⟩:=f;rw[val_rev e,val_rev e];by_cases a:n - (q+1)<=j
 ·rw[yIp ⟨a,g⟩];by_cases b:n - (q+1)<=i
  ·rw[yIp ⟨b,by lia⟩];exact l _ _ (by lia) (by lia) (by lia) (by lia)
  ·rw[yIn (by lia)];exact h _ _ (by lia) (by lia)
 ·rw[yIn (by lia),yIn (by lia)];exact h _ _ c g
theorem Cq{n:Nat}(h:1<=n):Flat O k p n 0:=⟨by lia,λi j a b c d=>by
 have:i=j:=by lia
 subst this;exact le_rfl _⟩
theorem lB:∀(f n q:Nat)(p:Array Nat),n+f<=p.size->Down O k p n->Flat O k p n q->
  ∃m l o,run (ask O k) (kas_desc f p n q)=(m,l,o)/\m.Perm p/\n<=l/\l<=n+f/\Down O k m l/\Flat O k m l o
 |0,n,q,p,hz,h,fl=>⟨p,n,q,rfl,Array.Perm.refl _,zcH _,zcH _,h,fl⟩
 |f+1,n,q,p,hz,h,fl=>by
  have v:1<=n:=by have:=fl.1;lia
  have I:run (ask O k) (kas_desc (f+1) p n q)=run (ask O k) (if O.lt (val k p n) (val k p (n - 1))=true then(if q> 0 then kas_desc f (kas_rev p (n - (q+1)) n) (n+1) 0 else kas_desc f p (n+1) 0) else .ask (p.getD (n - 1) 0) (p.getD n 0) λd=>if d=true then .ret (p,n,q) else kas_desc f p (n+1) (q+1)):=rfl;rw[I];by_cases e:O.lt (val k p n) (val k p (n - 1))=true
  ·rw[yIp e];by_cases z:q> 0
   ·rw[yIp z];have hd:=sJ (by lia) h fl;have H:val k (kas_rev p (n - (q+1)) n) n=val k p n:=by rw[val_rev (by lia),yIn (by lia)]
    have G:le O (val k (kas_rev p (n - (q+1)) n) n) (val k (kas_rev p (n - (q+1)) n) (n - 1)):=by
     have F:=fl.1;rw[H,val_rev (by lia),yIp (by lia)];exact iE (xq e) (h _ _ (by lia) (by lia))
    obtain⟨m,l,o,a,b,c,d,t,s⟩:=lB f (n+1) 0 (kas_rev p (n - (q+1)) n) (by rw[lX];lia) (ia hd v G) (Cq (by lia));exact⟨m,l,o,a,b.trans cX,by lia,by lia,t,s⟩
   ·rw[yIn z];obtain⟨m,l,o,a,b,c,d,t,s⟩:=lB f (n+1) 0 p (by lia) (ia h v (xq e)) (Cq (by lia));exact⟨m,l,o,a,b,by lia,by lia,t,s⟩
  ·rw[yIn e];show∃m l o,run _ (if O.lt (val k p (n - 1)) (val k p n)=true then _ else _)=_/\_;by_cases g:O.lt (val k p (n - 1)) (val k p n)=true
   ·rw[yIp g];exact⟨p,n,q,rfl,Array.Perm.refl _,zcH _,by lia,h,fl⟩
   ·rw[yIn g];have E:=m8 e;have y:=m8 g;have x:Flat O k p (n+1) (q+1):=⟨by have:=fl.1;lia,λi j a b c d=>by
     have F:=fl.1;by_cases C:i=n
     ·by_cases u:j=n
      ·rw[C,u];exact le_rfl _
      ·rw[C];exact iE y (fl.2 _ _ (by lia) (by lia) (by lia) (by lia))
     ·by_cases u:j=n
      ·rw[u];exact iE (fl.2 _ _ (by lia) (by lia) (by lia) (by lia)) E
      ·exact fl.2 _ _ (by lia) (by lia) (by lia) (by lia)⟩
    obtain⟨m,l,o,a,b,c,d,t,s⟩:=lB f (n+1) (q+1) p (by lia) (ia h v y) x;exact⟨m,l,o,a,b,by lia,by lia,t,s⟩
theorem we{n m:Nat}(h1:1<=n)(l:n<=m)(hz:m<=p.size)(h:Down O k p n):∃c e,run (ask O k) (kas_tail3 n m p)=(c,e)/\e.Perm p/\n<=c/\c<=m/\Up O k e c:=by
 unfold kas_tail3;rw[run_bind];have f:Up O k (kas_rev p 0 n) n:=λi j g o=>by
  rw[val_rev (by lia),val_rev (by lia),yIp (by lia),yIp (by lia)];exact h _ _ (by lia) (by lia)
 obtain⟨a,b,c⟩:=vA (m - n) n h1 f;exact⟨_,_,rfl,cX,a,by lia,c⟩
theorem kG{n m:Nat}(h1:1<=n)(C:n+1<=m)(hz:m<=p.size)(h:Down O k p n)(g:le O (val k p n) (val k p (n - 1))):∃c i,run (ask O k) (kas_descPart n m p)=(c,i)/\i.Perm p/\1<=c/\c<=m/\Up O k i c:=by
 unfold kas_descPart;rw[run_bind];obtain⟨i,y,v,a,b,c,d,e,f⟩:=lB (m - (n+1)) (n+1) 0 p (by lia) (ia h h1 g) (Cq (by lia));have z:i.size=p.size:=b.size_eq;rw[a];dsimp only;by_cases u:v> 0
 ·rw[yIp u];obtain⟨q,j,t,s,x,o,l⟩:=we (m:=m) (by lia) (by lia) (by rw[lX];lia) (sJ (by lia) e f);exact⟨q,j,t,s.trans (cX.trans b),by lia,o,l⟩
 ·rw[yIn u];obtain⟨q,j,t,s,x,o,l⟩:=we (m:=m) (by lia) (by lia) (by lia) e;exact⟨q,j,t,s.trans b,by lia,o,l⟩
theorem CA{m:Nat}(P:1<=m)(hz:m<=p.size):∃c o,run (ask O k) (kas_count m p)=(c,o)/\o.Perm p/\1<=c/\c<=m/\Up O k o c:=by
 unfold kas_count;rw[run_bind];have I:Up O k p 1:=λi j l q=>by
  have:i=j:=by lia
  subst this;exact le_rfl _
 obtain⟨a,b,c⟩:=vA (m - 1) 1 (zcH _) I;have stop:run (ask O k) (kas_asc p (m - 1) 1)<m->O.lt (val k p (run (ask O k) (kas_asc p (m - 1) 1))) (val k p (run (ask O k) (kas_asc p (m - 1) 1) - 1))=true:=by
  have:∀(f n:Nat),run (ask O k) (kas_asc p f n)<n+f->O.lt (val k p (run (ask O k) (kas_asc p f n))) (val k p (run (ask O k) (kas_asc p f n) - 1))=true:=by
   intro f
   induction f with
   |zero=>intro n h;exact absurd h (zcm _)
   |succ f ih=>
    intro n h;by_cases e:O.lt (val k p n) (val k p (n - 1))=true
    ·have g:run (ask O k) (kas_asc p (f+1) n)=n:=by
      show run _ (if O.lt (val k p n) (val k p (n - 1))=true then _ else _)=_;rw[yIp e];rfl
     rw[g];exact e
    ·have g:run (ask O k) (kas_asc p (f+1) n)=run (ask O k) (kas_asc p f (n+1)):=by
      show run _ (if O.lt (val k p n) (val k p (n - 1))=true then _ else _)=_;rw[yIn e]
     rw[g] at h⊢;exact ih (n+1) (by lia)
  intro h;exact this (m - 1) 1 (by lia)
 generalize run (ask O k) (kas_asc p (m - 1) 1)=n at a b c stop;by_cases x:(n==m)=true
 ·rw[yIp x];exact⟨n,p,rfl,Array.Perm.refl _,a,by lia,c⟩
 ·rw[yIn x];have L:n≠m:=λz=>x (by rw[z];exact beq_self_eq_true _);have H:=xq (stop (by lia));by_cases g:n> 1
  ·rw[yIp g];show∃c o,run _ (if O.lt (val k p 0) (val k p (n - 1))=true then _ else _)=_/\_;by_cases v:O.lt (val k p 0) (val k p (n - 1))=true
   ·rw[yIp v];exact⟨n,p,rfl,Array.Perm.refl _,a,by lia,c⟩
   ·rw[yIn v];have all:∀i j,i<n->j<n->le O (val k p i) (val k p j):=λi j Q q=>iE (c i (n - 1) (by lia) (by lia)) (iE (m8 v) (c 0 j (by lia) q));have hd:Down O k (kas_rev p 0 n) n:=λi j l q=>by
     rw[val_rev (by lia),val_rev (by lia),yIp (by lia),yIp (by lia)];exact all _ _ (by lia) (by lia)
    obtain⟨E,s,G,F,C,y,u⟩:=kG (m:=m) a (by lia) (by rw[lX];lia) hd (by
     rw[val_rev (by lia),val_rev (by lia),yIn (by lia),yIp (by lia)];exact iE H (all _ _ (by lia) (by lia)))
    exact⟨E,s,G,F.trans cX,C,y,u⟩
  ·rw[yIn g];have t:n=1:=by lia
   subst t;obtain⟨E,s,G,F,C,y,u⟩:=kG (m:=m) (k:=k) (O:=O) (p:=p) (n:=1) (by lia) (by lia) hz (λi j l q=>by
    have:i=j:=by lia
    subst this;exact le_rfl _) H
   exact⟨E,s,G,F,C,y,u⟩
theorem mz{j:Nat}:∀(f l r:Nat),r<=l+f->l<=r->r<=j->(∀i,i<l->le O (val k p i) (val k p j))->(∀i,r<=i->i<j->le O (val k p j) (val k p i))->Up O k p j->
  ∃x,run (ask O k) (kas_place p j f l r)=x/\x<=j/\(∀i,i<x->le O (val k p i) (val k p j))/\∀i,x<=i->i<j->le O (val k p j) (val k p i)
 |0,l,r,h,hlr,hr,a,b,u=>by
  have:l=r:=by lia
  subst this;exact⟨l,rfl,hr,a,b⟩
 |f+1,l,r,h,hlr,hr,a,b,u=>by
  show∃x,run _ (if l≥r then _ else _)=x/\_;by_cases e:l≥r
  ·rw[yIp e];have:l=r:=by lia
   subst this;exact⟨l,rfl,hr,a,b⟩
  ·rw[yIn e];show∃x,run _ (if O.lt (val k p j) (val k p ((l+r) / 2))=true then _ else _)=x/\_;by_cases g:O.lt (val k p j) (val k p ((l+r) / 2))=true
   ·rw[yIp g];exact mz f l ((l+r) / 2) (by lia) (by lia) (by lia) a (λi c m=>iE (xq g) (u _ _ c m)) u
   ·rw[yIn g];exact mz f ((l+r) / 2+1) r (by lia) (by lia) hr (λi c=>iE (u _ _ (show i<=(l+r) / 2 by lia) (by lia)) (m8 g)) b u
theorem vX{j d:Nat}(c:j<p.size)(hd:d<=j)(x:Nat):val k (bubble p j d) x=if x=j - d then val k p j else if j - d<x/\x<=j then val k p (x - 1) else val k p x:=by
 have a:∀y,val k p y=k ((p[y]?).getD 0):=λy=>by unfold val;rw[jj]
 rw[a j,a (x - 1),a x];unfold val;rw[jj,getElem?_bubble c d hd];split
 ·rfl
 ·split<;>rfl
theorem CL:∀(f j:Nat)(p:Array Nat),1<=j->j+f=p.size->Up O k p j->∃c,run (ask O k) (kas_bin f p j)=c/\c.Perm p/\Up O k c p.size
 |0,j,p,e,h,u=>⟨p,rfl,Array.Perm.refl _,by rw[<-h];exact u⟩
 |f+1,j,p,e,h,u=>by
  show∃c,run _ ((kas_place p j j 0 j).bind _)=c/\_;rw[run_bind];obtain⟨x,ex,t,a,b⟩:=mz (p:=p) (j:=j) j 0 j (by lia) (by lia) (zcH _) (λi z=>by lia) (λi e v=>by lia) u;rw[ex];have l:Up O k (bubble p j (j - x)) (j+1):=λi s m n=>by
   rw[vX (by lia) (by lia),vX (by lia) (by lia)]
   repeat' split
   all_goals first|exact le_rfl _|(exact u _ _ (by lia) (by lia))|(exact a _ (by lia))|(exact b _ (by lia) (by lia))|(exfalso;lia)
  obtain⟨c,q,o,g⟩:=CL f (j+1) (bubble p j (j - x)) (by lia) (by rw[bubble_size];lia) l;exact⟨c,q,o.trans (bubble_perm _ _ _),by rw[bubble_size] at g;exact g⟩
theorem DZ{n:Nat}(l:1<=n):∃p:Array Nat,run (ask O k) (kas_sort n)=p/\p.Perm (List.toArray (zcK n))/\Up O k p n:=by
 unfold kas_sort;rw[run_bind];have i:(List.toArray (zcK n)).size=n:=by simp
 obtain⟨c,f,a,b,s,t,u⟩:=CA (O:=O) (k:=k) (p:=List.toArray (zcK n)) l (by lia);rw[a];dsimp only;have j:f.size=n:=by rw[b.size_eq,i]
 by_cases e:c<n
 ·rw[yIp e];have m:max c 1=c:=by lia
  rw[m];obtain⟨h,q,o,g⟩:=CL (n - c) c f s (by lia) u;exact⟨h,q,o.trans b,by rw[j] at g;exact g⟩
 ·rw[yIn e];have:c=n:=by lia
  subst this;exact⟨f,rfl,b,u⟩
end
end Srt
namespace M5
open PySem PySem.Spec PyProof.Rows
section
variable {prog:yaj}{w:yak}{A:yal}{E:yai->yah->Prop}{s:yah}
theorem vZ{h:Heap}{a:Addr}{o:Obj}{es:Array (Int×yai)}{ep:Nat}{t:SetTable}(c:Array (Int×yai))(t':SetTable)(f:h.get? a=some o)(hd:o.data=.set es ep t):
  (h.update a (Obj.putSet c t')).get? a=some {o with data:=.set c (ep+1) t'}:=by
 have e:=zay (Obj.putSet c t') f;rw[putSet_of c t' hd] at e;exact e rfl
end
noncomputable def bU(led:Bool):Obj:={cls:=.type "set",dict:=none,data:=.set #[] 0 (.fresh 0 0 led)}
section
variable {prog:yaj}{w:yak}{A:yal}{E:yai->yah->Prop}{s:yah}
theorem D5(a:yai){Q₁:yai->yah->Prop}(h:Q₁ (.ref s.heap.objs.size) {s with heap:=s.heap.push (bU (!w.params.followText "set-order"))}):
  codeAny (model prog w) A (.call (.builtin "set.__new__") ⟨[.type "set",a],[]⟩) (wants Q₁ E) s:=by
 refine codeAny_of_tree ?_;show yar _ A.in1 (do checkBuiltinCall "set.__new__" ⟨[.type "set",a],[]⟩;again (.builtin "set.__new__" ⟨[.type "set",a],[]⟩)) _ _ s;refine yaa (wpAny_of_eq (PySem.F.newCall_set_1 a) (yab ⟨plainId_quiet PySem.F.plain_set_new _,codeAny_builtin PySem.F.entry_set_new ?_⟩));rw[Around.under_plainId PySem.F.plain_set_new _];unfold Builtin.«set.__new__» Builtin.Frozenset.newClass;have c:=sub_set_self;obtain⟨e,g,d,tk,os⟩:=s;dsimp only
 wp_walk
 refine wpAny_askSetting (yab ?_);dsimp only;simp only[newObj];refine yaa (wpAny_alloc (yab ?_));exact yab h
end
namespace F
theorem rR:Manifest.owners.lookup (String.ofList ['r','o','t','a','r','e','t','i','_','t','e','s'].reverse)=some Manifest.sig_set_iterator:=by kernel_rfl
theorem EJ:Manifest.owners.lookup (String.ofList ['t','e','s'].reverse)=some Manifest.sig_set:=by kernel_rfl
theorem slot_next:Slot "set_iterator" "__next__" "set_iterator.__next__":=
 .of (owner:="set_iterator") (n:="__next__") (by rw[typeLookup_type,builtinLookup_eq_fast];kernel_rfl) (by decide+kernel) (by decide+kernel) (by decide+kernel)
  (by first|exact .inl (by decide+kernel)|exact .inr (by decide+kernel)) (by rw[isSubtype_type];kernel_rfl)
theorem entry_next:entryFor table "set_iterator.__next__"=some Builtin.«set_iterator.__next__»:=entryFor_of_tree (by kernel_rfl)
theorem args_next(a:yai):argsOk "set_iterator.__next__" ⟨[a],[]⟩:=by
 unfold argsOk;rw[signature?_of (id:="set_iterator.__next__") (n:=['_','_','t','x','e','n','_','_']) (o:=['r','o','t','a','r','e','t','i','_','t','e','s']) (by kernel_rfl) rR];kernel_rfl
theorem oV:Slot "set_iterator" "__iter__" "set_iterator.__iter__":=
 .of (owner:="set_iterator") (n:="__iter__") (by rw[typeLookup_type,builtinLookup_eq_fast];kernel_rfl) (by decide+kernel) (by decide+kernel) (by decide+kernel)
  (by first|exact .inl (by decide+kernel)|exact .inr (by decide+kernel)) (by rw[isSubtype_type];kernel_rfl)
theorem zq(a:yai):argsOk "set_iterator.__iter__" ⟨[a],[]⟩:=by
 unfold argsOk;rw[signature?_of (id:="set_iterator.__iter__") (n:=['_','_','r','e','t','i','_','_']) (o:=['r','o','t','a','r','e','t','i','_','t','e','s']) (by kernel_rfl) rR];kernel_rfl
theorem vd:entryFor table "set_iterator.__iter__"=some Builtin.«dict_keyiterator.__iter__»:=
 entryFor_alias (id':="dict_keyiterator.__iter__") (by kernel_rfl) (by first|rfl|decide+kernel|(unfold String.splitOn;simp+decide [String.splitOnAux])) (by decide+kernel) (by kernel_rfl)
theorem lU:Slot "set" "__iter__" "set.__iter__":=
 .of (owner:="set") (n:="__iter__") (by rw[typeLookup_type,builtinLookup_eq_fast];kernel_rfl) (by decide+kernel) (by decide+kernel) (by decide+kernel)
  (by first|exact .inl (by decide+kernel)|exact .inr (by decide+kernel)) (by rw[isSubtype_type];kernel_rfl)
theorem vB(a:yai):argsOk "set.__iter__" ⟨[a],[]⟩:=by
 unfold argsOk;rw[signature?_of (id:="set.__iter__") (n:=['_','_','r','e','t','i','_','_']) (o:=['t','e','s']) (by kernel_rfl) EJ];kernel_rfl
theorem sH:entryFor table "set.__iter__"=some Builtin.«frozenset.__iter__»:=
 entryFor_alias (id':="frozenset.__iter__") (by kernel_rfl) (by first|rfl|decide+kernel|(unfold String.splitOn;simp+decide [String.splitOnAux])) (by decide+kernel) (by kernel_rfl)
end F
noncomputable def K6(first:yai)(i:Nat)(a:Addr)(n ep:Nat):Obj:={cls:=.type "set_iterator",data:=.fields #[first,rawInt i,.ref a,rawInt n,rawInt ep]}
def iB(h:Heap)(I:Addr)(first:yai)(i:Nat)(a:Addr)(n ep:Nat):Prop:=∃o,h.get? I=some o/\o.cls=.type "set_iterator"/\o.data=.fields #[first,rawInt i,.ref a,rawInt n,rawInt ep]
def t9(h:Heap)(a:Addr)(es:Array (Int×yai))(ep:Nat)(t:SetTable):Prop:=∃o,h.get? a=some o/\o.cls=.type "set"/\o.data=.set es ep t
theorem iB.at{h h':Heap}{I a:Addr}{f:yai}{i n ep:Nat}(x:iB h I f i a n ep)(e:∀o,h.get? I=some o->h'.get? I=some o):iB h' I f i a n ep:=let⟨o,ho,r⟩:=x;⟨o,e _ ho,r⟩
theorem t9.at{h h':Heap}{a:Addr}{es:Array (Int×yai)}{ep:Nat}{t:SetTable}(x:t9 h a es ep t)(e:∀o,h.get? a=some o->h'.get? a=some o):t9 h' a es ep t:=let⟨o,ho,r⟩:=x;⟨o,e _ ho,r⟩
section
variable {prog:yaj}{w:yak}{A:yal}{E:yai->yah->Prop}{s:yah}
theorem iB.typeIs{I a:Addr}{f:yai}{i n ep:Nat}(x:iB s.heap I f i a n ep):s.TypeIs (.ref I) "set_iterator":=let⟨o,ho,hc,_⟩:=x;⟨o,ho,hc⟩
theorem t9.typeIs{a:Addr}{es:Array (Int×yai)}{ep:Nat}{t:SetTable}(x:t9 s.heap a es ep t):s.TypeIs (.ref a) "set":=let⟨o,ho,hc,_⟩:=x;⟨o,ho,hc⟩
theorem vC{src:Source}{n:Nat}{Q:Nat->yah->Prop}(a:n≠0)(h:∀i d,i<n->Q i {s with drawn:=d}):yar (model prog w) A (choose src n) Q E s:=by
 intro e p c;show Sem.wp _ _ (.choose src n .pure) _ _ _ _;rw[Sem.wp_choose];exact⟨a,h _ _ (zcL _ (Nat.pos_of_ne_zero a))⟩
theorem iN{α:Type}:∀{l:List α}{i:Nat}(h:i<l.length),(l[i]::l.eraseIdx i).Perm l
 |x::r,0,h=>.refl _
 |x::r,i+1,h=>by
  have a:i<r.length:=Nat.lt_of_succ_lt_succ h;show(r[i]::x::r.eraseIdx i).Perm (x::r);exact(List.Perm.swap ..).trans ((iN (Nat.lt_of_succ_lt_succ h)).cons x)
theorem tw{α:Type}:∀(n:Nat)(a:List α){s:yah}{Q:List α->yah->Prop},a.length=n->(∀c d,c.Perm a->Q c {s with drawn:=d})->yar (model prog w) A (drawOrder n a) Q E s
 |0,a,s,Q,hl,h=>by
  obtain rfl:a=[]:=zaa hl;unfold drawOrder;exact yab (h [] s.drawn .nil)
 |n+1,[],s,Q,hl,h=>by cases hl
 |n+1,x::r,s,Q,hl,h=>by
  unfold drawOrder;refine yaa (vC (by simp) λi d e=>?_);rw[zak e];dsimp only;refine yaa (tw n _ ?_ λc g f=>?_)
  ·rw[List.length_eraseIdx,yIp e,hl];rfl
  ·refine yab (h _ g ((f.cons _).trans ?_));exact iN e
theorem wZ{α:Type}(next:Nat->Nat):∀(n k:Nat)(left:List α)(out:Array α),left.length=n->(pickOrder.go next n k left out).toList.Perm (out.toList++left)
 |0,k,left,out,h=>by
  obtain rfl:left=[]:=zaa h;unfold pickOrder.go;simp
 |n+1,k,left,out,h=>by
  unfold pickOrder.go;have a:next k % left.length<left.length:=zcL _ (by lia)
  rw[zak a];dsimp only;refine(wZ next n (k+1) _ _ ?_).trans ?_
  ·rw[List.length_eraseIdx,yIp a,h];rfl
  ·rw[Array.toList_push,zbb];exact(iN a).append_left _
theorem yD{α:Type}(next:Nat->Nat)(a:Array α):(pickOrder next a).toList.Perm a.toList:=by
 unfold pickOrder;have:=wZ next a.size 0 a.toList #[] zaI
 simpa using this
end
end M5
namespace M5
open PySem PySem.Spec PyProof.Rows
section
variable {prog:yaj}{w:yak}{A:yal}{E:yai->yah->Prop}{s:yah}
theorem next_item{I a:Addr}{sl i n ep nx:Nat}{es:Array (Int×yai)}{t:SetTable}{x:yai}{Q:Option yai->yah->Prop}(c:iB s.heap I (rawInt sl) i a n ep)(z:t9 s.heap a es ep t)(u:t.fits es.size=true)(q:es.size=n)(m:∀{A':yal}{l:Option (yai×Nat)->yah->Prop}{G:yai->yah->Prop},l (some (x,nx)) s->yar (model prog w) A' (setNext a sl i ep) l G s)(C:∀h',iB h' I (rawInt nx) (i+1) a n ep->Heap.SameBut I s.heap h'->Q (some x) {s with heap:=h'}):yar (model prog w) A (pyNext (.ref I)) Q E s:=by
 obtain⟨o,h,y,hd⟩:=id c;obtain⟨os,g,v,j⟩:=id z;unfold pyNext;refine yaa (wpAny_attempt (wpAny_callSpecial?_slot (name:=Str.ofString "__next__") c.typeIs F.slot_next (wpAny_call_entry F.slot_next c.typeIs F.entry_next ?_ (F.args_next _))));unfold Builtin.«set_iterator.__next__»;refine yaa (wpAny_of_eq (a:=(Value.ref I,[])) rfl ?_);refine yaa (wpAny_fieldsOf h hd ?_);dsimp only[rawInt];refine yaa (wpAny_setEntries_of g j u ?_);rw[yIn (by rw[q];simp)];refine yaa (m ?_);dsimp only;refine yaa (wpAny_setField h hd (by simp) ?_);have f:=zay (Obj.mapFields (·.setIfInBounds 0 (rawInt nx))) h (Obj.isFreed_of_fields (Obj.data_mapFields hd _));have e:=Obj.data_mapFields hd (·.setIfInBounds 0 (rawInt nx));refine yaa (wpAny_setField f e (by simp) ?_);refine yab ⟨x,rfl,yab (C _ ?_ ((Heap.SameBut.update ..).trans (Heap.SameBut.update ..)))⟩;exact⟨_,zay _ f (Obj.isFreed_of_fields (Obj.data_mapFields e _)),(Obj.cls_mapFields ..).trans ((Obj.cls_mapFields ..).trans y),by
  rw[Obj.data_mapFields e];simp[rawInt]⟩
theorem next_end{I a:Addr}{sl i n ep:Nat}{es:Array (Int×yai)}{t:SetTable}{Q:Option yai->yah->Prop}(j:A.handled=none)(c:iB s.heap I (rawInt sl) i a n ep)(z:t9 s.heap a es ep t)(v:t.fits es.size=true)(u:es.size=n)(q:∀{A':yal}{l:Option (yai×Nat)->yah->Prop}{G:yai->yah->Prop},l none s->yar (model prog w) A' (setNext a sl i ep) l G s)(C:∀h',Heap.ExtBut I s.heap h'->Q none {s with heap:=h'}):yar (model prog w) A (pyNext (.ref I)) Q E s:=by
 obtain⟨o,h,L,hd⟩:=id c;obtain⟨os,f,x,g⟩:=id z;unfold pyNext;refine yaa (wpAny_attempt (wpAny_callSpecial?_slot (name:=Str.ofString "__next__") c.typeIs F.slot_next (wpAny_call_entry F.slot_next c.typeIs F.entry_next ?_ (F.args_next _))));unfold Builtin.«set_iterator.__next__»;refine yaa (wpAny_of_eq (a:=(Value.ref I,[])) rfl ?_);refine yaa (wpAny_fieldsOf h hd ?_);dsimp only[rawInt];refine yaa (wpAny_setEntries_of f g v ?_);rw[yIn (by rw[u];simp)];refine yaa (q ?_);dsimp only;refine yaa (wpAny_setField h hd (by simp) ?_);refine yaa ?_;simp only[newExc,newTuple];refine yaa (yae ?_ (by size_fits));refine yaa (m:=firstArgMember _ _) (wpAny_of_eq (a:=Value.none) (by first|rfl|(simp only[firstArgMember];rfl)) ?_);refine yae ?_ (by size_fits);simp only[raiseNew];refine yaa (wpAny_handled ?_)
 first|rw[show A.in1.handled=none from j]|rw[j]
 refine yaa (yab (wpAny_throw ?_));refine yaa (wpAny_isInstance (T:="StopIteration") (b:=true) ⟨_,zaJ _ rfl,rfl⟩ isSubtype_stop ?_);refine yab (C _ (Heap.ExtBut.push (Heap.ExtBut.push ?_ _) _));exact λb H y e=>(zar _ _ (Ne.symm y)).trans e
theorem uQ{I T a:Addr}{i n ep pl:Nat}{tk:Tok}{es:Array (Int×yai)}{t:SetTable}{ps:Array yai}{m:Int}{x:yai}{Q:Option yai->yah->Prop}(c:iB s.heap I (.ref T) i a n ep)(H:t9 s.heap a es ep t)(l:t.fits es.size=true)(u:es.size=n)(G:s.heap.IsTuple T ps)(q:ps[i]? =some (.int pl tk))(v:es[pl]? =some (m,x))(L:∀h',iB h' I (.ref T) (i+1) a n ep->Heap.SameBut I s.heap h'->Q (some x) {s with heap:=h'}):yar (model prog w) A (pyNext (.ref I)) Q E s:=by
 obtain⟨o,h,C,hd⟩:=id c;obtain⟨os,e,z,f⟩:=id H;obtain⟨O,g,y,nt,j⟩:=id G;unfold pyNext;refine yaa (wpAny_attempt (wpAny_callSpecial?_slot (name:=Str.ofString "__next__") c.typeIs F.slot_next (wpAny_call_entry F.slot_next c.typeIs F.entry_next ?_ (F.args_next _))));unfold Builtin.«set_iterator.__next__»;refine yaa (wpAny_of_eq (a:=(Value.ref I,[])) rfl ?_);refine yaa (wpAny_fieldsOf h hd ?_);dsimp only[rawInt];refine yaa (wpAny_setEntries_of e f l ?_);rw[yIn (by rw[u];simp)];refine yaa (wpAny_seqItems g j ?_);dsimp only;rw[zbk,q];dsimp only;refine yaa ?_;unfold setNextDrawn;refine yaa (wpAny_setState_of e f l ?_);dsimp only;rw[yIn (by simp),zbk,v];dsimp only;refine yab ?_;refine yaa (wpAny_setField h hd (by simp) ?_);refine yab ⟨x,rfl,yab (L _ ?_ (Heap.SameBut.update ..))⟩;exact⟨_,zay _ h (Obj.isFreed_of_fields (Obj.data_mapFields hd _)),(Obj.cls_mapFields ..).trans C,by
  rw[Obj.data_mapFields hd];simp[rawInt]⟩
theorem yL{I T a:Addr}{i n ep:Nat}{es:Array (Int×yai)}{t:SetTable}{ps:Array yai}{Q:Option yai->yah->Prop}(u:A.handled=none)(c:iB s.heap I (.ref T) i a n ep)(L:t9 s.heap a es ep t)(z:t.fits es.size=true)(y:es.size=n)(H:s.heap.IsTuple T ps)(x:ps[i]? =none)(O:∀h',Heap.ExtBut I s.heap h'->Q none {s with heap:=h'}):yar (model prog w) A (pyNext (.ref I)) Q E s:=by
 obtain⟨o,j,U,hd⟩:=id c;obtain⟨os,g,G,q⟩:=id L;obtain⟨P,f,C,nt,l⟩:=id H;unfold pyNext;refine yaa (wpAny_attempt (wpAny_callSpecial?_slot (name:=Str.ofString "__next__") c.typeIs F.slot_next (wpAny_call_entry F.slot_next c.typeIs F.entry_next ?_ (F.args_next _))));unfold Builtin.«set_iterator.__next__»;refine yaa (wpAny_of_eq (a:=(Value.ref I,[])) rfl ?_);refine yaa (wpAny_fieldsOf j hd ?_);dsimp only[rawInt];refine yaa (wpAny_setEntries_of g q z ?_);rw[yIn (by rw[y];simp)];refine yaa (wpAny_seqItems f l ?_);dsimp only;rw[zbk,x];dsimp only;refine yaa (wpAny_setField j hd (by simp) ?_);have h:=zay (Obj.mapFields (·.setIfInBounds 0 (rawInt 0))) j (Obj.isFreed_of_fields (Obj.data_mapFields hd _));refine yaa (wpAny_setField h (Obj.data_mapFields hd _) (by simp) ?_);refine yaa ?_;simp only[newExc,newTuple];refine yaa (yae ?_ (by size_fits));refine yaa (m:=firstArgMember _ _) (wpAny_of_eq (a:=Value.none) (by first|rfl|(simp only[firstArgMember];rfl)) ?_);refine yae ?_ (by size_fits);simp only[raiseNew];refine yaa (wpAny_handled ?_)
 first|rw[show A.in1.handled=none from u]|rw[u]
 refine yaa (yab (wpAny_throw ?_));refine yaa (wpAny_isInstance (T:="StopIteration") (b:=true) ⟨_,zaJ _ rfl,rfl⟩ isSubtype_stop ?_);refine yab (O _ (Heap.ExtBut.push (Heap.ExtBut.push ?_ _) _));exact λb S v e=>(zar _ _ (Ne.symm v)).trans ((zar _ _ (Ne.symm v)).trans e)
theorem xw{I a:Addr}{f:yai}{i n ep:Nat}{Q:yai->yah->Prop}(c:iB s.heap I f i a n ep)(h:Q (.ref I) s):yar (model prog w) A (pyIter (.ref I)) Q E s:=by
 refine wpAny_pyIter_slot c.typeIs F.oV (wpAny_call_entry F.oV c.typeIs F.vd ?_ (F.zq _));show yar _ _ (ret (.ref I)) _ _ s;exact yab ⟨_,rfl,"set_iterator",_,c.typeIs,F.slot_next.lookup,h⟩
theorem zS{I a:Addr}{ep:Nat}{es:Array (Int×yai)}{t:SetTable}{c:List yai}{sl:Nat->Nat}(S:A.handled=none)(n:a≠I)(L:t.fits es.size=true)(G:c.length=es.size)(O:∀i x,c[i]? =some x->∀{A':yal}{s':yah}{m:Option (yai×Nat)->yah->Prop}{C:yai->yah->Prop},t9 s'.heap a es ep t->m (some (x,sl (i+1))) s'->yar (model prog w) A' (setNext a (sl i) i ep) m C s')(U:∀{A':yal}{s':yah}{m:Option (yai×Nat)->yah->Prop}{C:yai->yah->Prop},t9 s'.heap a es ep t->m none s'->yar (model prog w) A' (setNext a (sl c.length) c.length ep) m C s'):
  Walks prog w A I [I,a] [I] c.length (λi v=>c[i]? =some v) (λi h=>iB h I (rawInt (sl i)) i a es.size ep/\t9 h a es ep t) where
 sub:=λb f=>by simp at f;simp[f]
 frame:=λ_ _ _ x H=>⟨x.1.at λo e=>H I (by simp) o e,x.2.at λo e=>H a (by simp) o e⟩
 item:=λi s Q E P x l=>by
  have F:c[i]? =some c[i]:=zak P;refine next_item x.1 x.2 L rfl (O i _ F x.2) λu j g=>?_;exact l _ u s.toks F ⟨j,x.2.at λo e=>(g.2 a n).trans e⟩ λb o f y=>g.extBut b o (λz=>f (by simp[z])) y
 done:=λs Q E x l=>next_end S x.1 x.2 L rfl (U x.2) λu q=>l u s.toks λb o f y=>q b o (λz=>f (by simp[z])) y
 self:=λ_ _ _ _ x l=>xw x.1 l
theorem HB{I T a:Addr}{ep:Nat}{es:Array (Int×yai)}{t:SetTable}{ps:List Nat}{c:List yai}(P:A.handled=none)(q:a≠I)(S:T≠I)(G:t.fits es.size=true)(O:c.length=ps.length)(L:∀i (h:i<ps.length)(U:i<c.length),∃k,es[ps[i]]? =some (k,c[i])):
  Walks prog w A I [I,a,T] [I] c.length (λi v=>c[i]? =some v) (λi h=>iB h I (.ref T) i a es.size ep/\t9 h a es ep t/\h.IsTuple T (ps.map λ(i:Nat)=>rawInt i).toArray) where
 sub:=λb g=>by simp at g;simp[g]
 frame:=λ_ _ _ x j=>⟨x.1.at λo e=>j I (by simp) o e,x.2.1.at λo e=>j a (by simp) o e,x.2.2.at λo e=>j T (by simp) o e⟩
 item:=λi s Q E F x n=>by
  have H:c[i]? =some c[i]:=zak F;have m:i<ps.length:=by lia
  obtain⟨k,j⟩:=L i m F;refine uQ (pl:=ps[i]) (tk:=0) x.1 x.2.1 G rfl x.2.2 (by simp[m,rawInt]) j λy l f=>?_;exact n _ y s.toks H ⟨l,x.2.1.at λo e=>(f.2 a q).trans e,x.2.2.at λo e=>(f.2 T S).trans e⟩ λb o g C=>f.extBut b o (λz=>g (by simp[z])) C
 done:=λs Q E x n=>yL P x.1 x.2.1 G rfl x.2.2 (by simp[O]) λy u=>n y s.toks λb o g C=>u b o (λz=>g (by simp[z])) C
 self:=λ_ _ _ _ x n=>xw x.1 n
theorem lG{Q:Bool->yah->Prop}(h:Q (w.params.followText "set-order") s):yar (model prog w) A setsByText Q E s:=by
 unfold setsByText;exact yaa (wpAny_askSetting (yab h))
theorem GY{a:Addr}{ep i:Nat}{es:Array (Int×yai)}{t:SetTable}{Q:Option (yai×Nat)->yah->Prop}(g:w.params.followText "set-order"=true)(j:t9 s.heap a es ep t)(f:t.fits es.size=true)(h:Q (((pickOrder (w.params.setOrder a ep) es)[i]?).map λe=>(e.2,0)) s):yar (model prog w) A (setNext a 0 i ep) Q E s:=by
 obtain⟨o,c,l,hd⟩:=j;unfold setNext;refine yaa (wpAny_setState_of c hd f ?_);dsimp only;refine yaa (lG ?_);rw[yIp g];rw[yIn (by simp)];refine yaa ?_;unfold setWalk;refine yaa (wpAny_setState_of c hd f ?_);dsimp only;refine yaa (lG ?_);rw[yIp g];refine yaa (wpAny_askSetting (yab ?_));exact yab h
theorem pull{α:Type}(es:Array α)(ps:List Nat)(h:ps.Perm (zcK es.size)):∃l:List α,l.length=ps.length/\l.Perm es.toList/\∀i (h:i<ps.length)(e:i<l.length),es[ps[i]]? =some l[i]:=by
 have all:∀p∈ps,p<es.size:=λp c=>zca.mp (h.mem_iff.mp c);have key:∀a:List Nat,(∀p∈a,p<es.size)->∃l:List α,l.length=a.length/\l=a.filterMap (λi=>es[i]?)/\∀i (h:i<a.length)(e:i<l.length),es[a[i]]? =some l[i]:=by
  intro a
  induction a with
  |nil=>exact λ_=>⟨[],rfl,rfl,λi h=>by simp at h⟩
  |cons q r ih=>
   intro n;obtain⟨l,j,g,f⟩:=ih λp c=>n p (zaz _ c);have m:=n q zaK;refine⟨es[q]::l,by simp[j],by rw[zaD,zai m,g],λi h e=>?_⟩;cases i with
   |zero=>simp[m]
   |succ i=>exact f i (by simpa using h) (by simpa using e)
 obtain⟨l,j,g,f⟩:=key ps all;refine⟨l,j,?_,f⟩;rw[g,<-filterMap_getElem?_range es];exact h.filterMap _
end
end M5
namespace L2
open PySem PySem.Spec PyProof.Rows
theorem Inv.drw{X:Cx}{a:List (Addr×Obj)}{c:List (Option V)}{H:Hp}{s:yah}(I:Inv X a c H s)(d:Drawn):Inv X a c H {s with drawn:=d}:=
 ⟨I.ok,I.os,I.bare,I.base,I.loc,I.cell,I.free,I.gj,I.pin,I.hok,I.len⟩
end L2
namespace M
open PySem PySem.Spec PyProof.Rows L2
section
variable {K:yaI}
noncomputable def gv(ks:List Key)(ds:List D)(k:Key):Option D:=((ks.zip ds).find? λp=>decide (p.1=k)).map (·.2)
noncomputable def kR(ks:List Key)(ds:List D)(k:Key)(d:D):MO:=if(ks.any λj=>decide (j=k))=true then .dct ks ((ks.zip ds).map λp=>if p.1=k then d else p.2) else .dct (ks++[k]) (ds++[d])
theorem xy{w:Wd}{k:Key}{d:D}:∀{kvs:List (Key×V)}{ds:List D},ak K w ds (kvs.map (·.2))->gv (kvs.map (·.1)) ds k=some d->∃v,gA kvs k=some v/\Rep K w d v
 |[],ds,h,e=>by simp[gv] at e
 |(j,u)::r,ds,h,e=>by
  cases ds with
  |nil=>simp[gv] at e
  |cons x ds=>
   simp only[zch,ak] at h;obtain⟨i,l,g,f,c⟩:=h;injection g with e1 e2;subst e1;subst e2;unfold gv at e;unfold gA;by_cases a:j=k
   ·rw[zch,zaN,List.find?_cons_of_pos (by simpa using a)] at e;rw[List.find?_cons_of_pos (by simpa using a)];cases e;exact⟨u,rfl,f⟩
   ·rw[zch,zaN,List.find?_cons_of_neg (by simpa using a)] at e;rw[List.find?_cons_of_neg (by simpa using a)];exact xy (kvs:=r) c e
theorem rH{w:Wd}{k:Key}{d:D}{v:V}(g:Rep K w d v):∀{kvs:List (Key×V)}{ds:List D},ak K w ds (kvs.map (·.2))->
  ak K w (((kvs.map (·.1)).zip ds).map λp=>if p.1=k then d else p.2) ((kvs.map λc=>if c.1=k then(c.1,v) else c).map (·.2))
 |[],ds,h=>by
  cases ds with
  |nil=>exact .nil
  |cons x ds=>simp only[zcr,ak] at h;obtain⟨_,_,z,_⟩:=h;cases z
 |(j,u)::r,ds,h=>by
  cases ds with
  |nil=>simp only[zch,ak] at h;cases h
  |cons x ds=>
   simp only[zch,ak] at h;obtain⟨l,m,i,f,e⟩:=h;injection i with e1 e2;subst e1;subst e2;simp only[zch,zaN];refine .cons ?_ (rH g e);by_cases a:j=k
   ·rw[yIp a,yIp a];exact g
   ·rw[yIn a,yIn a];exact f
theorem rM{w:Wd}{k:Key}{d:D}{v:V}{kvs:List (Key×V)}{ds:List D}(g:Rep K w d v)(h:ak K w ds (kvs.map (·.2))):jw K w (kR (kvs.map (·.1)) ds k d) (.dK (putK kvs k v)):=by
 unfold kR putK;have e:((kvs.map (·.1)).any λj=>decide (j=k))=(kvs.any λa=>decide (a.1=k)):=by
  rw[zcs];rfl
 rw[e];by_cases c:(kvs.any λa=>decide (a.1=k))=true
 ·rw[yIp c,yIp c];refine⟨_,rfl,?_,rH g h⟩;rw[zct];refine zaF λa _=>?_;show(if a.1=k then(a.1,v) else a).1=a.1;split<;>rfl
 ·rw[yIn c,yIn c];refine⟨_,rfl,by simp,?_⟩;rw[zbS];exact h.snoc g
theorem J7{w:Wd}{H:Hp}{S:aA}{p:Nat}{v:V}{ks:List Key}{ds:List D}(ok:Ok K w H S)(h:Rep K w (.loc p) v)(e:S[p]? =some (some (.dct ks ds))):
  ∃a kvs,v=.ref a/\w.r p=some a/\H a=some (.dK kvs)/\kvs.map (·.1)=ks/\ak K w ds (kvs.map (·.2)):=by
 simp only[Rep] at h;obtain⟨a,c,rfl⟩:=h;obtain⟨m,u,f,l,j,kvs,rfl,i,g⟩:=ok.live p _ e;rw[c] at f;cases f;exact⟨a,kvs,rfl,c,j,i,g⟩
end
section
variable {X:Cx}{e o i value:Expr}{p p2 pos pos2 pos' pc pu:Pos}
theorem Me:PY X (unaryOp .USub) (λx S Q=>∃i,x=.int i/\Q (.dat (.int (-i))) S):=⟨m1 HC λx H Q h=>by
 obtain⟨w,d,S,c,ok,a,⟨i,rfl,q⟩,bk⟩:=h;exact⟨i,bX a rfl,bk.dat .refl ok .int q⟩⟩
end
section
variable {K:yaI}
theorem MS{w:Wd}{H:Hp}{S:aA}{m:Nat}{ds:List D}(k:Ok K w H S)(e:S[m]? =some (some (.lst ds))):∃i,w.le i/\Ok K i H (S.set m none)/\∀v,Rep K w (.loc m) v->Rep K i (.lst ds) v:=by
 obtain⟨a,u,C,O,L,c,rfl,I⟩:=k.live m _ e;have le:w.le ⟨upd w.B a (.lst c),w.r⟩:=⟨al O,λ_ _ e=>e⟩
 have at_:∀n o,(S.set m none)[n]? =some (some o)->n≠m/\S[n]? =some (some o):=λn o z=>by
  by_cases q:m=n
  ·subst q;rw[zbc] at z;simp at z
  ·rw[zaB q] at z;exact⟨λy=>q y.symm,z⟩
 refine⟨⟨upd w.B a (.lst c),w.r⟩,le,⟨λb o z=>?_,λn o z=>?_,λn j o s F E z=>?_,λn g=>k.top n (by rw[zbT] at g;exact g)⟩,λv t=>?_⟩
 ·by_cases x:b=a
  ·subst x;have z:upd w.B b (.lst c) b=some o:=z;rw[bx] at z;rw[L];exact z
  ·have z:upd w.B a (.lst c) b=some o:=z;rw[aN x] at z;exact k.base b o z
 ·obtain⟨g,z⟩:=at_ n o z;obtain⟨h,G,f,U,Q,P⟩:=k.live n o z;have l:h≠a:=λy=>g (k.inj n m _ _ z e (by rw[f,C,y]));exact⟨h,G,f,by show upd w.B a _ h=none;rw[aN l];exact U,Q,P.le le⟩
 ·exact k.inj n j o s (at_ n o F).2 (at_ j s E).2 z
 ·simp only[Rep] at t⊢;obtain⟨h,f,rfl⟩:=t;rw[C] at f;cases f;exact⟨a,c,rfl,bx,I.le le⟩
noncomputable def sb(m:Nat)(e:D):D->D
 |.loc n=>if n=m then e else .loc n
 |d=>d
theorem ur{w c:Wd}{m:Nat}{ds:List D}(le:w.le c)(f:∀v,Rep K w (.loc m) v->Rep K c (.lst ds) v):∀{es:List D}{a:List V},ak K w es a->ak K c (es.map (sb m (.lst ds))) a
 |[],a,h=>by simp only[ak] at h;subst h;exact .nil
 |d::es,a,h=>by
  simp only[ak] at h;obtain⟨x,r,rfl,g,i⟩:=h;refine .cons ?_ (ur le f i);cases d with
  |loc n=>
   show Rep K c (if n=m then _ else _) x;by_cases e:n=m
   ·rw[yIp e];subst e;exact f x g
   ·rw[yIn e];exact g.le le
  |_=>exact g.le le
end
end M
namespace M6
open PySem PySem.Spec PyProof.Rows
mutual
noncomputable def bF:yam->Bool
 |.int _=>true
 |.str x=>(PyData.str x).canLay0
 |.tuple xs=>cL xs
 |_=>false
noncomputable def cL:List yam->Bool
 |[]=>true
 |x::xs=>bF x&&cL xs
end
mutual
noncomputable def br(w:yak):yam->Int
 |.int i=>hashInt i
 |.str x=>hashStr w x
 |.tuple xs=>reduceHash (Builtin.Tuple.tupleHashOf (gO w xs))
 |_=>0
noncomputable def gO(w:yak):List yam->List Int
 |[]=>[]
 |x::xs=>br w x::gO w xs
end
mutual
noncomputable def NW:yam->Nat
 |.int _=>1
 |.str _=>1
 |.tuple xs=>nA xs+1
 |_=>0
noncomputable def nA:List yam->Nat
 |[]=>0
 |x::xs=>NW x+nA xs
end
theorem iF(w:yak):∀a b,gO w (a++b)=gO w a++gO w b
 |[],b=>rfl
 |x::a,b=>by simp only[zbw,gO,iF w a b]
theorem kF:∀a b,nA (a++b)=nA a+nA b
 |[],b=>by simp[nA]
 |x::a,b=>by simp only[zbw,nA,kF a b];lia
theorem eS:∀{c:List yam},cL c=true->∀x∈c,bF x=true
 |[],_,x,a=>by simp at a
 |y::c,h,x,a=>by
  simp only[cL,zbG] at h;rcases zcg.mp a with rfl|a
  ·exact h.1
  ·exact eS h.2 x a
theorem bV:∀{a:List yam}{x:yam},x∈a->x.depth<=PyData.depthAll a
 |y::a,x,c=>by
  simp only[PyData.depthAll];rcases zcg.mp c with rfl|c
  ·lia
  ·have:=bV c;lia
theorem bh(a:List yam):(PyData.tuple a).depth=PyData.depthAll a+1:=by
 simp only[PyData.depth]
section
variable {prog:yaj}{w:yak}
theorem d8{s:yah}{a:Addr}{o:Obj}(c:s.heap.get? a=some o)(e:o.cls=Value.type "tuple"):s.TypeIs (.ref a) "tuple":=⟨o,c,e⟩
theorem rL:∀(n:Nat)(d:yam){v:yai}{as:List Addr}{A:yal}{E:yai->yah->Prop}{s:yah}{Q:Int->yah->Prop},d.depth<=n->bF d=true->Reads s.heap v d as->A.units+n<cLine->
  Q (br w d) {s with toks:=s.toks+NW d}->yar (model prog w) A (pyHash v) Q E s:=by
 intro n
 induction n with
 |zero=>
  intro d v as A E s Q hd e j C h;cases j with
  |int i t=>exact wpAny_pyHash_int h
  |str x t=>exact wpAny_pyHash_str h
  |tuple ho hc hd' hall=>rw[bh] at hd;lia
  |none=>simp[bF] at e
  |bool b=>simp[bF] at e
  |list _ _ _ _=>simp[bF] at e
  |dict _ _ _ _ _=>simp[bF] at e
 |succ n ih=>
  intro d v as A E s Q hd e j C h;cases j with
  |int i t=>exact wpAny_pyHash_int h
  |str x t=>exact wpAny_pyHash_str h
  |none=>simp[bF] at e
  |bool b=>simp[bF] at e
  |list _ _ _ _=>simp[bF] at e
  |dict _ _ _ _ _=>simp[bF] at e
  |@tuple a o vs m xs as ho hc hdat hall=>
   have G:=d8 ho hc;have e:cL xs=true:=e;rw[bh] at hd;show yar (model prog w) A (pyHashByItsType (.ref a)) Q E s;refine W.pyHash_slot (T:="tuple") G F.slot_tuple_hash F.entry_tuple_hash (F.args_tuple_hash_1 (.ref a)) (by decide) (.inr (by lia)) ?_;show yar (model prog w) A.in1 (do
    let __do_lift <-Builtin.Tuple.tupleItemsOf (.ref a);let __s <-forIn __do_lift (#[]:Array Int) λx __s=>do
       let __do_lift <-pyHash x
       pure (ForInStep.yield (__s.push __do_lift))
    retInt (Builtin.Tuple.tupleHashOf __s.toList)) _ E s
   refine yaa (wpAny_tupleItemsOf ho hdat (yaa ?_));rw[<-zaU];refine wpAny_forIn_list _ (λrest b g=>∃c left f,xs=c++left/\ReadsAll s.heap rest left f/\b.toList=gO w c/\g={s with toks:=s.toks+nA c}) _ ?_ ?_ vs.toList #[] ⟨[],xs,_,rfl,hall,rfl,rfl⟩
   ·rintro x rest b g ⟨c,left,f,rfl,l,u,rfl⟩;cases l with
    |@cons _ _ d' ds as1 bs hx hrest=>
     have y:d'∈c++d'::ds:=by simp
     refine yaa (ih d' (as:=as1) (s:={s with toks:=s.toks+nA c}) (by have:=bV y;lia) (eS e d' y) hx (by show A.units+1+n<cLine;lia) ?_);refine yab ⟨c++[d'],ds,bs,by simp,hrest,?_,?_⟩
     ·rw[Array.toList_push,u,iF];rfl
     ·rw[kF];simp only[nA,Nat.add_zero,Nat.add_assoc]
   ·rintro b g ⟨c,left,f,rfl,l,u,rfl⟩;cases l;rw[zbL] at h;rw[u];refine yac (wpAny_ret_mkInt (Q:=λv g=>∃n t,v=Value.int n t/\Q (reduceHash n) g) ⟨_,_,rfl,?_⟩) (λH g=>?_) (λ_ _ z=>z)
    ·have h:Q (reduceHash (Builtin.Tuple.tupleHashOf (gO w c))) {s with toks:=s.toks+(nA c+1)}:=h;exact h
    ·rintro⟨v,rfl,n,t,rfl,q⟩;exact⟨n,t,rfl,q⟩
theorem iK:∀(n:Nat)(d:yam){v:yai}{as:List Addr}{A:yal}{E:yai->yah->Prop}{s:yah}{Q:Bool->yah->Prop},d.depth<=n->bF d=true->Reads s.heap v d as->Q true s->yar (model prog w) A (eqIsQuiet n v) Q E s:=by
 intro n
 induction n with
 |zero=>
  intro d v as A E s Q hd c f h;cases f with
  |int i t=>rw[eqIsQuiet_byValue 0 rfl];exact yab h
  |str x t=>rw[eqIsQuiet_byValue 0 rfl];exact yab h
  |tuple ho hc hd' hall=>rw[bh] at hd;lia
  |none=>simp[bF] at c
  |bool b=>simp[bF] at c
  |list _ _ _ _=>simp[bF] at c
  |dict _ _ _ _ _=>simp[bF] at c
 |succ n ih=>
  intro d v as A E s Q hd c f h;cases f with
  |int i t=>rw[eqIsQuiet_byValue _ rfl];exact yab h
  |str x t=>rw[eqIsQuiet_byValue _ rfl];exact yab h
  |none=>simp[bF] at c
  |bool b=>simp[bF] at c
  |list _ _ _ _=>simp[bF] at c
  |dict _ _ _ _ _=>simp[bF] at c
  |@tuple a o vs m xs as ho hc hdat hall=>
   have z:=d8 ho hc;have c:cL xs=true:=c;rw[bh] at hd;rw[eqIsQuiet.eq_def];refine yaa (wpAny_specialOf z F.slot_tuple_eq.lookup ?_);refine yaa (wpAny_isInstance z isSubtype_tuple_tuple ?_);rw[yIn (by decide)];refine yaa (wpAny_seqItems ho hdat (yaa ?_));show yar (model prog w) A (forIn vs _ _) _ E s;rw[<-zaU];refine wpAny_forIn_list _ (λrest r l=>r.1=none/\l=s/\∃left j,ReadsAll s.heap rest left j/\∀x∈left,x∈xs) _ ?_ ?_ vs.toList (none,()) ⟨rfl,rfl,xs,_,hall,λ_ g=>g⟩
   ·rintro y rest ⟨q,C⟩ l ⟨f,rfl,left,j,G,e⟩;cases G with
    |@cons _ _ d' ds as1 bs g hrest=>
     have u:d'∈xs:=e d' (by simp);refine yaa (ih d' (as:=as1) (by have:=bV u;lia) (eS c d' u) g ?_);exact yab ⟨rfl,rfl,ds,bs,hrest,λx g=>e x (zaz _ g)⟩
   ·rintro⟨q,C⟩ l ⟨f,rfl,_⟩;have f:q=none:=f;subst f;exact yab h
end
noncomputable instance:DecidableEq yam:=λ_ _=>Classical.propDecidable _
mutual
theorem jk:∀x y:yam,bF x=true->bF y=true->PyData.eqv x y=decide (x=y)
 |.int i,.int j,_,_=>by
  simp only[PyData.eqv];by_cases h:i=j
  ·subst h;simp
  ·have:¬PyData.int i=.int j:=λe=>h (by injection e);rw[yDf this];simpa using h
 |.str i,.str j,_,_=>by
  simp only[PyData.eqv];by_cases h:i=j
  ·subst h;simp
  ·have:¬PyData.str i=.str j:=λe=>h (by injection e);rw[yDf this];simpa using h
 |.tuple xs,.tuple ys,hx,hy=>by
  simp only[PyData.eqv];rw[sG xs ys hx hy];by_cases h:xs=ys
  ·subst h;simp
  ·have:¬PyData.tuple xs=.tuple ys:=λe=>h (by injection e);rw[yDf this,yDf h]
 |.int i,.str j,_,_=>by rw[yDf (λe=>nomatch e)];rfl
 |.int i,.tuple j,_,_=>by rw[yDf (λe=>nomatch e)];rfl
 |.str i,.int j,_,_=>by rw[yDf (λe=>nomatch e)];rfl
 |.str i,.tuple j,_,_=>by rw[yDf (λe=>nomatch e)];rfl
 |.tuple i,.int j,_,_=>by rw[yDf (λe=>nomatch e)];rfl
 |.tuple i,.str j,_,_=>by rw[yDf (λe=>nomatch e)];rfl
 |.none,_,h,_=>by simp[bF] at h
 |.bool _,_,h,_=>by simp[bF] at h
 |.list _,_,h,_=>by simp[bF] at h
 |.dict _,_,h,_=>by simp[bF] at h
 |_,.none,_,h=>by simp[bF] at h
 |_,.bool _,_,h=>by simp[bF] at h
 |_,.list _,_,h=>by simp[bF] at h
 |_,.dict _,_,h=>by simp[bF] at h
theorem sG:∀x y:List yam,cL x=true->cL y=true->PyData.eqvAll x y=decide (x=y)
 |[],[],_,_=>by simp[PyData.eqvAll]
 |[],y::ys,_,_=>by simp[PyData.eqvAll]
 |x::xs,[],_,_=>by simp[PyData.eqvAll]
 |x::xs,y::ys,hx,hy=>by
  simp only[cL,zbG] at hx hy;simp only[PyData.eqvAll];rw[jk x y hx.1 hy.1,sG xs ys hx.2 hy.2];by_cases h:x=y<;>by_cases g:xs=ys<;>simp[h,g]
end
mutual
theorem eU:∀x:yam,bF x=true->x.canLay0=true
 |.int i,_=>rfl
 |.str i,h=>h
 |.tuple xs,h=>by simp only[PyData.canLay0];exact xr xs h
 |.none,h=>by simp[bF] at h
 |.bool _,h=>by simp[bF] at h
 |.list _,h=>by simp[bF] at h
 |.dict _,h=>by simp[bF] at h
theorem xr:∀x:List yam,cL x=true->PyData.canLayAll0 x=true
 |[],_=>rfl
 |x::xs,h=>by
  simp only[cL,zbG] at h;simp only[PyData.canLayAll0,eU x h.1,xr xs h.2,zco]
end
def isKey(h:Heap)(d:yam)(a:Addr):Prop:=bF d=true/\d.depth<=6/\∃as,Reads h (.ref a) d as
mutual
theorem o5{h h':Heap}{b:Addr}{ob:Obj}{es:Array yav}{ep:Nat}(g:h.get? b=some ob)(hd:ob.data=Data.dict es ep)(f:Heap.SameBut b h h'):∀(d:yam){v:yai}{as:List Addr},bF d=true->Reads h v d as->Reads h' v d as
 |.int i,v,as,hk,hr=>by cases hr;exact .int ..
 |.str i,v,as,hk,hr=>by cases hr;exact .str ..
 |.tuple xs,v,as,hk,hr=>by
  cases hr with
  |@tuple a o vs m _ _ ho hc hdat hall=>
   have c:a≠b:=λe=>by
    subst e;rw[g] at ho;cases ho;rw[hd] at hdat;cases hdat
   exact .tuple (by rw[f.2 a c];exact ho) hc hdat (l7 g hd f xs hk hall)
 |.none,_,_,h,_=>by simp[bF] at h
 |.bool _,_,_,h,_=>by simp[bF] at h
 |.list _,_,_,h,_=>by simp[bF] at h
 |.dict _,_,_,h,_=>by simp[bF] at h
theorem l7{h h':Heap}{b:Addr}{ob:Obj}{es:Array yav}{ep:Nat}(c:h.get? b=some ob)(hd:ob.data=Data.dict es ep)(a:Heap.SameBut b h h'):∀(ds:List yam){vs:List yai}{as:List Addr},cL ds=true->ReadsAll h vs ds as->ReadsAll h' vs ds as
 |[],vs,as,hk,hr=>by cases hr;exact .nil
 |d::ds,vs,as,hk,hr=>by
  simp only[cL,zbG] at hk;cases hr with
  |cons hx hr=>exact .cons (o5 c hd a d hk.1 hx) (l7 c hd a ds hk.2 hr)
end
noncomputable def aD(prog:yaj)(w:yak):HeapKind prog w yam where
 is:=isKey
 hash:=br w
 draws:=NW
 room:=λA=>A.units+10<cLine
 inj:=λ⟨_,_,as,l⟩ ⟨_,_,bs,j⟩=>(Reads.unique l _ _ j).1
 keeps:=λ⟨c,f,as,e⟩ n hd i=>⟨c,f,as,o5 n hd i _ c e⟩
 pyHash:=λm ⟨c,f,as,e⟩ h=>rL 6 _ f c e (by lia) h
 eqBool:=λ{A E s x y a b Q} m ⟨c,f,as,e⟩ ⟨g,o,bs,gr⟩ h=>SeqAt.eqBoolOverData prog w A E s _ _ _ _ _ _ Q e gr (eU _ c) (eU _ g) (by lia) (by
  rw[jk _ _ c g];exact h)
 quiet:=λ⟨c,f,as,e⟩ h=>iK 8 _ (by lia) c e h
def fO(h:Heap)(d:Addr)(es:Array yav)(ep:Nat):Prop:=∃o,h.get? d=some o/\o.ExactDict/\o.data=Data.dict es ep
theorem fO.at{h h':Heap}{d:Addr}{es:Array yav}{ep:Nat}(x:fO h d es ep)(e:∀o,h.get? d=some o->h'.get? d=some o):fO h' d es ep:=let⟨o,ho,r⟩:=x;⟨o,e o ho,r⟩
section
variable {prog:yaj}{w:yak}{A:yal}{E:yai->yah->Prop}{s:yah}
theorem fO.typeIs{d:Addr}{es:Array yav}{ep:Nat}(x:fO s.heap d es ep):s.TypeIs (.ref d) "dict":=let⟨o,ho,hc,_⟩:=x;⟨o,ho,hc.1⟩
theorem nextK{it d:Addr}{i ep:Nat}{es:Array yav}{e:yav}{Q:Option yai->yah->Prop}(g:s.heap.IsKeyIter it d i es.size ep)(x:fO s.heap d es ep)(n:es[i]? =some e)(v:∀h',h'.IsKeyIter it d (i+1) es.size ep->Heap.SameBut it s.heap h'->Q (some e.key) {s with heap:=h'}):yar (model prog w) A (pyNext (.ref it)) Q E s:=by
 obtain⟨o,m,t,hd⟩:=id g;obtain⟨z,c,q,h⟩:=id x;have l:=Heap.IsKeyIter.typeIs g;unfold pyNext;refine yaa (wpAny_attempt (wpAny_callSpecial?_slot (name:=Str.ofString "__next__") l F.slot_dict_keyiterator_next (wpAny_call_entry F.slot_dict_keyiterator_next l F.entry_dict_keyiterator_next ?_ (F.args_dict_keyiterator_next_1 _))));unfold Builtin.«dict_keyiterator.__next__»;refine yaa (yab ?_);refine yaa ?_;refine yaa ?_;refine yaa (wpAny_typeNameOfWhole_keyiter l (yab ?_));have a:Builtin.Dict_items.ownsTuple "dict_keyiterator"=false:=by decide+kernel
 refine yaa (wpAny_fieldsOf m hd ?_);simp only[a,zaT,if_false,List.drop_zero];show yar (model prog w) A.in1 (if(Value.ref d==Value.none)=true then _ else _) _ _ s;rw[yIn (by exact zaS)];refine yaa (yab ?_);refine yaa (wpAny_dictEntries c h ?_);rw[yIn (by simp)];refine yaa (yab ?_);refine yaa (wpAny_dictEpoch c h ?_);rw[yIn (by simp)];refine yab ?_;dsimp only;rw[yIn (by lia),show((i:Int)).toNat=i from zbk i,n];dsimp only;refine yaa (?_);refine yaa (wpAny_typeNameOfWhole_keyiter l (yab ?_));simp only[a,zaT,if_false];refine yaa (wpAny_isOneOf_keyiter l ?_);refine yaa (wpAny_setField m hd (by simp) ?_);have y:∀b:Bool,b=false->(if b=true then(i:Int) - 1 else(i:Int)+1)=((i+1:Nat):Int):=λb u=>by subst u;simp
 rw[y _ (by decide+kernel)];refine yaa (yad ?_);have f:=zay (Obj.mapFields (·.setIfInBounds (0+1) (rawInt ((i+1:Nat):Int)))) m (Obj.isFreed_of_fields (Obj.data_mapFields hd _));have j:=(Obj.cls_mapFields o (·.setIfInBounds (0+1) (rawInt ((i+1:Nat):Int)))).trans t;refine yaa (wpAny_isOneOf_keyiter ⟨_,f,j⟩ ?_);rw[yIp (by decide+kernel)];refine yab (yab ⟨e.key,rfl,yab (v _ ?_ (Heap.SameBut.update ..))⟩);exact⟨_,f,j,by rw[Obj.data_mapFields hd];simp[rawInt]⟩
theorem MV{it d:Addr}{ep:Nat}{es:Array yav}{Q:Option yai->yah->Prop}(l:A.handled=none)(g:s.heap.IsKeyIter it d es.size es.size ep)(u:fO s.heap d es ep)(t:∀h',Heap.ExtBut it s.heap h'->Q none {s with heap:=h'}):yar (model prog w) A (pyNext (.ref it)) Q E s:=by
 obtain⟨o,j,y,hd⟩:=id g;obtain⟨v,f,n,h⟩:=id u;have i:=Heap.IsKeyIter.typeIs g;unfold pyNext;refine yaa (wpAny_attempt (wpAny_callSpecial?_slot (name:=Str.ofString "__next__") i F.slot_dict_keyiterator_next (wpAny_call_entry F.slot_dict_keyiterator_next i F.entry_dict_keyiterator_next ?_ (F.args_dict_keyiterator_next_1 _))));unfold Builtin.«dict_keyiterator.__next__»;refine yaa (yab ?_);refine yaa ?_;refine yaa ?_;refine yaa (wpAny_typeNameOfWhole_keyiter i (yab ?_));have c:Builtin.Dict_items.ownsTuple "dict_keyiterator"=false:=by decide+kernel
 refine yaa (wpAny_fieldsOf j hd ?_);simp only[c,zaT,if_false,List.drop_zero];show yar (model prog w) A.in1 (if(Value.ref d==Value.none)=true then _ else _) _ _ s;rw[yIn (by exact zaS)];refine yaa (yab ?_);refine yaa (wpAny_dictEntries f h ?_);rw[yIn (by simp)];refine yaa (yab ?_);refine yaa (wpAny_dictEpoch f h ?_);rw[yIn (by simp)];refine yab ?_;dsimp only;rw[yIn (by lia),show((es.size:Int)).toNat=es.size from zbk _,zap (zcH _)];dsimp only;refine yaa ?_;refine yaa (wpAny_typeNameOfWhole_keyiter i (yab ?_));simp only[c,zaT,if_false];refine yaa (wpAny_setField j hd (by simp) ?_);refine yaa ?_;simp only[newExc,newTuple];refine yaa (yae ?_ (by size_fits));refine yaa (m:=firstArgMember _ _) (wpAny_of_eq (a:=Value.none) (by first|rfl|(simp only[firstArgMember];rfl)) ?_);refine yae ?_ (by size_fits);simp only[raiseNew];refine yaa (wpAny_handled ?_)
 first|rw[show A.in1.handled=none from l]|rw[l]
 refine yaa (yab (wpAny_throw ?_));refine yaa (wpAny_isInstance (T:="StopIteration") (b:=true) ⟨_,zaJ _ rfl,rfl⟩ isSubtype_stop ?_);refine yab (t _ (Heap.ExtBut.push (Heap.ExtBut.push ?_ _) _));exact λb x q e=>(zar _ _ (Ne.symm q)).trans e
theorem G5{d:Addr}{ep:Nat}{es:Array yav}{Q:yai->yah->Prop}(hd:(d==yas)=false)(f:fO s.heap d es ep)(h:Q (.ref s.heap.objs.size) {s with heap:=s.heap.push {cls:=.type "dict_keyiterator",data:=.fields #[.ref d,.int 0 0,.int es.size 0,.int ep 0]}}):yar (model prog w) A (pyIter (.ref d)) Q E s:=by
 obtain⟨i,a,g,c⟩:=id f;have e:=f.typeIs;refine wpAny_pyIter_slot e F.slot_dict_iter (wpAny_call_entry F.slot_dict_iter e F.entry_dict_iter ?_ (F.args_dict_iter_1 _));unfold Builtin.«dict.__iter__»;refine yaa (yaa (wpAny_notOrdered_dict e (yab ?_)));refine yaa (yab ?_);unfold Builtin.Dict.showsAll;rw[yIn (by rw[hd];exact zaS)];refine yaa (yab ?_);refine yaa (wpAny_dictEntries a c ?_);refine yaa (wpAny_dictEpoch a c ?_);refine yaa (yae ?_ (by size_fits));exact yab ⟨_,rfl,"dict_keyiterator",_,⟨_,zaJ _ rfl,rfl⟩,F.slot_dict_keyiterator_next.lookup,h⟩
theorem HA(u:A.handled=none)(I d:Addr)(m:d≠I)(es:Array yav)(ep:Nat):
  Walks prog w A I [I,d] [I] es.size (λi v=>∃e,es[i]? =some e/\v=e.key) (λi h=>h.IsKeyIter I d i es.size ep/\fO h d es ep) where
 sub:=λb c=>by simp only[zaO] at c;simp[c]
 frame:=λi h l a q=>⟨Heap.IsKeyIter.at a.1 λo e=>q I (by simp) o e,a.2.at λo e=>q d (by simp) o e⟩
 item:=λi s Q E t a j=>by
  have n:es[i]? =some es[i]:=zai t;refine nextK a.1 a.2 n λl g f=>j es[i].key l s.toks ⟨es[i],n,rfl⟩ ⟨g,a.2.at λo e=>by rw[f.2 d m];exact e⟩ λb o c e=>?_;rw[f.2 b (λz=>c (by simp[z]))];exact e
 done:=λs Q E a j=>MV u a.1 a.2 λl x=>j l s.toks λb o c e=>x b o (λz=>c (by simp[z])) e
 self:=λi s Q E a j=>wpAny_pyIter_keyiter a.1 j
theorem HR{d:Addr}{es:Array yav}{ep:Nat}(j:(d==yas)=false):W.KdlSrc prog w "dict" d d es.size (λi v=>∃e,es[i]? =some e/\v=e.key) (λh=>fO h d es ep) where
 type:=λs a=>a.typeIs
 there:=λh a=>by obtain⟨o,c,_⟩:=a;exact⟨zcE c,zcE c⟩
 keep:=λh n a l=>a.at λo e=>l d (.inl rfl) o e
 notList:=by decide
 notTuple:=by decide
 hint:=λA E s Q a f=>W.kdl_hint_dict a.typeIs f
 iter:=λA s m a=>by
  have g:d<s.heap.objs.size:=by obtain⟨o,c,_⟩:=a;exact zcE c
  exact⟨_,_,λE Q f=>G5 j a f,HA m s.heap.objs.size d (zcv g) es ep,⟨_,zaJ _ rfl,rfl,rfl⟩,a.at λo e=>zaq _ e⟩
theorem nC{d:Addr}{es:Array yav}{ep:Nat}{R:List yai->yah->Prop}(f:(d==yas)=false)(j:A.handled=none)(m:fO s.heap d es ep)(g:es.size<=yag)(h:∀(h':Heap)(tk:Nat),(∀b o,s.heap.get? b=some o->h'.get? b=some o)->R (es.toList.map (·.key)) {s with heap:=h',toks:=tk}):yar (model prog w) A (collect (.ref d)) R E s:=by
 refine W.kdu_collect (HR f) j m g λh' tk c kp a=>?_;have:c.toList=es.toList.map (·.key):=by
  refine zbd λi=>?_;rw[zax,zaZ,zax];cases z:c[i]? with
  |some v=>
   obtain⟨e,l,rfl⟩:=a.2 i v z;rw[l];rfl
  |none=>
   have:es.size<=i:=by rw[<-a.1];exact zac.mp z
   rw[zap this];rfl
 rw[this];exact h h' tk kp
end
mutual
noncomputable def fF:yam->yam->Bool
 |.int i,.int j=>decide (i<j)
 |.str i,.str j=>decide (i.cps.toList<j.cps.toList)
 |.tuple xs,.tuple ys=>b5 xs ys
 |_,_=>false
noncomputable def b5:List yam->List yam->Bool
 |[],[]=>false
 |[],_::_=>true
 |_::_,[]=>false
 |x::xs,y::ys=>if x=y then b5 xs ys else fF x y
end
mutual
noncomputable def aE:yam->yam->Bool
 |.int _,.int _=>true
 |.str _,.str _=>true
 |.tuple xs,.tuple ys=>dh xs ys
 |_,_=>false
noncomputable def dh:List yam->List yam->Bool
 |x::xs,y::ys=>aE x y&&dh xs ys
 |_,_=>true
end
theorem dG{h:Heap}:∀{ds:List yam}{vs:List yai}{as:List Addr},ReadsAll h vs ds as->vs.length=ds.length
 |[],_,_,h=>by cases h;rfl
 |_::_,_,_,h=>by cases h with|cons _ r=>simp[dG r]
section
variable {prog:yaj}{w:yak}
theorem E5:∀(n:Nat)(x y:yam){u v:yai}{as bs:List Addr}{A:yal}{E:yai->yah->Prop}{s:yah}{Q:yai->yah->Prop},x.depth<=n->y.depth<=n->bF x=true->bF y=true->aE x y=true->Reads s.heap u x as->Reads s.heap v y bs->A.units+n<cLine->
  Q (.bool (fF x y)) s->yar (model prog w) A (yan .Lt u v) Q E s:=by
 intro n
 induction n with
 |zero=>
  intro x y u v as bs A E s Q hx hy c Y g G gr hu h;cases G with
  |int i t=>
   cases gr with
   |int j t'=>exact wpAny_lt_int h
   |_=>simp[aE] at g
  |str i t=>
   cases gr with
   |str j t'=>exact lt_str h
   |_=>simp[aE] at g
  |tuple ho g hd' hall=>rw[bh] at hx;lia
  |none=>simp[bF] at c
  |bool b=>simp[bF] at c
  |list _ _ _ _=>simp[bF] at c
  |dict _ _ _ _ _=>simp[bF] at c
 |succ n ih=>
  intro x y u v as bs A E s Q hx hy c Y g G gr hu h;cases G with
  |int i t=>
   cases gr with
   |int j t'=>exact wpAny_lt_int h
   |_=>simp[aE] at g
  |str i t=>
   cases gr with
   |str j t'=>exact lt_str h
   |_=>simp[aE] at g
  |none=>simp[bF] at c
  |bool b=>simp[bF] at c
  |list _ _ _ _=>simp[bF] at c
  |dict _ _ _ _ _=>simp[bF] at c
  |@tuple a o us m xs as ho hcl hdat hall=>
   cases gr with
   |@tuple b o2 vs m2 ys bs ho2 hcl2 hdat2 hall2=>
    have hT:=d8 ho hcl;have O:=d8 ho2 hcl2;rw[bh] at hx hy;have c:cL xs=true:=c;have Y:cL ys=true:=Y;have g:dh xs ys=true:=g;show yar (model prog w) A (richCompare .Lt (.ref a) (.ref b)) Q E s;refine wpAny_richCompare_same_room hT O F.slot_tuple_lt ?_ (by lia);refine wpAny_call_entry F.slot_tuple_lt hT F.entry_tuple_lt ?_ (F.args_tuple_lt_2 _ _);unfold Builtin.«tuple.__lt__»;refine yaa (yab ?_);refine yaa (wpAny_isInstance O isSubtype_tuple_tuple ?_);rw[yIn (by decide)];refine yaa (wpAny_tupleItemsOf ho hdat (yaa (wpAny_tupleItemsOf ho2 hdat2 (yaa ?_))));refine wpAny_forIn_list _ (λrest r U=>r.1=none/\U=s/\∃H C X W L I,rest=X.zip W/\ReadsAll s.heap X H L/\ReadsAll s.heap W C I/\b5 xs ys=b5 H C/\(∀z∈H,z∈xs)/\(∀z∈C,z∈ys)/\dh H C=true/\us.size+C.length=vs.size+H.length) _ ?_ ?_ (us.toList.zip vs.toList) (none,())
     ⟨rfl,rfl,xs,ys,us.toList,vs.toList,_,_,rfl,hall,hall2,rfl,λ_ z=>z,λ_ z=>z,g,by
      have S:=dG hall;have P:=dG hall2;rw[zaI] at S P;lia⟩
    ·rintro⟨p,q⟩ rest ⟨r1,r2⟩ U ⟨G,rfl,H,C,X,W,L,I,f,S,P,Z,m1,m2,l,e⟩;cases S with
     |nil=>simp at f
     |@cons _ _ d1 ds1 a1 b1 g1 t1=>
      cases P with
      |nil=>simp at f
      |@cons _ _ d2 ds2 a2 b2 g2 t2=>
       rw[zaN] at f;injection f with e1 e2;injection e1 with e3 e4;subst e3;subst e4;subst e2;have n1:=m1 d1 (by simp);have n2:=m2 d2 (by simp);have k1:=eS c d1 n1;have k2:=eS Y d2 n2;have dd1:=bV n1;have dd2:=bV n2;simp only[dh,zbG] at l;dsimp only;refine yaa (SeqAt.eqBoolOverData prog w _ _ _ _ _ _ _ _ _ _ g1 g2 (eU _ k1) (eU _ k2) (by show A.units+1+_<cLine;lia) ?_);rw[jk _ _ k1 k2];by_cases he:d1=d2
       ·rw[yDt he];refine yab ⟨rfl,rfl,ds1,ds2,_,_,_,_,rfl,t1,t2,?_,λz f=>m1 z (zaz _ f),λz f=>m2 z (zaz _ f),l.2,by simp only[zbq] at e;lia⟩;rw[Z];simp only[b5];rw[yIp he]
       ·rw[yDf he];have hl2:b5 xs ys=fF d1 d2:=by
         rw[Z];simp only[b5];rw[yIn he]
        refine yaa (wpAny_rule ?_);refine yaa (ih d1 d2 (u:=p) (v:=q) (A:=A.in1) (by lia) (by lia) k1 k2 l.1 g1 g2 (by show A.units+1+n<cLine;lia) ?_);refine yaa (yab (yab ?_));refine yab ⟨_,rfl,(λz=>by cases z),?_⟩;rw[<-hl2];exact h
    ·rintro⟨r1,r2⟩ U ⟨G,rfl,H,C,X,W,L,I,f,S,P,Z,m1,m2,l,e⟩;have G:r1=none:=G;subst G;refine yab ⟨_,rfl,(λz=>by cases z),?_⟩;have OV:decide (us.size<vs.size)=b5 xs ys:=by
      rw[Z];cases S with
      |nil=>
       cases C with
       |nil=>simp only[b5,zbP] at e⊢;exact yDf (by lia)
       |cons _ _=>simp only[b5,zbq,zbP] at e⊢;exact yDt (by lia)
      |cons g1 t1=>
       cases P with
       |nil=>simp only[b5,zbq,zbP] at e⊢;exact yDf (by lia)
       |cons g2 t2=>simp at f
     show Q (.bool (decide (us.size<vs.size))) U;rw[OV];exact h
   |_=>simp[aE] at g
theorem ER{A:yal}{E:yai->yah->Prop}{s:yah}{i j:Int}{t u:Tok}{Q:Bool->yah->Prop}(h:Q (decide (i<j)) s):yar (model prog w) A (PyProof.Rows.oneLt' true (.int i t) (.int j u)) Q E s:=W.kat_lt_int h
theorem rS{A:yal}{E:yai->yah->Prop}{s:yah}{x y:yam}{u v:yai}{as bs:List Addr}{Q:Bool->yah->Prop}(n:Nat)(f:x.depth<=n)(e:y.depth<=n)(c:bF x=true)(a:bF y=true)(j:aE x y=true)(i:Reads s.heap u x as)(gr:Reads s.heap v y bs)(g:A.units+n<cLine)(h:Q (fF x y) s):yar (model prog w) A (PyProof.Rows.oneLt' false u v) Q E s:=W.kat_one u v (E5 n x y f e c a j i gr g h)
theorem sq{A:yal}{Q:Bool->yah->Prop}{s:yah}{m1 m2:Nat}:∀(c a:List yam){j g:List yai}{as bs:List Addr}(i:Nat),(∀z∈c,z.depth<=6)->(∀z∈a,z.depth<=6)->cL c=true->cL a=true->dh c a=true->ReadsAll s.heap j c as->ReadsAll s.heap g a bs->A.units+6<cLine->
  (i=0->∃p q f e,c=.int p::f/\a=.int q::e)->m1+a.length=m2+c.length->Q (b5 c a) s->W.KatLex prog w A true (decide (m1<m2)) Q (j.zip g) i s
 |[],a,j,g,as,bs,i,d1,d2,k1,k2,hc,h1,h2,hu,h0,hm,h=>by
  cases h1;show Q (decide (m1<m2)) s;cases a with
  |nil=>simp only[b5,zbP] at hm h;rw[yDf (by lia)];exact h
  |cons _ _=>simp only[b5,zbP,zbq] at hm h;rw[yDt (by lia)];exact h
 |x::c,[],j,g,as,bs,i,d1,d2,k1,k2,hc,h1,h2,hu,h0,hm,h=>by
  cases h2;rw[List.zip_nil_right];show Q (decide (m1<m2)) s;simp only[b5,zbP,zbq] at hm h;rw[yDf (by lia)];exact h
 |x::c,y::a,j,g,as,bs,i,d1,d2,k1,k2,hc,h1,h2,hu,h0,hm,h=>by
  simp only[cL,zbG] at k1 k2;simp only[dh,zbG] at hc;have E:=d1 x (by simp);have C:=d2 y (by simp);cases h1 with
  |@cons u us _ _ a1 b1 g1 t1=>
   cases h2 with
   |@cons v vs _ _ a2 b2 g2 t2=>
    rw[zaN,W.KatLex.eq_2];refine SeqAt.eqBoolOverData prog w _ _ _ _ _ _ _ _ _ _ g1 g2 (eU _ k1.1) (eU _ k2.1) (by lia) ?_;rw[jk _ _ k1.1 k2.1];simp only[b5] at h;by_cases l:x=y
    ·rw[yDt l,yIp rfl];rw[yIp l] at h;exact sq c a (i+1) (λz m=>d1 z (zaz _ m)) (λz m=>d2 z (zaz _ m)) k1.2 k2.2 hc.2 t1 t2 hu (λz=>by lia) (by simp only[zbq] at hm;lia) h
    ·rw[yDf l,yIn (by decide)];rw[yIn l] at h;by_cases n:i=0
     ·obtain⟨p,q,f,e,t,o⟩:=h0 n;injection t with t _;injection o with o _;subst t;subst o;subst n;cases g1;cases g2;exact ER h
     ·have:(true&&i==0)=false:=by simp[n]
      rw[this];exact rS 6 E C k1.1 k2.1 hc.1 g1 g2 hu h
def dH{c:Type}(P:c->Prop)(n:Nat):W.KasT c->Prop
 |.ret a=>P a
 |.ask i j k=>i<n/\j<n/\∀b,dH P n (k b)
theorem dH.bind{c e:Type}{P:c->Prop}{R:e->Prop}{n:Nat}{f:c->W.KasT e}:∀{t:W.KasT c},dH P n t->(∀a,P a->dH R n (f a))->dH R n (t.bind f)
 |.ret a,h,g=>g a h
 |.ask i j k,⟨h1,h2,h3⟩,g=>⟨h1,h2,λb=>dH.bind (h3 b) g⟩
theorem dN{n:Nat}{p:Array Nat}(c:0<n)(a:p.Perm (zcK n).toArray)(x:Nat):p.getD x 0<n:=by
 rw[Srt.jj];cases z:p[x]? with
 |none=>exact c
 |some y=>
  have e:y∈p:=Array.mem_of_getElem? z;have:=(a.mem_iff).mp e;simpa using this
section
variable {n:Nat}
theorem qH(c:0<n){p:Array Nat}(a:p.Perm (zcK n).toArray):∀(f x:Nat),dH (λ_=>True) n (W.kas_asc p f x)
 |0,x=>trivial
 |f+1,x=>⟨dN c a _,dN c a _,λb=>by
  show dH _ n (if b=true then _ else _);cases b
  ·exact qH c a f (x+1)
  ·exact trivial⟩
theorem jo(a:0<n):∀(f:Nat){p:Array Nat}(x q:Nat),p.Perm (zcK n).toArray->dH (λr:Array Nat×Nat×Nat=>r.1.Perm (zcK n).toArray) n (W.kas_desc f p x q)
 |0,p,x,q,hp=>hp
 |f+1,p,x,q,hp=>⟨dN a hp _,dN a hp _,λb=>by
  show dH _ n (if b=true then(if q> 0 then _ else _) else _);cases b
  ·refine⟨dN a hp _,dN a hp _,λc=>?_⟩;show dH _ n (if c=true then _ else _);cases c
   ·exact jo a f (x+1) (q+1) hp
   ·exact hp
  ·rw[yIp rfl];by_cases e:q> 0
   ·rw[yIp e];exact jo a f (x+1) 0 (Srt.cX.trans hp)
   ·rw[yIn e];exact jo a f (x+1) 0 hp⟩
theorem qX(e:0<n){p:Array Nat}(c:p.Perm (zcK n).toArray)(x m:Nat):dH (λr:Nat×Array Nat=>r.2.Perm (zcK n).toArray) n (W.kas_tail3 x m p):=
 dH.bind (qH e (Srt.cX.trans c) _ _) λa _=>Srt.cX.trans c
theorem jq(a:0<n){p:Array Nat}(e:p.Perm (zcK n).toArray)(x m:Nat):dH (λr:Nat×Array Nat=>r.2.Perm (zcK n).toArray) n (W.kas_descPart x m p):=
 dH.bind (jo a _ _ _ e) λr c=>by
  by_cases h:r.2.2> 0
  ·rw[yIp h];exact qX a (Srt.cX.trans c) _ _
  ·rw[yIn h];exact qX a c _ _
theorem zj(c:0<n){p:Array Nat}(a:p.Perm (zcK n).toArray)(m:Nat):dH (λr:Nat×Array Nat=>r.2.Perm (zcK n).toArray) n (W.kas_count m p):=
 dH.bind (qH c a _ _) λx _=>by
  by_cases h:(x==m)=true
  ·rw[yIp h];exact a
  ·rw[yIn h];by_cases e:x> 1
   ·rw[yIp e];refine⟨dN c a _,dN c a _,λb=>?_⟩;show dH _ n (if b=true then _ else _);cases b
    ·exact jq c (Srt.cX.trans a) _ _
    ·exact a
   ·rw[yIn e];exact jq c a _ _
theorem jT(c:0<n){p:Array Nat}(a:p.Perm (zcK n).toArray)(k:Nat):∀(f l r:Nat),dH (λ_=>True) n (W.kas_place p k f l r)
 |0,l,r=>trivial
 |f+1,l,r=>by
  rw[W.kas_place.eq_2];by_cases h:l≥r
  ·rw[yIp h];exact trivial
  ·rw[yIn h];refine⟨dN c a _,dN c a _,λb=>?_⟩;show dH _ n (if b=true then _ else _);cases b
   ·exact jT c a k f _ _
   ·exact jT c a k f _ _
theorem xQ(a:0<n):∀(f:Nat){p:Array Nat}(j:Nat),p.Perm (zcK n).toArray->dH (λr:Array Nat=>r.Perm (zcK n).toArray) n (W.kas_bin f p j)
 |0,p,j,hp=>hp
 |f+1,p,j,hp=>by
  rw[W.kas_bin.eq_2];exact dH.bind (jT a hp _ _ _ _) λl _=>xQ a f (j+1) ((bubble_perm _ _ _).trans hp)
theorem rm(c:0<n):dH (λr:Array Nat=>r.Perm (zcK n).toArray) n (W.kas_sort n):=
 dH.bind (zj c (Array.Perm.refl _) _) λr a=>by
  by_cases h:r.1<n
  ·rw[yIp h];exact xQ c _ _ a
  ·rw[yIn h];exact a
end
end
section
variable {prog:yaj}{w:yak}{A:yal}{E:yai->yah->Prop}{s:yah}
theorem wp_run{c:Type}{n:Nat}{P:c->Prop}{f:Nat->Nat->Bool}{cmp:Nat->Nat->(Bool->yah->Prop)->yah->Prop}{Q:c->yah->Prop}{s:yah}(e:∀i j C,i<n->j<n->C (f i j) s->cmp i j C s):∀{t:W.KasT c},dH P n t->Q (Srt.run f t) s->W.KasT.kasWp cmp t Q s
 |.ret a,h,q=>q
 |.ask i j k,⟨h1,h2,h3⟩,q=>e i j _ h1 h2 (wp_run e (h3 _) q)
theorem wM{c:Type}{n:Nat}{P:c->Prop}{f:Nat->Nat->Bool}:∀{t:W.KasT c},dH P n t->P (Srt.run f t)
 |.ret a,h=>h
 |.ask i j k,⟨_,_,h3⟩=>show P (Srt.run f (k (f i j))) from wM (h3 (f i j))
theorem run_eq{c:Type}{n:Nat}{P:c->Prop}{f g:Nat->Nat->Bool}:∀{t:W.KasT c},dH P n t->(∀i j,i<n->j<n->f i j=g i j)->Srt.run f t=Srt.run g t
 |.ret a,h,_=>rfl
 |.ask i j k,⟨h1,h2,h3⟩,e=>by
  show Srt.run f (k (f i j))=Srt.run g (k (g i j));rw[e i j h1 h2];exact run_eq (h3 _) e
theorem o6{vs:List yai}:((zcK vs.length).map λi=>vs.getD i Value.none)=vs:=by
 refine zbx (by simp) λi c a=>?_;simp[zcO,zak a]
noncomputable def b8(h:Heap)(a:Addr)(vs:List yai):Heap:=((h.update a (Obj.mapSeq λ_=>#[])).push (seqObj "tuple" vs.toArray 0)).push (seqObj "list" #[] 0)
theorem m6{a:Addr}{vs:List yai}{n:Nat}{P:PySem.Fin->yah->Prop}(f:Nat->Nat->Bool)(F:s.heap.get? a=some (seqObj "list" vs.toArray n))(H:vs.length<64)(hk:2<=vs.length->∃κ,(∀(Q:SortKind->yah->Prop),Q κ {s with heap:=b8 s.heap a vs}->yar (model prog w) A (keyKind' vs.toArray) Q (λ_ _=>False) {s with heap:=b8 s.heap a vs})/\∀i j C,i<vs.length->j<vs.length->C (f i j) {s with heap:=b8 s.heap a vs}->W.kas_ask prog w A κ vs i j C {s with heap:=b8 s.heap a vs})(h:∀p:Array Nat,p.Perm (zcK vs.length).toArray->(2<=vs.length->p=Srt.run f (W.kas_sort vs.length))->P (.done (.ret .none)) {s with heap:=sortedHeap s.heap a vs (p.toList.map λi=>vs.getD i Value.none).toArray}):
  yar (model prog w) A (Builtin.«list.sort» ⟨[.ref a],[]⟩) P E s:=by
 obtain⟨o,m⟩:∃o,(s.heap.update a (Obj.mapSeq λ_=>#[])).get? a=some (seqObj "list" #[] o):=⟨_,get?_update_seq F λ_=>#[]⟩
 have c:(b8 s.heap a vs).get? a=some (seqObj "list" #[] o):=zaq _ (zaq _ m);have O:vs.toArray.size<=yag:=by rw[zaX,yaf];lia
 rw[list_sort_plain a];refine yaa (listItems_at F rfl (yaa (listUpdate_at F rfl ?_ O (zcI _))));refine yaa (seqEpoch_at m rfl (yaa (wpAny_newTuple ?_ (by simpa using O))));refine yaa (wpAny_newList (yad ?_) (zcI _));show yar (model prog w) A (if vs.toArray.size<2 then _ else _) P E {s with heap:=b8 s.heap a vs};by_cases q:vs.length<2
 ·rw[yIp (by rw[zaX];exact q)];refine yaa (yab ?_);dsimp only;rw[yIp (by rw[zaX];exact q)];refine yaa (yab ?_);have S:((vs.toArray.zip vs.toArray).map (·.2))=((zcK vs.length).map λi=>vs.getD i Value.none).toArray:=by
   rw[List.zip_toArray,List.map_toArray,List.map_snd_zip (zcH _),o6]
  refine yaa (seqEpoch_at c rfl (yaa (listUpdate_at c rfl ?_ (zcI _) ?_)))
  ·show yar (model prog w) A (if(o != o)=true then _ else _) P E _;rw[yIn (by simp)];refine yab ?_;have:=h (zcK vs.length).toArray (Array.Perm.refl _) (λz=>by lia);rw[<-S] at this;exact this
  ·show((vs.toArray.zip vs.toArray).map (·.2)).size<=_;rw[S,o6,zaX,yaf];lia
 ·rw[yIn (by rw[zaX];exact q)];obtain⟨κ,k1,k2⟩:=hk (by lia);refine yaa (yac (k1 (λl e=>l=κ/\e={s with heap:=b8 s.heap a vs}) ⟨rfl,rfl⟩) (λl e z=>?_) (λ_ _ z=>z.elim));obtain⟨rfl,rfl⟩:=z;dsimp only;rw[yIn (by rw[zaX];exact q)];have g:=rm (n:=vs.length) (by lia);refine yaa (yac (W.kat_run (Q:=λt e=>∃p:Array Nat,(arrOf t).map (·.2)=(p.toList.map λi=>vs.getD i Value.none).toArray/\failedOf t=none/\p.Perm (zcK vs.length).toArray/\p=Srt.run f (W.kas_sort vs.length)/\e={s with heap:=b8 s.heap a vs}) (G:=λp e=>(p.Perm (zcK vs.length).toArray/\p=Srt.run f (W.kas_sort vs.length))/\e={s with heap:=b8 s.heap a vs}) rfl (by lia) H ?_ (wp_run k2 g ⟨⟨wM g,rfl⟩,rfl⟩)) ?_ (λ_ _ z=>z))
  ·rintro p U e Z y x ⟨⟨v,u⟩,rfl⟩;exact⟨p,W.kat_snds rfl y,x,v,u,rfl⟩
  ·rintro⟨⟨⟩,t⟩ e ⟨p,L,Y,I,X,rfl⟩;dsimp only;refine yaa (seqEpoch_at c rfl (yaa (listUpdate_at c rfl ?_ (zcI _) ?_)))
   ·rw[Y];dsimp only;rw[yIn (by simp)];refine yab ?_;have:=h p I λ_=>X;rw[<-L] at this;exact this
   ·rw[L];have:=I.size_eq;rw[zaX,zbK,zaI,this,zaX,zbe,yaf];lia
mutual
theorem jR{h h':Heap}{b:Addr}{ob:Obj}(g:h.get? b=some ob)(hd:ob.cls≠ .type "tuple")(kp:∀c o,c≠b->h.get? c=some o->h'.get? c=some o):∀(d:yam){v:yai}{as:List Addr},bF d=true->Reads h v d as->Reads h' v d as
 |.int i,v,as,hk,hr=>by cases hr;exact .int ..
 |.str i,v,as,hk,hr=>by cases hr;exact .str ..
 |.tuple xs,v,as,hk,hr=>by
  cases hr with
  |@tuple a o vs m _ _ ho hc hdat hall=>
   have f:a≠b:=λe=>by
    subst e;rw[g] at ho;cases ho;exact hd hc
   exact .tuple (kp a o f ho) hc hdat (l6 g hd kp xs hk hall)
 |.none,_,_,h,_=>by simp[bF] at h
 |.bool _,_,_,h,_=>by simp[bF] at h
 |.list _,_,_,h,_=>by simp[bF] at h
 |.dict _,_,_,h,_=>by simp[bF] at h
theorem l6{h h':Heap}{b:Addr}{ob:Obj}(a:h.get? b=some ob)(hd:ob.cls≠ .type "tuple")(kp:∀c o,c≠b->h.get? c=some o->h'.get? c=some o):∀(ds:List yam){vs:List yai}{as:List Addr},cL ds=true->ReadsAll h vs ds as->ReadsAll h' vs ds as
 |[],vs,as,hk,hr=>by cases hr;exact .nil
 |d::ds,vs,as,hk,hr=>by
  simp only[cL,zbG] at hk;cases hr with
  |cons hx hr=>exact .cons (jR a hd kp d hk.1 hx) (l6 a hd kp ds hk.2 hr)
end
theorem eO{α a:Type}{f:α->a}:∀{ks:List α}{out:List a},out.Perm (ks.map f)->∃o':List α,o'.Perm ks/\out=o'.map f
 |[],out,h=>⟨[],.refl _,by simpa using h⟩
 |k::ks,out,h=>by
  have m:f k∈out:=h.mem_iff.mpr (by simp);obtain⟨l,j,rfl⟩:=List.append_of_mem m;have n:(l++j).Perm (ks.map f):=by
   have:=List.perm_middle.symm.trans h;rw[zch] at this;exact this.cons_inv
  obtain⟨o',e,c⟩:=eO n;obtain⟨i,g,t,q,o⟩:=List.map_eq_append_iff.mp c.symm;subst t;refine⟨i++k::g,List.perm_middle.trans (e.cons k),?_⟩;rw[zbS,zch,q,o]
mutual
theorem B4:∀x:yam,fF x x=false
 |.int i=>by simp only[fF];exact yDf (Int.lt_irrefl i)
 |.str i=>by simp only[fF];exact yDf (List.lt_irrefl _)
 |.tuple xs=>by simp only[fF];exact xo xs
 |.none=>by simp only[fF]
 |.bool _=>by simp only[fF]
 |.list _=>by simp only[fF]
 |.dict _=>by simp only[fF]
theorem xo:∀x:List yam,b5 x x=false
 |[]=>by simp only[b5]
 |x::xs=>by simp only[b5];rw[yIp trivial];exact xo xs
end
mutual
theorem B0:∀x y z:yam,aE x y=true->aE y z=true->aE x z=true->fF x y=true->fF y z=true->fF x z=true
 |.int i,.int j,.int k,_,_,_,h,g=>by simp only[fF,decide_eq_true_eq] at h g⊢;lia
 |.str i,.str j,.str k,_,_,_,h,g=>by simp only[fF,decide_eq_true_eq] at h g⊢;exact List.lt_trans h g
 |.tuple xs,.tuple ys,.tuple zs,a,b,c,h,g=>by simp only[fF] at h g⊢;exact BY xs ys zs a b c h g
 |.none,_,_,a,_,_,_,_=>by simp[aE] at a
 |.bool _,_,_,a,_,_,_,_=>by simp[aE] at a
 |.list _,_,_,a,_,_,_,_=>by simp[aE] at a
 |.dict _,_,_,a,_,_,_,_=>by simp[aE] at a
 |.int i,.str j,_,a,_,_,_,_=>by simp[aE] at a
 |.int i,.tuple j,_,a,_,_,_,_=>by simp[aE] at a
 |.int i,.none,_,a,_,_,_,_=>by simp[aE] at a
 |.int i,.bool j,_,a,_,_,_,_=>by simp[aE] at a
 |.int i,.list j,_,a,_,_,_,_=>by simp[aE] at a
 |.int i,.dict j,_,a,_,_,_,_=>by simp[aE] at a
 |.str i,.int j,_,a,_,_,_,_=>by simp[aE] at a
 |.str i,.tuple j,_,a,_,_,_,_=>by simp[aE] at a
 |.str i,.none,_,a,_,_,_,_=>by simp[aE] at a
 |.str i,.bool j,_,a,_,_,_,_=>by simp[aE] at a
 |.str i,.list j,_,a,_,_,_,_=>by simp[aE] at a
 |.str i,.dict j,_,a,_,_,_,_=>by simp[aE] at a
 |.tuple i,.int j,_,a,_,_,_,_=>by simp[aE] at a
 |.tuple i,.str j,_,a,_,_,_,_=>by simp[aE] at a
 |.tuple i,.none,_,a,_,_,_,_=>by simp[aE] at a
 |.tuple i,.bool j,_,a,_,_,_,_=>by simp[aE] at a
 |.tuple i,.list j,_,a,_,_,_,_=>by simp[aE] at a
 |.tuple i,.dict j,_,a,_,_,_,_=>by simp[aE] at a
 |.int i,.int j,.str _,_,a,_,_,_=>by simp[aE] at a
 |.int i,.int j,.tuple _,_,a,_,_,_=>by simp[aE] at a
 |.int i,.int j,.none,_,a,_,_,_=>by simp[aE] at a
 |.int i,.int j,.bool _,_,a,_,_,_=>by simp[aE] at a
 |.int i,.int j,.list _,_,a,_,_,_=>by simp[aE] at a
 |.int i,.int j,.dict _,_,a,_,_,_=>by simp[aE] at a
 |.str i,.str j,.int _,_,a,_,_,_=>by simp[aE] at a
 |.str i,.str j,.tuple _,_,a,_,_,_=>by simp[aE] at a
 |.str i,.str j,.none,_,a,_,_,_=>by simp[aE] at a
 |.str i,.str j,.bool _,_,a,_,_,_=>by simp[aE] at a
 |.str i,.str j,.list _,_,a,_,_,_=>by simp[aE] at a
 |.str i,.str j,.dict _,_,a,_,_,_=>by simp[aE] at a
 |.tuple i,.tuple j,.int _,_,a,_,_,_=>by simp[aE] at a
 |.tuple i,.tuple j,.str _,_,a,_,_,_=>by simp[aE] at a
 |.tuple i,.tuple j,.none,_,a,_,_,_=>by simp[aE] at a
 |.tuple i,.tuple j,.bool _,_,a,_,_,_=>by simp[aE] at a
 |.tuple i,.tuple j,.list _,_,a,_,_,_=>by simp[aE] at a
 |.tuple i,.tuple j,.dict _,_,a,_,_,_=>by simp[aE] at a
theorem BY:∀x y z:List yam,dh x y=true->dh y z=true->dh x z=true->b5 x y=true->b5 y z=true->b5 x z=true
 |[],[],z,_,_,_,h,_=>by simp[b5] at h
 |[],y::ys,[],_,_,_,_,g=>by simp[b5] at g
 |[],y::ys,z::zs,_,_,_,_,_=>by simp only[b5]
 |x::xs,[],z,_,_,_,h,_=>by simp[b5] at h
 |x::xs,y::ys,[],_,_,_,_,g=>by simp[b5] at g
 |x::xs,y::ys,z::zs,a,b,c,h,g=>by
  simp only[dh,zbG] at a b c;simp only[b5] at h g⊢;by_cases f:x=y
  ·rw[yIp f] at h;subst f;by_cases e:x=z
   ·rw[yIp e] at g⊢;exact BY xs ys zs a.2 b.2 c.2 h g
   ·rw[yIn e] at g⊢;exact g
  ·rw[yIn f] at h;by_cases e:y=z
   ·subst e;rw[yIn f];exact h
   ·rw[yIn e] at g;have t:=B0 x y z a.1 b.1 c.1 h g;rw[yIn (λi=>by subst i;rw[B4] at t;cases t)];exact t
end
mutual
theorem BZ:∀x y:yam,aE x y=true->x≠y->fF x y=true∨fF y x=true
 |.int i,.int j,_,n=>by
  have:i≠j:=λe=>n (by rw[e]);simp only[fF,decide_eq_true_eq];lia
 |.str i,.str j,_,n=>by
  simp only[fF,decide_eq_true_eq];by_cases h:i.cps.toList<j.cps.toList
  ·exact .inl h
  ·by_cases g:j.cps.toList<i.cps.toList
   ·exact .inr g
   ·refine absurd ?_ n;have e:i.cps.toList=j.cps.toList:=List.le_antisymm g h;obtain⟨i⟩:=i;obtain⟨j⟩:=j;have e:i.toList=j.toList:=e;rw[show i=j from Array.toList_inj.mp e]
 |.tuple xs,.tuple ys,a,n=>by
  simp only[fF];exact xm xs ys a λe=>n (by rw[e])
 |.none,_,a,_=>by simp[aE] at a
 |.bool _,_,a,_=>by simp[aE] at a
 |.list _,_,a,_=>by simp[aE] at a
 |.dict _,_,a,_=>by simp[aE] at a
 |.int i,.str j,a,_=>by simp[aE] at a
 |.int i,.tuple j,a,_=>by simp[aE] at a
 |.int i,.none,a,_=>by simp[aE] at a
 |.int i,.bool j,a,_=>by simp[aE] at a
 |.int i,.list j,a,_=>by simp[aE] at a
 |.int i,.dict j,a,_=>by simp[aE] at a
 |.str i,.int j,a,_=>by simp[aE] at a
 |.str i,.tuple j,a,_=>by simp[aE] at a
 |.str i,.none,a,_=>by simp[aE] at a
 |.str i,.bool j,a,_=>by simp[aE] at a
 |.str i,.list j,a,_=>by simp[aE] at a
 |.str i,.dict j,a,_=>by simp[aE] at a
 |.tuple i,.int j,a,_=>by simp[aE] at a
 |.tuple i,.str j,a,_=>by simp[aE] at a
 |.tuple i,.none,a,_=>by simp[aE] at a
 |.tuple i,.bool j,a,_=>by simp[aE] at a
 |.tuple i,.list j,a,_=>by simp[aE] at a
 |.tuple i,.dict j,a,_=>by simp[aE] at a
theorem xm:∀x y:List yam,dh x y=true->x≠y->b5 x y=true∨b5 y x=true
 |[],[],_,n=>absurd rfl n
 |[],y::ys,_,_=>.inl (by simp only[b5])
 |x::xs,[],_,_=>.inr (by simp only[b5])
 |x::xs,y::ys,a,n=>by
  simp only[dh,zbG] at a;simp only[b5];by_cases e:x=y
  ·subst e;rw[yIp rfl,yIp rfl];exact xm xs ys a.2 λe=>n (by rw[e])
  ·rw[yIn e,yIn (Ne.symm e)];exact BZ x y a.1 e
end
noncomputable def OG(S:List yam)(f:∀x∈S,∀y∈S,aE x y=true):Srt.Ord {x // x∈S} where
 lt:=λa b=>fF a.1 b.1
 OP:=λa=>B4 a.1
 tr:=λa b c h g=>B0 _ _ _ (f _ a.2 _ b.2) (f _ b.2 _ c.2) (f _ a.2 _ c.2) h g
 nt:=λa b c h=>by
  by_cases e:a.1=b.1
  ·exact .inr (by rw[<-e];exact h)
  ·rcases BZ _ _ (f _ a.2 _ b.2) e with z|z
   ·exact .inl z
   ·exact .inr (B0 _ _ _ (f _ b.2 _ a.2) (f _ a.2 _ c.2) (f _ b.2 _ c.2) z h)
theorem wc{f:List (yam×Addr)}{p:Array Nat}{n:Nat}{m:yam×Addr}(hok:∀k∈f,bF k.1=true)(Y:∀k∈f,∀l∈f,aE k.1 l.1=true)(H:p.Perm (zcK n).toArray)(I:n=f.length)(Q:2<=n->p=Srt.run (λi j=>fF (f.getD i m).1 (f.getD j m).1) (W.kas_sort n)):
  (p.toList.map λi=>f.getD i m).Pairwise (λx y=>fF y.1 x.1=false):=by
 have P:p.size=n:=by have:=H.size_eq;simpa using this
 rw[zah];intro i j q u X;have z:i<p.size:=by simpa using q
 have t:j<p.size:=by simpa using u
 have Z:2<=n:=by lia
 have v:∀i∈p.toList,i<f.length:=λi q=>by
  have:=(zad.mp H).mem_iff.mp q;rw[<-I];simpa using this
 cases f with
 |nil=>simp at I;lia
 |cons c rest=>
  generalize L:(c::rest).map (·.1)=S;have C:∀x∈S,∀y∈S,aE x y=true:=λx o y G=>by
   rw[<-L] at o G;obtain⟨a,a1,rfl⟩:=zcu.mp o;obtain⟨b,b1,rfl⟩:=zcu.mp G;exact Y a a1 b b1
  have U:∀i,((c::rest).getD i c).1∈S:=λi=>by
   rw[<-L];refine zcu.mpr ⟨_,?_,rfl⟩;by_cases h:i<(c::rest).length
   ·rw[zcO,zak h];exact zby h
   ·rw[zcO,zau (by lia)];simp
  obtain⟨F,e1,e2,e3⟩:=Srt.DZ (O:=OG S C) (k:=λi=>⟨((c::rest).getD i c).1,U i⟩) (n:=n) (by lia);have eq:Srt.run (λi j=>fF ((c::rest).getD i m).1 ((c::rest).getD j m).1) (W.kas_sort n)=F:=by
   rw[<-e1];refine run_eq (rm (n:=n) (by lia)) λi j q u=>?_;have d:∀i,i<n->(c::rest).getD i m=(c::rest).getD i c:=λi q=>by
    have:i<(c::rest).length:=by lia
    rw[zcO,zcO,zak this];rfl
   show _=fF ((c::rest).getD i c).1 ((c::rest).getD j c).1;rw[d i q,d j u]
  obtain rfl:p=F:=(Q Z).trans eq;have:=e3 i j (by lia) (by lia);have this:fF ((c::rest).getD (p.getD j 0) c).1 ((c::rest).getD (p.getD i 0) c).1=false:=this;have g:∀x (o:x<p.size),(c::rest).getD (p.getD x 0) c=(c::rest).getD p[x] m:=λx o=>by
   have e:p.getD x 0=p[x]:=by simp[zcM,o]
   rw[e];have:p[x]<(c::rest).length:=v _ (Array.getElem_mem_toList o);rw[zcO,zcO,zak this];rfl
  rw[g i z,g j t] at this;rw[zbz,zbz,Array.getElem_toList,Array.getElem_toList];exact this
def oh(h:Heap)(k:yam×Addr):Prop:=isKey h k.1 k.2/\∃p r,k.1=.tuple (.int p::r)
theorem su{h:Heap}:∀{ks:List (yam×Addr)},(∀k∈ks,oh h k)->∃fs,W.KatTups h (ks.map λk=>.ref k.2) fs/\fs.length=ks.length/\∀f∈fs,∃i t,f=Value.int i t
 |[],_=>⟨[],.nil,rfl,by simp⟩
 |(d,a)::ks,hk=>by
  obtain⟨fs,x,u,q⟩:=su λk g=>hk k (zaz _ g);obtain⟨⟨k1,k2,as,n⟩,p,r,e⟩:=hk (d,a) (by simp);have e:d=.tuple (.int p::r):=e;subst e;cases n with
  |@tuple _ o vs m _ _ ho hc hdat hall=>
   generalize c:vs.toList=l at hall;cases hall with
   |@cons v l' _ _ a1 b1 g1 t1=>
    cases g1 with
    |int _ t=>
     refine⟨.int p t::fs,.cons ho hc hdat ?_ x,by simp[u],λf j=>?_⟩
     ·rw[<-zax,c];rfl
     ·rcases zcg.mp j with rfl|j
      ·exact⟨p,t,rfl⟩
      ·exact q f j
theorem FZ{ks:List (yam×Addr)}(L:∀k∈ks,oh s.heap k)(X:∀k∈ks,∀l∈ks,aE k.1 l.1=true)(S:A.units+6<cLine)(i j:Nat)(C:Bool->yah->Prop)(u:i<ks.length)(g:j<ks.length)(h:C (fF ks[i].1 ks[j].1) s):
  W.kas_ask prog w A (tuples' true) (ks.map λk=>.ref k.2) i j C s:=by
 have H:=L ks[i] (zby u);have G:=L ks[j] (zby g);have a:=X ks[i] (zby u) ks[j] (zby g);have e:∀n (I:n<ks.length),(ks.map λk=>Value.ref k.2).getD n Value.none=.ref ks[n].2:=λn I=>by simp[zcO,I]
 unfold W.kas_ask;rw[e i u,e j g];generalize ks[i]=x at H a h;generalize ks[j]=y at G a h;obtain⟨⟨k1,k2,as,U⟩,p,r,F⟩:=H;obtain⟨⟨Q,c,bs,gr⟩,q,t,v⟩:=G;obtain⟨Z,ax⟩:=x;obtain⟨Y,ay⟩:=y;have F:Z=.tuple (.int p::r):=F;have v:Y=.tuple (.int q::t):=v;subst F;subst v;have k2:(PyData.tuple (.int p::r)).depth<=6:=k2;have c:(PyData.tuple (.int q::t)).depth<=6:=c;rw[bh] at k2 c;cases U with
 |@tuple _ o us m _ _ ho hcl hdat hall=>
  cases gr with
  |@tuple _ o2 vs m2 _ _ ho2 hcl2 hdat2 hall2=>
   have P:=dG hall;have O:=dG hall2;rw[zaI] at P O;exact W.kat_lt ho hdat ho2 hdat2 (sq _ _ 0 (λz f=>by have:=bV f;lia) (λz f=>by have:=bV f;lia) k1 Q a hall hall2 S (λ_=>⟨p,q,r,t,rfl,rfl⟩) (by lia) h)
theorem pC{h:Heap}{a:Addr}{vs:List yai}{b:Addr}{o:Obj}(c:b≠a)(e:h.get? b=some o):(b8 h a vs).get? b=some o:=
 zaq _ (zaq _ ((zar _ _ (Ne.symm c)).trans e))
theorem uo{d:Addr}{ks:List (yam×Addr)}{R:yah->Prop}{Q:yai->yah->Prop}(hh:A.handled=none)(hk:∀k∈ks,oh s.heap k)(hc:∀k∈ks,∀l∈ks,aE k.1 l.1=true)(h64:ks.length<64)(hu:A.units+20<cLine)(col:∀{A':yal}{Q':List yai->yah->Prop}{U:yai->yah->Prop},A'.handled=none->(∀s1 (a:List (yam×Addr)),(∀b o,s.heap.get? b=some o->s1.heap.get? b=some o)->R s1->a.Perm ks->Q' (a.map λk=>Value.ref k.2) s1)->yar (model prog w) A' (collect (.ref d)) Q' U s)(h:∀(s1:yah)(n:Heap)(out:List (yam×Addr))(c:Nat),R s1->(∀b o,s.heap.get? b=some o->s1.heap.get? b=some o)->(∀b o,s1.heap.get? b=some o->n.get? b=some o)->n.get? s1.heap.objs.size=some (seqObj "list" (out.map λk=>Value.ref k.2).toArray c)->out.Perm ks->out.Pairwise (λx y=>fF y.1 x.1=false)->Q (.ref s1.heap.objs.size) {s1 with heap:=n}):
  yar (model prog w) A (call (.builtin "sorted") [.ref d]) Q E s:=by
 refine zaj kind_sorted plain_sorted entry_sorted (args_sorted1 _) ?_;unfold Builtin.«sorted»;refine yaa (m:=checkCount "sorted" 1 1 _) (yab ?_);refine yaa (col ?_ λs1 a kp hR f=>?_)
 ·exact hh
 have hol:a.length=ks.length:=f.length_eq;generalize g:(a.map λk=>Value.ref k.2)=vs;have H:vs.length=a.length:=by rw[<-g,zbK]
 refine yaa (wpAny_newList ?_ (by first|(rw[yaf];lia)|(rw[zaX,yaf];lia)));have S:(s1.heap.push (seqObj "list" vs.toArray 0)).get? s1.heap.objs.size=some (seqObj "list" vs.toArray 0):=zaJ _ rfl;have F:∀k∈a,oh (b8 (s1.heap.push (seqObj "list" vs.toArray 0)) s1.heap.objs.size vs) k:=λk u=>by
  obtain⟨⟨k1,k2,as,hr⟩,r⟩:=hk k (f.mem_iff.mp u);exact⟨⟨k1,k2,as,jR S (λz=>by injection z with z;exact absurd z (by decide)) (λc o Z e=>pC Z e) _ k1 (Reads.keeps (λb o e=>zaq _ (kp b o e)) hr)⟩,r⟩
 have O:∀k∈a,∀l∈a,aE k.1 l.1=true:=λk h1 l n=>hc k (f.mem_iff.mp h1) l (f.mem_iff.mp n);generalize hdef:(PyData.none,(0:Addr))=df;have key:∀(A':yal),A'.units+8<cLine->∀{P:PySem.Fin->yah->Prop}{U:yai->yah->Prop},(∀p:Array Nat,p.Perm (zcK vs.length).toArray->(2<=vs.length->p=Srt.run (λi j=>fF (a.getD i df).1 (a.getD j df).1) (W.kas_sort vs.length))->P (.done (.ret .none)) {s1 with heap:=sortedHeap (s1.heap.push (seqObj "list" vs.toArray 0)) s1.heap.objs.size vs (p.toList.map λi=>vs.getD i Value.none).toArray})->
   yar (model prog w) A' (Builtin.«list.sort» ⟨[.ref s1.heap.objs.size],[]⟩) P U {s1 with heap:=s1.heap.push (seqObj "list" vs.toArray 0)}:=λA' hA P U hP=>by
  refine m6 (s:={s1 with heap:=s1.heap.push (seqObj "list" vs.toArray 0)}) _ S (by lia) (λn=>⟨tuples' true,λQ' hQ'=>?_,?_⟩) hP
  ·obtain⟨fs,f1,f2,f3⟩:=su F;rw[g] at f1;refine W.kat_kind (T:=.type "int") f1 (by lia) (λv hv=>?_) (by decide) hQ';obtain⟨i,t,rfl⟩:=f3 v hv;intro A2 Q2 E2 s2 _ q;exact wpAny_typeOf (typeIs_int s2 i t) q
  ·intro i j C G hj hC;have e:∀i (G:i<a.length),a.getD i df=a[i]:=λi G=>by simp[zcO,G]
   rw[e i (by lia),e j (by lia)] at hC;have:=FZ (prog:=prog) (w:=w) (A:=A') (s:={s1 with heap:=b8 (s1.heap.push (seqObj "list" vs.toArray 0)) s1.heap.objs.size vs}) F O (by lia) i j C (by lia) (by lia) hC;rw[g] at this;exact this
 refine yaa (yad (wpAny_call_entry slot_list_sort ⟨_,S,rfl⟩ entry_list_sort (key _ ?_ λp hp I=>⟨_,rfl,?_⟩) (args_list_sort _)))
 ·show A.units+1+1+8<cLine;lia
 ·obtain⟨c,Y⟩:=sortedHeap_at (out:=(p.toList.map λi=>vs.getD i Value.none).toArray) S;have L:p.toList.Perm (zcK a.length):=by have:=zad.mp hp;rw[H] at this;simpa using this
  have X:∀i∈p.toList,i<a.length:=λi G=>zca.mp (L.mem_iff.mp G);have eo:(p.toList.map λi=>vs.getD i Value.none)=(p.toList.map λi=>a.getD i df).map λk=>Value.ref k.2:=by
   rw[zct];refine zaF λi G=>?_;have:=X i G;rw[<-g];simp[zcO,this]
  refine yab ⟨_,rfl,h s1 _ (p.toList.map λi=>a.getD i df) c hR kp (λb o e=>?_) (by rw[<-eo];exact Y) ?_ ?_⟩
  ·have lb:=zcE e;show(sortedHeap _ _ _ _).get? b=some o;rw[sortedHeap_old (zcv lb) (by rw[size_push'];exact zbh lb)];exact zaq _ e
  ·refine(L.map _).trans ?_;have:(zcK a.length).map (λi=>a.getD i df)=a:=by
    refine zbx (by simp) λi h1 n=>?_;simp[zcO,zak n]
   rw[this];exact f
  ·exact wc (λk u=>(F k u).1.1) O hp H I
theorem rj{d:Addr}{es:Array yav}{ep:Nat}{ks:List (yam×Addr)}{Q:yai->yah->Prop}(v:A.handled=none)(m:(d==yas)=false)(C:fO s.heap d es ep)(a:es.toList.map (·.key)=ks.map λk=>.ref k.2)(u:∀k∈ks,oh s.heap k)(x:∀k∈ks,∀l∈ks,aE k.1 l.1=true)(i:ks.length<64)(n:A.units+20<cLine)(h:∀(h1 e:Heap)(tk:Nat)(out:List (yam×Addr))(c:Nat),(∀b o,s.heap.get? b=some o->h1.get? b=some o)->(∀b o,h1.get? b=some o->e.get? b=some o)->e.get? h1.objs.size=some (seqObj "list" (out.map λk=>Value.ref k.2).toArray c)->out.Perm ks->Q (.ref h1.objs.size) {s with heap:=e,toks:=tk}):
  yar (model prog w) A (call (.builtin "sorted") [.ref d]) Q E s:=by
 have q:es.size=ks.length:=by have:=congrArg zcG a;simpa using this
 refine uo (R:=λj=>∃h1 tk,j={s with heap:=h1,toks:=tk}) v u x i n (λf z=>nC m f C (by rw[yaf];lia) λh1 tk kp=>?_) λj e out c y k1 k2 g t _=>?_
 ·rw[a];exact z _ ks kp ⟨h1,tk,rfl⟩ (.refl _)
 ·obtain⟨h1,tk,rfl⟩:=y;exact h h1 e tk out c k1 k2 g t
end
end M6
namespace L2
open PySem PySem.Spec PyProof.Rows M6
def gh(W:yak)(a:Addr)(c:List (yam×Addr)):Heap->Prop:=λh=>(a==yas)=false/\∃o e f,h.get? a=some o/\o.ExactDict/\o.data=Data.dict e f/\
 e.toList=c.map (λx=>({hash:=br W x.1,key:=.ref x.2,val:=.bool true}:yav))/\(c.map (·.1)).Nodup
theorem gh.at{W:yak}{a:Addr}{c:List (yam×Addr)}{h h':Heap}(x:gh W a c h)(e:∀o,h.get? a=some o->h'.get? a=some o):gh W a c h':=by
 obtain⟨z,o,g,i,f,r⟩:=x;exact⟨z,o,g,i,e o f,r⟩
theorem gh.ok{P:yaj}{w W:yak}{H:Hp}{h:Heap}{a:Addr}{c:List (yam×Addr)}(x:gh W a c h):aJ P w H h a (.ext (gh W a c)):=by
 obtain⟨z,o,i,j,f,r⟩:=id x;exact⟨x,⟨o,f⟩,λf g y e=>y.at e⟩
theorem fc{P:yaj}{w W:yak}{H:Hp}{h:Heap}{a b:Addr}{g:List (yam×Addr)}(x:aJ P w H h a (.ext (gh W b g))):b=a:=by
 obtain⟨y,⟨o,e⟩,i⟩:=x;apply Classical.byContradiction;intro c;obtain⟨z,t,F,G,l,E,C,r⟩:=id y;have n:(h.update b λ_=>{cls:=.none}).get? a=some o:=(zar _ _ c).trans e;have m:(h.update b λ_=>{cls:=.none}).get? b=some {cls:=.none}:=zay (λ_=>{cls:=.none}) l rfl;obtain⟨_,u,q,s,k1,k2,j,_⟩:=i h (h.update b λ_=>{cls:=.none}) y λv f=>by rw[e] at f;cases f;exact n
 rw[m] at k1;cases k1;cases j
noncomputable def iZ(a:List (yam×Addr))(d:yam)(b:Addr):List (yam×Addr):=if(a.any λx=>decide (x.1=d))=true then a else a++[(d,b)]
theorem ko(a:List (yam×Addr))(d:yam)(b:Addr):storedH (a.map λx=>(x.1,x.2,Value.bool true)) d b (.bool true)=(iZ a d b).map λx=>(x.1,x.2,Value.bool true):=by
 have e:(atKey (a.map λx=>(x.1,x.2,Value.bool true)) d).isSome=(a.any λx=>decide (x.1=d)):=by
  unfold atKey;rw[zbo]
  induction a with
  |nil=>rfl
  |cons x a ih=>
   rw[zch,zbO,zci];by_cases h:x.1=d
   ·simp[h]
   ·simp only[h,decide_false,zcn];exact ih
 unfold storedH iZ;rw[e];by_cases h:(a.any λx=>decide (x.1=d))=true
 ·rw[yIp h,yIp h,zct];refine zaF λx _=>?_;simp only[Function.comp,putAt];split<;>rfl
 ·rw[yIn h,yIn h,zbS];rfl
section
variable {X:Cx}{pins:List (Addr×Obj)}{σ:St}{H:Hp}{s:yah}{A:yal}{E:yai->yah->Prop}
def gn(K:yaI)(H:Hp)(a:List (yam×Addr)):Prop:=∀x∈a,bF x.1=true/\x.1.depth<=6/\cu K H x.1 (.ref x.2)
theorem Inv.key(I:Inv X pins σ H s){d:yam}{b:Addr}(h1:bF d=true)(c:d.depth<=6)(a:cu X.K H d (.ref b)):isKey s.heap d b:=
 ⟨h1,c,I.reads d (.ref b) (.ref b) a rfl⟩
theorem yM{a b:Addr}{c:List (yam×Addr)}{d:yam}{Q:Unit->yah->Prop}(hu:A.units+20<cLine)(I:Inv X pins σ H s)(e:H a=some (.ext (gh X.w a c)))(S:gn X.K H c)(h1:bF d=true)(W:d.depth<=6)(U:cu X.K H d (.ref b))(hl:c.length<1000)(h:∀s',Inv X pins σ (upd H a (.ext (gh X.w a (iZ c d b)))) s'->Q () s'):yar (model X.prog X.w) A (setItem (.ref a) (.ref b) (.bool true)) Q E s:=by
 obtain⟨⟨z,o,Z,ep,O,G,hd,i,P⟩,_,_⟩:=(show aJ X.prog X.w H s.heap a (.ext (gh X.w a c)) from I.hok a _ e)
 have dd:Heap.DictOfH (aD X.prog X.w) s.heap a (c.map λx=>(x.1,x.2,Value.bool true)):=by
  refine⟨o,Z,ep,O,G,hd,?_,λx g=>?_,?_⟩
  ·rw[i,zct];rfl
  ·obtain⟨y,F,rfl⟩:=zcu.mp g;obtain⟨k1,k2,C⟩:=S y F;exact I.key k1 k2 C
  ·rw[zct];exact P
 refine wpAny_setItem_heap (knd:=aD X.prog X.w) (hsz:=by rw[zbK,yaf];lia) (show A.units+1+10<cLine by lia) (I.key h1 W U) dd λY f L=>h _ ?_;rw[ko] at f;obtain⟨q,j,l,n,v,u,t,_,m⟩:=f;have nn:gh X.w a (iZ c d b) Y:=⟨z,q,j,l,n,v,u,by rw[t,zct];rfl,by rw[zct] at m;exact m⟩
 exact lE I (by rw[e];exact True.intro) L ⟨q,n⟩ nn.ok
end
def Ae(W:yak):TE:=λ_ H Q=>∀p,H p=none->Q (.ref p) (upd H p (.ext (gh W p [])))
def GJ(K:yaI)(W:yak)(i ty h:TE):TS:=λD c H=>h c H λv l=>i c l λx j=>ty c j λy f=>∃(a g b:Addr)(e:List (yam×Addr))(d:yam),v=.bl true/\x=.ref a/\y=.ref b/\f a=some (.ext (gh W g e))/\
 gn K f e/\bF d=true/\d.depth<=6/\cu K f d (.ref b)/\e.length<1000/\(g=a->D.nx c (upd f a (.ext (gh W a (iZ e d b)))))
def Bu(K:yaI)(W:yak):List V->Hp->VK->Prop:=λe H Q=>∃(a f:Addr)(c:List (yam×Addr)),e=[.ref a]/\H a=some (.ext (gh W f c))/\gn K H c/\(∀k∈c,∃p r,k.1=PyData.tuple (.int p::r))/\(∀k∈c,∀l∈c,aE k.1 l.1=true)/\c.length<64/\
 ∀(p:Addr)(out:List (yam×Addr)),H p=none->out.Perm c->Q (.ref p) (upd H p (.lst (out.map λk=>V.ref k.2)))
theorem dF{α:Type}(f:α->Addr):∀l:List α,Vals (l.map λx=>V.ref (f x)) (l.map λx=>Value.ref (f x))
 |[]=>.nil
 |x::l=>.cons rfl (dF f l)
section
variable {X:Cx}{o i value:Expr}{td ty tv:TE}{pos pos':Pos}
theorem fJ:PE X (.Dict [] [] pos) (Ae X.w):=λc s e H Q I h=>
 wpAny_Dict_empty ⟨.ref s.heap.objs.size,_,I.laid (a:=s.heap.objs.size) (o:=.ext (gh X.w s.heap.objs.size [])) (t':=s.toks) (λ_ _ q=>zaq _ q) (zcH _) (gh.ok ⟨beq_eq_false_iff_ne.mpr (Ne.symm (zcv I.big)),_,#[],0,zaJ _ rfl,⟨rfl,rfl,rfl⟩,rfl,rfl,List.nodup_nil⟩),rfl,h _ (I.hok.fresh (zcH _))⟩
theorem fX(P:X.A.units+20<cLine)(S:PE X o td)(U:PE X i ty)(O:PE X value tv)(Q:yat value (some (.Subscript o i pos')) pos.line X.env=pure false):
  PS X (.Assign [.Subscript o i pos'] value pos) (GJ X.K X.w td ty tv):=by
 intro c s f H D I h;refine wpAny_Assign_Subscript (b6 (O c s f H _ I h) λr n ⟨v,H1,I1,z,C⟩=>b6 (S c n f H1 _ I1 C) λu m ⟨x,H2,I2,t,q2⟩=>b6 (U c m f H2 _ I2 q2) λL l ⟨y,H3,g,q,a,Z,b,j,d,Y,ex,W,e,k1,k2,G,F,E,q3⟩=>?_) Q;subst Y ex W;obtain rfl:u=Value.ref a:=t;obtain rfl:L=Value.ref b:=q;obtain rfl:r=Value.bool true:=z;obtain rfl:=fc (show aJ X.prog X.w H3 l.heap a (.ext (gh X.w Z j)) from g.hok a _ e);exact yM P g e k1 k2 G F E λs4 I4=>⟨f,_,I4,q3 rfl⟩
theorem vh{k:Nat}(x:aQ k X.A):bW X (.builtin "sorted") (Bu X.K X.w):=by
 intro f s F H xs us Q I r h;obtain⟨a,Z,G,rfl,e,U,Y,W,S,q⟩:=h;obtain⟨u,rfl,ru⟩:=vals1 r;cases ru;have t:=(show aJ X.prog X.w H s.heap a (.ext (gh X.w Z G)) from I.hok a _ e)
 obtain rfl:=fc t;obtain⟨⟨z,o,es,ep,P,O,hd,m,hn⟩,_,_⟩:=t;refine rj x.hd z ⟨o,P,O,hd⟩ (by rw[m,zct];rfl) (λy v=>?_) W S (by have:=x.units;lia) λn h2 tk out c l j g C=>?_
 ·obtain⟨k1,k2,L⟩:=U y v;exact⟨I.key k1 k2 L,Y y v⟩
 ·have E:Inv X f F H {s with heap:=n,toks:=tk}:=I.kept (t':=tk) l;refine⟨.ref n.objs.size,_,E.laid (a:=n.objs.size) (t':=tk) (o:=.lst (out.map λk=>V.ref k.2)) j (zcH _) ⟨by rw[zbK,C.length_eq,yaf];lia,_,c,dF (λk=>k.2) out,g⟩,rfl,q _ out (E.hok.fresh (zcH _)) C⟩
end
end L2
namespace M6
open PySem PySem.Spec PyProof.Rows
section
variable {prog:yaj}{w:yak}{A:yal}{E:yai->yah->Prop}{s:yah}
theorem sA{es:Array yav}{c:Array yai}(a:ItemsOf (λi v=>∃e,es[i]? =some e/\v=e.key) c es.size):c.toList=es.toList.map (·.key):=by
 refine zbd λi=>?_;rw[zax,zaZ,zax];cases z:c[i]? with
 |some v=>
  obtain⟨e,f,rfl⟩:=a.2 i v z;rw[f];rfl
 |none=>
  have:es.size<=i:=by rw[<-a.1];exact zac.mp z
  rw[zap this];rfl
end
end M6
namespace L2
open PySem PySem.Spec PyProof.Rows M6
theorem JS{k:Key}{u:yai}(h:ng k u=true):RelV (kV k) u:=by
 rcases bJ h with⟨i,t,rfl,rfl⟩|⟨x,t,rfl,rfl⟩
 ·exact⟨t,rfl⟩
 ·exact⟨t,rfl⟩
theorem sy{prog:yaj}{w:yak}:∀{kvs:List (Key×V)}{vs:List (Key×yai)}{es:List yav},KV kvs vs->Pairs (bM prog w) es vs->Vals (kvs.map λp=>kV p.1) (es.map (·.key))
 |[],_,es,h1,h2=>by cases h1;cases h2;exact .nil
 |p::kvs,_,es,h1,h2=>by
  cases h1 with
  |cons r t=>
   cases h2 with
   |cons g1 g2 g3=>
    refine .cons ?_ (sy t g3);show RelV (kV p.1) _;rw[r.1];exact JS g1
def IW:List V->Hp->VK->Prop:=λe H Q=>∃(a:Addr)(c:List (Key×V)),e=[.ref a]/\H a=some (.dK c)/\∀p,H p=none->Q (.ref p) (upd H p (.lst (c.map λx=>kV x.1)))
def IY(e:Bool):R2:=λy x H Q=>∃a c k,x=.ref a/\y=kV k/\H a=some (.dK c)/\Q (.bl (e != (gA c k).isSome)) H
section
variable {X:Cx}
theorem Bs{c:List (Addr×Obj)}{h:St}{H:Hp}{s:yah}{a:Addr}{kvs:List (Key×V)}(I:Inv X c h H s)(e:H a=some (.dK kvs)):(a==yas)=false/\kvs.length<=yag/\∃es ep,fO s.heap a es ep/\Vals (kvs.map λx=>kV x.1) (es.toList.map (·.key)):=by
 obtain⟨z,hd,m,g,o,es,ep,l,i,f,q,j,n⟩:=Hi I.hok e;exact⟨hd,z,es,ep,⟨o,l,i,f⟩,sy g j⟩
theorem vm{k:Nat}(y:aQ k X.A):bW X (.type "list") IW:=by
 intro l s F H G L Q I r h;obtain⟨a,f,rfl,e,q⟩:=h;obtain⟨u,rfl,ru⟩:=vals1 r;cases ru;obtain⟨v,m,t,P,C,n⟩:=Bs I e;have z:t.size=f.length:=by have:=n.length;simpa using this.symm
 refine W.kdl_call (HR v) y.hd C (by rw[z];exact m) λO tk j c kp g i=>?_;have E:j.toList=t.toList.map (·.key):=sA i;refine⟨.ref s.heap.objs.size,_,I.laid (a:=s.heap.objs.size) (t':=tk) (o:=.lst (f.map λx=>kV x.1)) kp (zcH _) ⟨by rw[zbK];exact m,j.toList,c,by rw[E];exact n,by rw[Array.toArray_toList];exact g⟩,rfl,q _ (I.hok.fresh (zcH _))⟩
theorem Jr(j:X.A.units+1<cLine):fG X (yan .In) (IY false):=by
 intro f s m H y x v u Q I g i h;obtain⟨a,c,k,rfl,rfl,e,q⟩:=h;obtain rfl:u=Value.ref a:=i;exact O3 j I (oK.k e) g λn l=>⟨.bl (gA c k).isSome,H,l,rfl,by simpa using q⟩
theorem yG(j:X.A.units+1<cLine):fG X (yan .NotIn) (IY true):=by
 intro f s m H y x v u Q I g i h;obtain⟨a,c,k,rfl,rfl,e,q⟩:=h;obtain rfl:u=Value.ref a:=i;exact Fy j I (oK.k e) g λn l=>⟨.bl (!(gA c k).isSome),H,l,rfl,by simpa using q⟩
end
end L2
namespace M6
open PySem PySem.Spec PyProof.Rows
theorem yQ:typeLookup (.type "list") (Str.ofString "keys")=pure none:=by rw[typeLookup_type];kernel_rfl
section
variable {prog:yaj}{w:yak}{A:yal}{E:yai->yah->Prop}{s:yah}
theorem pK{a:Addr}{l:Array yai}{k:Nat}{Q:Option yai->yah->Prop}(j:s.heap.get? a=some {cls:=.type "list",data:=.seq l k})(y:A.handled=none)(h:∀(h':Heap)(tk:Nat),(∀b o,s.heap.get? b=some o->h'.get? b=some o)->Q none {s with heap:=h',toks:=tk}):yar (model prog w) A (getAttr? (.ref a) (Str.ofString "keys")) Q E s:=by
 have n:=sub_AttributeError;have L:=PySem.F.slot_list_getattribute.lookup;have I:=PySem.F.slot_list_getattribute.bind (Value.ref a);have G:=am_list_getattr_none;have z:=yQ;obtain⟨m,g,d,tk,os⟩:=s;dsimp only at h j⊢;have H:Shared.TypeIs ⟨m,g,d,tk,os⟩ (.ref a) "list":=⟨_,j,rfl⟩
 unfold getAttr? getAttrBy? getAttrBy getAttrByItsOwn callGetattribute boundAndCalled;generalize x:@PySem.call=C
 wp_walk
 subst x;refine call_meets PySem.F.slot_list_getattribute (s:=⟨m,g,d,tk+1,os⟩) ⟨_,j,rfl⟩ am_entry_list_getattribute (PySem.F.args_list_getattribute_2 (Value.ref a) (Value.str (Str.ofString "keys") tk)) (meets_getattribute_miss_list a l k #[] (Str.ofString "keys") tk z (by decide+kernel)) ⟨j,y,λh' c e f=>?_⟩;obtain⟨t,u,v⟩:=f.there;have i:Shared.TypeIs ⟨h',g,d,c,os⟩ (.ref e) "AttributeError":=⟨_,v,rfl⟩
 have q:=f.keeps;show yar (model prog w) A (getattributeRaised (Value.ref a) (Value.str (Str.ofString "keys") tk) (Value.type "list") (.ref e) none false false) _ _ _;unfold getattributeRaised;refine yaa (wpAny_isInstance i n ?_);rw[yIp rfl];refine yaa (wpAny_of_eq G ?_);show yar (model prog w) A (do let _ <-throw (Value.ref e);_) _ _ _;refine yaa (wpAny_throw ?_);show yar (model prog w) A (do
       let __do_lift <-isInstance (Value.ref e) (Value.type "AttributeError")
       if __do_lift=true then pure none else throw (Value.ref e)) Q E _
 refine yaa (wpAny_isInstance i n ?_);rw[yIp rfl];exact yab (h h' c q)
end
theorem g9:entryFor table "dict.update.loop"=some Builtin.«dict.update.loop»:=entryFor_of_tree (by kernel_rfl)
theorem cT:plainId "dict.update.loop"=true:=by decide+kernel
noncomputable def bT{K:Type}[DecidableEq K](ps:List (K×yai)):List (K×yai):=ps.foldl (λa p=>stored a p.1 p.2) []
section
variable {prog:yaj}{w:yak}{A:yal}{E:yai->yah->Prop}{s:yah}{K:Type}[DecidableEq K]{knd:KeyKind prog w K}
def iQ(knd:KeyKind prog w K)(h:Heap)(v:yai)(p:K×yai):Prop:=∃t a o n,v=.ref t/\h.get? t=some o/\o.cls=.type "tuple"/\o.data=.seq #[a,p.2] n/\knd.is p.1 a=true
theorem iQ.at{h h':Heap}{v:yai}{p:K×yai}(x:iQ knd h v p)(e:∀b o,o.cls=.type "tuple"->h.get? b=some o->h'.get? b=some o):iQ knd h' v p:=by
 obtain⟨t,c,o,n,i,g,a,f⟩:=x;exact⟨t,c,o,n,i,e t o a g,a,f⟩
theorem lA{h h':Heap}{d:Addr}{kvs:List (K×yai)}(x:Heap.DictOf knd h d kvs)(e:∀o,h.get? d=some o->h'.get? d=some o):Heap.DictOf knd h' d kvs:=by
 obtain⟨o,c,f,a,r⟩:=x;exact⟨o,c,f,e o a,r⟩
theorem uh(kvs:List (K×yai))(k:K)(v:yai):(stored kvs k v).length<=kvs.length+1:=by
 unfold stored;split
 ·rw[zbK];lia
 ·rw[zaL];exact zcH _
theorem lQ(ps:List (K×yai))(p:K×yai):bT (ps++[p])=stored (bT ps) p.1 p.2:=by
 unfold bT;rw[List.foldl_append];rfl
theorem oq(ps:List (K×yai)):(bT ps).length<=ps.length:=by
 have:∀(l c:List (K×yai)),(l.foldl (λc p=>stored c p.1 p.2) c).length<=c.length+l.length:=by
  intro l
  induction l with
  |nil=>intro c;simp
  |cons a r ih=>intro c;rw[zbQ,zbq];have:=ih (stored c a.1 a.2);have:=uh c a.1 a.2;lia
 have:=this ps [];simpa[bT] using this
theorem yS{I l d:Addr}{its:Array yai}{ps:List (K×yai)}{R:Result->yah->Prop}{St:Nat->Heap->Prop}(W:Walks prog w A.in1 I [I,l] [I] its.size (λi v=>its[i]? =some v) St)(hSt:∀i h,St i h->∀o,h.get? I=some o->o.cls≠ .type "tuple")(n:d≠I)(Y:d≠l)(G:its.size=ps.length)(hn:ps.length<=1000):
  ∀(k i:Nat)(s:yah),its.size - i=k->i<=its.size->St i s.heap->Heap.DictOf knd s.heap d (bT (ps.take i))->(∀(i:Nat)(v:yai)(p:K×yai),its[i]? =some v->ps[i]? =some p->iQ knd s.heap v p)->
   (∀(h':Heap)(tk:Nat),Heap.DictOf knd h' d (bT ps)->(∀b o,b≠d->b≠I->s.heap.get? b=some o->h'.get? b=some o)->R (.ok (.ret .none)) {s with heap:=h',toks:=tk})->
   codeAny (model prog w) A (.builtin "dict.update.loop" ⟨[.ref d,.ref I,rawInt i,.none],[]⟩) R s:=by
 intro k
 induction k with
 |zero=>
  intro i s hk hi c P hp hR;obtain rfl:i=its.size:=by lia
  refine codeAny_builtin g9 ?_;rw[Around.under_plainId cT _];show yar _ A.in1 (pyNext (.ref I) >>= _) _ _ s;refine yaa (W.done s _ _ c λh' tk u=>?_);rw[G,zbv] at P;refine yaa (yab ?_);exact yab (hR h' tk (lA P λo e=>u d o (by simpa using n) e) λb o q a e=>u b o (by simpa using a) e)
 |succ k ih=>
  intro i s hk hi c P hp hR;have F:i<its.size:=by lia
  refine codeAny_builtin g9 ?_;rw[Around.under_plainId cT _];show yar _ A.in1 (pyNext (.ref I) >>= _) _ _ s;refine yaa (W.item i s _ _ F c λv h' tk hP x u=>?_);have y:ps[i]? =some ps[i]:=zak (by lia);have C:∀(i:Nat)(v:yai)(p:K×yai),its[i]? =some v->ps[i]? =some p->iQ knd h' v p:=λj v p q a=>(hp j v p q a).at λb o g e=>u b o (by
   intro z;simp only[zaO] at z;subst z;exact hSt i _ c o e g) e
  obtain⟨t,ku,o,m,rfl,ho,g,hd,X⟩:=C i v _ hP y;have H:Heap.DictOf knd h' d (bT (ps.take i)):=lA P λo e=>u d o (by simpa using n) e;dsimp only;refine yaa (yad ?_);refine yaa (wpAny_tryCatch ?_);unfold Builtin.Dict.pairItems;refine yaa (wpAny_typeOf (T:="tuple") ⟨o,ho,g⟩ ?_);rw[yIp (by decide)];refine yaa (wpAny_seqItems ho hd (yab ?_));have a:=oq (ps.take i);rw[zbr] at a;refine yad (wpAny_dictSet_pairs X H (λf L hs=>?_) (by rw[yaf];lia));have e9:∀b o,b≠d->h'.get? b=some o->f.get? b=some o:=λb o O e=>(hs.2 b O).trans e;refine yab ⟨plainId_quiet cT _,?_⟩;rw[show((i:Int)+1)=((i+1:Nat):Int) by lia];refine ih (i+1) {s with heap:=f,toks:=tk+1} (by lia) F (W.frame _ h' f x λb O o e=>e9 b o ?_ e) ?_ (λj v p q a=>(C j v p q a).at λb o g e=>e9 b o ?_ e) λh3 Q hD3 S=>?_
  ·simp only[zcg,zbA,or_false] at O;rcases O with rfl|rfl
   ·exact Ne.symm n
   ·exact Ne.symm Y
  ·rw[List.take_succ,y];show Heap.DictOf knd f d (bT (ps.take i++[ps[i]]));rw[lQ];exact L
  ·intro z;subst z;obtain⟨od,_,_,U,Z,_⟩:=H;rw[U] at e;cases e;rw[Z.1] at g;injection g with g;exact absurd g (by decide)
  ·exact hR h3 Q hD3 λb o q a e=>S b o q a (e9 b o q (u b o (by simpa using a) e))
theorem vn{l:Addr}{its:Array yai}{ps:List (K×yai)}{Q:yai->yah->Prop}(S:A.handled=none){c:Nat}(P:s.heap.get? l=some {cls:=.type "list",data:=.seq its c})(q:its.size=ps.length)(W:∀(i:Nat)(v:yai)(p:K×yai),its[i]? =some v->ps[i]? =some p->iQ knd s.heap v p)(Y:ps.length<=1000)(h:∀(h':Heap)(tk:Nat),Heap.DictOf knd h' s.heap.objs.size (bT ps)->(∀b o,s.heap.get? b=some o->h'.get? b=some o)->Q (.ref s.heap.objs.size) {s with heap:=h',toks:=tk}):
  yar (model prog w) A (call (.type "dict") [.ref l]) Q E s:=by
 refine callType_codes PySem.F.kt_called_dict (PySem.F.kt_typeCall_dict_1 (.ref l)) PySem.F.entry_dict_init (kt_code_dict_new (.ref l) (Q₁:=λu f=>u=.ref s.heap.objs.size/\f={s with heap:=s.heap.push {cls:=.type "dict",data:=.dict #[]}}) ⟨rfl,rfl⟩) λobj f z=>?_;obtain⟨rfl,rfl⟩:=z;have a:Heap.DictOf knd (s.heap.push {cls:=Value.type "dict",data:=Data.dict #[]}) s.heap.objs.size []:=Heap.DictOf.new s.heap;have j:(s.heap.push {cls:=Value.type "dict",data:=Data.dict #[]}).get? l=some {cls:=.type "list",data:=.seq its c}:=zaq _ P;refine⟨Heap.DictOf.typeIs a,PySem.F.args_dict_init_2 _ _,?_⟩;unfold Builtin.«dict.__init__»;refine yaa (yaa (wpAny_notOrdered_dict (Heap.DictOf.typeIs a) (yab ?_)));show yar _ _ (Builtin.Dict.updateFrom "dict.__init__" s.heap.objs.size (.ref l) [] .none) _ _ _;unfold Builtin.Dict.updateFrom;refine yaa (wpAny_typeOf (T:="list") ⟨_,j,rfl⟩ ?_);rw[yIp (by decide)];refine yaa (pK j S λy U g=>?_);rw[yIp (by decide)];refine yaa (wpAny_rule ?_);have t:y.IsList l its:=⟨_,g _ _ j,rfl,c,rfl⟩
 refine yaa (wpAny_pyIter_list t ?_);have x:Heap.DictOf knd y s.heap.objs.size []:=lA a λo e=>g _ _ e;refine yab ⟨plainId_quiet cT _,?_⟩;have C:s.heap.objs.size<y.objs.size:=by obtain⟨o,_,_,X,_⟩:=x;exact zcE X
 have L:l<s.heap.objs.size:=zcE P;have m:∀b o,s.heap.get? b=some o->y.get? b=some o:=λb o e=>g b o (zaq _ e);refine yS (ps:=ps) (Walks.list (A:=A.in1.in1) S y.objs.size l (zcv (zcy L C)) its) (λi h z o e=>?_) (zcv C) (zcx L) q Y its.size 0 _ rfl (zcI _) ?_ ?_ ?_ λh' tk I G=>⟨rfl,h h' tk I λb o e=>?_⟩
 ·obtain⟨o',n,H,_⟩:=z.1;rw[e] at n;cases n;rw[H];intro z;injection z with z;exact absurd z (by decide)
 ·exact⟨⟨_,zaJ _ rfl,rfl,rfl⟩,t.at λo e=>zaq _ e⟩
 ·exact lA x λo e=>zaq _ e
 ·exact λi v p h2 Z=>(W i v p h2 Z).at λb o _ e=>zaq _ (m b o e)
 ·have O:=zcE e;exact G b o (zcv O) (zcv (zcy O C)) (zaq _ (m b o e))
end
end M6
namespace L2
open PySem PySem.Spec PyProof.Rows M6
noncomputable def putAll(kvs:List (Key×V)):List (Key×V):=kvs.foldl (λa p=>putK a p.1 p.2) []
theorem l8:∀{kvs:List (Key×V)}{vs:List (Key×yai)},KV kvs vs->∀{a:List (Key×V)}{b:List (Key×yai)},KV a b->KV (kvs.foldl (λc p=>putK c p.1 p.2) a) (vs.foldl (λc p=>stored c p.1 p.2) b)
 |[],_,h,a,b,g=>by cases h;exact g
 |p::kvs,_,h,a,b,g=>by
  cases h with
  |@cons _ q _ vs r t=>
   show KV (kvs.foldl _ (putK a p.1 p.2)) (vs.foldl _ (stored b q.1 q.2));rw[<-r.1];exact l8 t (g.put p.1 r.2)
theorem uF(kvs:List (Key×V)):(putAll kvs).length<=kvs.length:=by
 have:∀(l c:List (Key×V)),(l.foldl (λc p=>putK c p.1 p.2) c).length<=c.length+l.length:=by
  intro l
  induction l with
  |nil=>intro c;simp
  |cons a r ih=>intro c;rw[zbQ,zbq];have:=ih (putK c a.1 a.2);have:=gM c a.1 a.2;lia
 have:=this kvs [];simpa[putAll] using this
def KU(K:yaI)(H:Hp)(ts:List Addr)(kvs:List (Key×V)):Prop:=Paired (λt (p:Key×V)=>ef K H t [kV p.1,p.2]) ts kvs
def I0(K:yaI):List V->Hp->VK->Prop:=λf H Q=>∃(a:Addr)(e:List Addr)(c:List (Key×V)),f=[.ref a]/\H a=some (.lst (e.map V.ref))/\KU K H e c/\c.length<=1000/\∀p,H p=none->Q (.ref p) (upd H p (.dK (putAll c)))
theorem jQ:∀{ts:List Addr}{us:List yai},Vals (ts.map V.ref) us->us=ts.map Value.ref
 |[],us,h=>by cases h;rfl
 |t::ts,us,h=>by
  cases h with
  |cons r g=>
   obtain rfl:_=Value.ref t:=r;rw[jQ g];rfl
section
variable {X:Cx}
theorem BE{c:List (Addr×Obj)}{j:St}{H:Hp}{s:yah}(I:Inv X c j H s):∀{ts:List Addr}{kvs:List (Key×V)},KU X.K H ts kvs->∃ps:List (Key×yai),KV kvs ps/\ps.length=ts.length/\∀(i:Nat)(v:yai)(p:Key×yai),(ts.map Value.ref)[i]? =some v->ps[i]? =some p->iQ (bM X.prog X.w) s.heap v p
 |[],_,h=>by cases h;exact⟨[],.nil,rfl,λi v p h=>by simp at h⟩
 |t::ts,_,h=>by
  cases h with
  |@cons _ q _ kvs r g=>
   obtain⟨ps,C,z,y⟩:=BE I g;obtain⟨l,a,⟨o,m,x,n,hd⟩,_⟩:=I.tuple r;cases a with
   |@cons _ ku _ its' g1 a=>
    cases a with
    |@cons _ u _ its'' g2 a=>
     cases a;refine⟨(q.1,u)::ps,.cons ⟨rfl,g2⟩ C,by simp[z],λi v p f e=>?_⟩;cases i with
     |zero=>
      simp only[zch,zam,zcJ.injEq] at f e;subst f;subst e;exact⟨t,ku,o,n,rfl,m,x,hd,pL g1⟩
     |succ i=>
      simp only[zch,zan] at f e;exact y i v p f e
theorem vq{k:Nat}(z:aQ k X.A):bW X (.type "dict") (I0 X.K):=by
 intro l s O H P S Q I r h;obtain⟨a,t,f,rfl,e,C,W,q⟩:=h;obtain⟨u,rfl,ru⟩:=vals1 r;cases ru;obtain⟨U,its,c,x,g⟩:=(show aJ X.prog X.w H s.heap a (.lst (t.map V.ref)) from I.hok a _ e)
 have n:=jQ x;obtain⟨ps,m,y,p3⟩:=BE I C;have p4:=Paired.length m;refine vn (knd:=bM X.prog X.w) (its:=its.toArray) (ps:=ps) z.hd g (by rw[zaX,n,zbK];exact y.symm) (λi v p F E=>p3 i v p (by rw[<-n];simpa using F) E) (by lia) λG tk L kp=>?_;have j:G.DictOf (bM X.prog X.w) s.heap.objs.size (bT ps):=L;refine⟨.ref s.heap.objs.size,_,I.laid (a:=s.heap.objs.size) (t':=tk) (o:=.dK (putAll f)) kp (zcH _) ⟨by have:=uF f;rw[yaf];lia,beq_eq_false_iff_ne.mpr (Ne.symm (zcv I.big)),_,l8 m .nil,j⟩,rfl,q _ (I.hok.fresh (zcH _))⟩
end
end L2
namespace M
open PySem PySem.Spec PyProof.Rows L2 M6
noncomputable def keyOf:D->Option Key
 |.int i=>some (.inl i)
 |.str x=>some (.inr x)
 |_=>none
noncomputable def kD:Key->D
 |.inl i=>.int i
 |.inr x=>.str x
noncomputable def gu(ks:List Key)(k:Key):Bool:=ks.any λj=>decide (j=k)
section
variable {K:yaI}
theorem qi{w:Wd}{d:D}{v:V}{k:Key}(h:Rep K w d v)(e:keyOf d=some k):v=kV k:=by
 cases d<;>simp only[keyOf] at e<;>cases e
 ·simpa[Rep,kV] using h
 ·simpa[Rep,kV] using h
theorem D9{w:Wd}{S:aA}{d:D}{v:V}{k:Key}(h:Rep K w d v)(e:keyOf (bz S d)=some k):v=kV k:=by
 cases z:bz S d<;>rw[z] at e<;>simp only[keyOf] at e<;>cases e
 ·exact cH h z
 ·exact bO h z
theorem JT{w:Wd}(k:Key):Rep K w (kD k) (kV k):=by cases k<;>simp[kD,kV,Rep]
theorem xu{w:Wd}:∀(kvs:List (Key×V)),ak K w ((kvs.map (·.1)).map kD) (kvs.map λx=>kV x.1)
 |[]=>.nil
 |p::r=>.cons (JT p.1) (xu r)
def vM:AE:=λ_ S Q=>Q (.new (.dct [] [])) S
theorem Es:∀a H Q,aY K vM a H Q->Af a H Q:=by
 rintro a H Q ⟨w,e,S,f,ok,env,q,bk⟩ p c;exact bk (.new (.dct [] [])) S _ w _ .refl (ok.alloc c) (ok.fresh c ⟨[],rfl,rfl,.nil⟩) q
def fE(a b:AE):AE:=λc S Q=>a c S λi j=>b c j λh g=>∃e f k d,bz g i.d=.dct e f/\keyOf h.d=some k/\gv e f k=some d/\Q (.dat d) g
theorem Et{a b:AE}:∀i H Q,aY K (fE a b) i H Q->Gu (aY K a) (aY K b) i H Q:=by
 rintro i H Q ⟨w,l,S,U,ok,env,q,bk⟩;refine⟨w,l,S,_,ok,env,q,.go λI E v1 s X h j e t=>?_⟩;refine⟨s,l,E,_,j,env.le h,t,.go λG P v2 F W g f c ⟨L,O,k,d,o,n,m,q2⟩=>?_⟩;obtain⟨a,u,rfl,y,rfl,x⟩:=fT f (e.le g) o;obtain⟨v,C,z⟩:=xy x m;rw[qi c n];refine⟨a,v,rfl,?_,bk.dat (h.trans g) f z q2⟩;rw[<-C];exact oK.k y
def vL(a b c:AE):AS:=λD e S=>c e S λi o=>a e o λl m=>b e m λj h=>∃n g f k,l.d=.loc n/\keyOf j.d=some k/\h[n]? =some (some (.dct g f))/\f.length<1000/\D.nx e (h.set n (some (kR g f k i.d)))
theorem Ep{a b c:AE}:∀D m H,gx K (vL a b c) D m H->GK (aY K a) (aY K b) (aY K c) D m H:=by
 rintro D m H ⟨w,o,S,Da,ok,env,q,bk⟩;refine⟨w,o,S,_,ok,env,q,.go λX U W G H1 g u i I=>?_⟩;refine⟨G,o,U,_,u,env.le g,I,.go λZ Q v1 F H2 f t h q2=>?_⟩;refine⟨F,o,Q,_,t,(env.le g).le f,q2,.go λY S3 v2 E H3 e dR j ⟨n,ks,P,k,C,z,x,hl,q3⟩=>?_⟩;rw[C] at h;obtain⟨a,v,rfl,O,L,rfl,y⟩:=J7 dR (h.le e) x;rw[qi j z];have l:v.length=P.length:=by have:=y.length;rw[zbK] at this;exact this
 refine⟨a,_,rfl,DJ.k L (by rw[l,yaf];lia),?_⟩;have s:=dR.put x O (rM (k:=k) (i.le (f.trans e)) y);exact bk.nx o _ m E _ ((g.trans f).trans e) s (((env.le g).le f).le e) q3
def tL(a:Bool):A2:=λx y S Q=>match bz S y with
 |.dct ks _=>∃k,keyOf (bz S x)=some k/\Q (.dat (.bl (a != gu ks k))) S
 |_=>False
theorem Hl{f:Bool}:∀x y H Q,sQ K (tL f) x y H Q->IY f x y H Q:=by
 intro x y H Q h;obtain⟨w,d,e,S,o,ok,j,i,q,bk⟩:=h;unfold tL at q;cases z:bz S e<;>rw[z] at q<;>first|exact q.elim|skip
 obtain⟨k,g,q⟩:=q;obtain⟨a,c,rfl,l,rfl,n⟩:=fT ok i z;refine⟨a,c,k,rfl,D9 j g,l,bk.dat .refl ok .bl ?_⟩;have m:gu (c.map (·.1)) k=(gA c k).isSome:=by
  unfold gu;rw[zcs];exact lO k c
 rw[<-m];exact q
def vH:AN:=λe S Q=>∃d a c,e=[d]/\bz S d=.dct a c/\Q (.new (.lst (a.map kD))) S
noncomputable def qU(a:List Key×List D)(p:Key×D):List Key×List D:=if gu a.1 p.1=true then(a.1,(a.1.zip a.2).map λx=>if x.1=p.1 then p.2 else x.2) else(a.1++[p.1],a.2++[p.2])
noncomputable def kT(ps:List (Key×D)):List Key×List D:=ps.foldl qU ([],[])
def KQ:AN:=λc S Q=>∃d,∃a:List (Key×D),c=[d]/\bz S d=.lst (a.map λp=>.tup [kD p.1,p.2])/\a.length<=1000/\Q (.new (.dct (kT a).1 (kT a).2)) S
theorem xK(a:List Key×List D)(p:Key×D):kR a.1 a.2 p.1 p.2=.dct (qU a p).1 (qU a p).2:=by
 unfold kR qU gu;split<;>rfl
theorem sN{w:Wd}:∀{ps:List (Key×D)}{kvs:List (Key×V)},Paired (λ(p:Key×D)(q:Key×V)=>p.1=q.1/\Rep K w p.2 q.2) ps kvs->∀{a:List Key×List D}{b:List (Key×V)},b.map (·.1)=a.1->ak K w a.2 (b.map (·.2))->
  (kvs.foldl (λc p=>putK c p.1 p.2) b).map (·.1)=(ps.foldl qU a).1/\ak K w (ps.foldl qU a).2 ((kvs.foldl (λc p=>putK c p.1 p.2) b).map (·.2))
 |[],_,h,a,b,g1,g2=>by cases h;exact⟨g1,g2⟩
 |p::ps,_,h,a,b,g1,g2=>by
  cases h with
  |@cons _ q _ kvs r t=>
   have e:=rM (K:=K) (k:=p.1) r.2 g2;rw[g1] at e;rw[show kR a.1 a.2 p.1 p.2=_ from xK a p] at e;obtain⟨g,f,j,i⟩:=e;injection f with f;subst f;rw[r.1] at j i;exact sN t j i
theorem pA{w:Wd}{H:Hp}{S:aA}(ok:Ok K w H S):∀{ps:List (Key×D)}{a:List V},ak K w (ps.map λp=>D.tup [kD p.1,p.2]) a->∃ts kvs,a=ts.map V.ref/\KU K H ts kvs/\Paired (λ(p:Key×D)(q:Key×V)=>p.1=q.1/\Rep K w p.2 q.2) ps kvs
 |[],a,h=>⟨[],[],by simpa[ak] using h,.nil,.nil⟩
 |p::ps,a,h=>by
  simp only[zch,ak] at h;obtain⟨x,r,rfl,e,j⟩:=h;obtain⟨ts,kvs,rfl,m,l⟩:=pA ok j;simp only[Rep] at e;obtain⟨t,o,rfl,i,c⟩:=e;simp only[ak] at c;obtain⟨g,u,rfl,k1,f,s,rfl,k2,rfl⟩:=c;have n:g=kV p.1:=qi k1 (by cases p.1<;>rfl);subst n;exact⟨t::ts,(p.1,f)::kvs,rfl,.cons (ef.same ok.base i) m,.cons ⟨rfl,k2⟩ l⟩
end
section
variable {X:Cx}{o i value:Expr}{pos pos':Pos}
theorem gG:GE X (.Dict [] [] pos) vM:=⟨mE L2.gG Es⟩
theorem cC{a tb:AE}(c:X.A.units+1<cLine)(f:GE X o a)(g:GE X i tb)(e:KY i):GE X (.Subscript o i pos) (fE a tb):=⟨mE (L2.EF c f.p g.p e) Et⟩
theorem mq{a tb tc:AE}(e:X.A.units+1<cLine)(g:GE X o a)(h:GE X i tb)(c:GE X value tc)(f:yat value (some (.Subscript o i pos')) pos.line X.env=pure false):GS X (.Assign [.Subscript o i pos'] value pos) (vL a tb tc):=
 ⟨mS (L2.ED e g.p h.p c.p f) Ep⟩
theorem BR{k:Nat}(a:aQ k X.A):kX X (yan .In) (tL false):=⟨m2 (Jr (dW a)) Hl⟩
theorem rW{k:Nat}(a:aQ k X.A):kX X (yan .NotIn) (tL true):=⟨m2 (yG (dW a)) Hl⟩
theorem xh{k:Nat}(g:aQ k X.A):ua X (.type "list") vH:=⟨mC (vm g) λl H Q h=>by
 obtain⟨w,t,S,u,ok,rep,⟨d,m,s,rfl,z,q⟩,bk⟩:=h;obtain⟨v,rfl,f⟩:=eF rep;obtain⟨a,c,rfl,j,rfl,n⟩:=fT ok f z;exact⟨a,c,rfl,j,λp e=>bk (.new (.lst _)) S _ w _ .refl (ok.alloc e) (ok.fresh e ⟨_,rfl,xu c⟩) q⟩⟩
theorem lg{k:Nat}(s:aQ k X.A):ua X (.type "dict") KQ:=⟨mC (vq s) λl H Q h=>by
 obtain⟨w,F,S,G,ok,rep,⟨d,e,rfl,z,E,q⟩,bk⟩:=h;obtain⟨v,rfl,n⟩:=eF rep;obtain⟨a,l,rfl,u,t⟩:=bG ok n z;obtain⟨m,c,rfl,x,j⟩:=pA ok t;have g:=Paired.length j;obtain⟨C,y⟩:=sN j (a:=([],[])) (b:=[]) rfl .nil;exact⟨a,m,c,rfl,u,x,by lia,λp f=>bk (.new (.dct (kT e).1 (kT e).2)) S _ w _ .refl (ok.alloc f) (ok.fresh f ⟨_,rfl,C,y⟩) q⟩⟩
end
def nF(W:yak)(ks:List D):Addr->List Addr->Heap->Prop:=λa bs=>gh W a ((ks.map py).zip bs)
noncomputable def nO(W:yak)(ks:List D):MO:=.zM (nF W ks) ks
def bS(d:D):Prop:=dz d=true/\bF (py d)=true/\(py d).depth<=6/\∃a,d=.tup a
noncomputable def putN(ks:List D)(k:D):List D:=if(ks.any λj=>decide (py j=py k))=true then ks else ks++[k]
section
variable {K:yaI}
theorem dP{w:Wd}{H:Hp}{S:aA}{d:D}{v:V}(ok:Ok K w H S)(h:Rep K w d v)(g:bS d):∃b,v=.ref b/\cu K H (py d) (.ref b):=by
 obtain⟨c,i,f,j,rfl⟩:=g;have a:=h;simp only[Rep] at a;obtain⟨b,e,rfl,_⟩:=a;have:=wD ok h (by simpa[bz] using c);exact⟨b,rfl,by simpa[bz] using this⟩
theorem cD{w:Wd}{H:Hp}{S:aA}(ok:Ok K w H S):∀{ks:List D}{bs:List Addr},ak K w ks (bs.map V.ref)->(∀k∈ks,bS k)->gn K H ((ks.map py).zip bs)
 |[],bs,_,_=>λx c=>by simp at c
 |k::ks,[],h,_=>by simp only[zcr,ak] at h;obtain⟨_,_,z,_⟩:=h;cases z
 |k::ks,b::bs,h,g=>by
  simp only[zch,ak] at h;obtain⟨x,r,e,j,i⟩:=h;injection e with e1 e2;subst e1;subst e2;intro y a;rw[zch,zaN] at a;rcases zcg.mp a with rfl|a
  ·obtain⟨l,e,hd⟩:=dP ok j (g k (by simp));cases e;exact⟨(g k (by simp)).2.1,(g k (by simp)).2.2.1,hd⟩
  ·exact cD ok i (λk f=>g k (zaz _ f)) y a
def nR(W:yak):AE:=λ_ S Q=>Q (.new (nO W [])) S
theorem Er{W:yak}:∀a H Q,aY K (nR W) a H Q->Ae W a H Q:=by
 rintro a H Q ⟨w,e,S,f,ok,env,q,bk⟩ p c;exact bk (.new (nO W [])) S _ w _ .refl (ok.alloc c) (ok.fresh c ⟨p,[],rfl,.nil⟩) q
def tH(W:yak)(a b c:AE):AS:=λD e S=>c e S λi m=>a e m λj l=>b e l λg h=>∃n f,i.d=.bl true/\j.d=.loc n/\h[n]? =some (some (nO W f))/\bS g.d/\(∀k∈f,bS k)/\f.length<1000/\D.nx e (h.set n (some (nO W (putN f g.d))))
theorem rO{ks:List D}{bs:List Addr}{k:D}{b:Addr}(h:ks.length=bs.length):∃a,iZ ((ks.map py).zip bs) (py k) b=((putN ks k).map py).zip a/\(a=bs/\putN ks k=ks∨a=bs++[b]/\putN ks k=ks++[k]):=by
 have e:(((ks.map py).zip bs).any λx=>decide (x.1=py k))=(ks.any λj=>decide (py j=py k)):=by
  have:((ks.map py).zip bs).map (·.1)=ks.map py:=zbB (by rw[zbK];lia);have f:(((ks.map py).zip bs).any λx=>decide (x.1=py k))=((((ks.map py).zip bs).map (·.1)).any λd=>decide (d=py k)):=by rw[zcs];rfl
  rw[f,this,zcs];rfl
 unfold iZ putN;rw[e];by_cases c:(ks.any λj=>decide (py j=py k))=true
 ·rw[yIp c,yIp c];exact⟨bs,rfl,.inl ⟨rfl,rfl⟩⟩
 ·rw[yIn c,yIn c];refine⟨bs++[b],?_,.inr ⟨rfl,rfl⟩⟩;rw[zbS,List.zip_append (by rw[zbK];exact h)];rfl
theorem Ik{W:yak}{a b c:AE}:∀D o H,gx K (tH W a b c) D o H->GJ K W (aY K a) (aY K b) (aY K c) D o H:=by
 rintro D o H ⟨w,s,S,Da,ok,env,q,bk⟩;refine⟨w,s,S,_,ok,env,q,.go λr3 S1 v3 U H1 g y l X=>?_⟩;refine⟨U,s,S1,_,y,env.le g,X,.go λr1 S2 v1 Q H2 j x f q2=>?_⟩;refine⟨Q,s,S2,_,x,(env.le g).le j,q2,.go λv S3 v2 P H3 i dR h ⟨n,F,O,L,E,z,g2,hl,q3⟩=>?_⟩;rw[L] at f;have f:=f.le i;simp only[Rep] at f;obtain⟨a,G,rfl⟩:=f;obtain⟨a1,u,k1,k2,Y,I,bs,rfl,t⟩:=dR.live n _ E;rw[G] at k1;cases k1;obtain⟨b,rfl,Z⟩:=dP dR h z;have m:F.length=bs.length:=by have:=t.length;rw[zbK] at this;exact this.symm
 refine⟨a,I,b,_,py v.d,?_,rfl,rfl,Y,cD dR t g2,z.2.1,z.2.2.1,Z,?_,λe=>?_⟩
 ·rw[iI l O]
 ·rw[zbU,zbK];lia
 ·subst e;obtain⟨C,e1,e2⟩:=rO (k:=v.d) (b:=b) m;rw[e1];refine bk.nx s _ o P _ ((g.trans j).trans i) (dR.put E G (o':=nO W (putN F v.d)) ⟨I,C,rfl,?_⟩) (((env.le g).le j).le i) q3;rcases e2 with⟨rfl,e⟩|⟨rfl,e⟩
  ·rw[e];exact t
  ·rw[e,zbS];exact t.snoc h
def KD(W:yak):AN:=λe S Q=>∃n a,e=[.loc n]/\S[n]? =some (some (nO W a))/\(∀k∈a,bS k/\∃p r,py k=PyData.tuple (.int p::r))/\(∀k∈a,∀l∈a,aE (py k) (py l)=true)/\a.length<64/\∀c:List D,c.Perm a->Q (.new (.lst c)) S
theorem kZ{w:Wd}:∀{ks:List D}{bs:List Addr},ak K w ks (bs.map V.ref)->∀x∈ks.zip bs,Rep K w x.1 (.ref x.2)
 |[],_,_,x,a=>by simp at a
 |_::_,[],_,x,a=>by simp at a
 |k::ks,b::bs,h,x,a=>by
  simp only[zch,ak] at h;obtain⟨y,r,e,f,c⟩:=h;injection e with e1 e2;subst e1;subst e2;rw[zaN] at a;rcases zcg.mp a with rfl|a
  ·exact f
  ·exact kZ c x a
theorem dM{w:Wd}:∀{o:List (D×Addr)},(∀x∈o,Rep K w x.1 (.ref x.2))->ak K w (o.map (·.1)) (o.map λx=>V.ref x.2)
 |[],_=>.nil
 |x::o,h=>.cons (h x (by simp)) (dM λy a=>h y (zaz _ a))
end
section
variable {X:Cx}{o i value:Expr}{pos pos':Pos}
theorem fJ:GE X (.Dict [] [] pos) (nR X.w):=⟨mE L2.fJ Er⟩
theorem fX{k:Nat}(f:aQ k X.A){a tb tc:AE}(g:GE X o a)(h:GE X i tb)(c:GE X value tc)(e:yat value (some (.Subscript o i pos')) pos.line X.env=pure false):GS X (.Assign [.Subscript o i pos'] value pos) (tH X.w a tb tc):=
 ⟨mS (L2.fX (by have:=f.units;lia) g.p h.p c.p e) Ik⟩
theorem EW{k:Nat}(U:aQ k X.A):ua X (.builtin "sorted") (KD X.w):=⟨mC (vh U) λxs H Q h=>by
 obtain⟨w,ds,S,Qa,ok,rep,⟨n,j,rfl,z,I,Y,hl,q⟩,bk⟩:=h;obtain⟨v,rfl,C⟩:=eF rep;simp only[Rep] at C;obtain⟨a,W,rfl⟩:=C;obtain⟨a1,u,k1,k2,L,a',bs,rfl,m⟩:=ok.live n _ z;rw[W] at k1;cases k1;have G:j.length=bs.length:=by have:=m.length;rw[zbK] at this;exact this.symm
 have t:∀x∈(j.map py).zip bs,∃k∈j,x.1=py k:=λx f=>by
  have:=(zbN f).1;obtain⟨k,g,e⟩:=zcu.mp this;exact⟨k,g,e.symm⟩
 refine⟨a,a',_,rfl,L,cD ok m (λk g=>(I k g).1),λx f=>?_,λx f y P=>?_,by rw[zbU,zbK];lia,λp out F c=>?_⟩
 ·obtain⟨k,g,e⟩:=t x f;rw[e];exact(I k g).2
 ·obtain⟨k,g,e⟩:=t x f;obtain⟨O,s,e'⟩:=t y P;rw[e,e'];exact Y k g O s
 ·have Z:(j.map py).zip bs=(j.zip bs).map λx=>(py x.1,x.2):=by rw[List.zip_map_left];rfl
  rw[Z] at c;obtain⟨l,E,rfl⟩:=eO c;have e2:(zcP (λk:yam×Addr=>V.ref k.2) (l.map λx=>(py x.1,x.2)))=l.map λx=>V.ref x.2:=by rw[zct];rfl
  rw[e2];refine bk (.new (.lst (l.map (·.1)))) S _ w _ .refl (ok.alloc F) (ok.fresh F ⟨_,rfl,dM λx f=>kZ m x (E.mem_iff.mp f)⟩) (q _ ?_);have:=E.map (·.1);rw[zbB (by lia)] at this;exact this⟩
end
section
variable {K:yaI}
theorem qV{H:Hp}{a:Addr}{u:HO}(h:H a=some u):upd H a u=H:=by
 funext b;by_cases c:b=a
 ·subst c;rw[bx,h]
 ·rw[aN c]
inductive zI(p:Nat)(ks:List Key):List D->aA->List D->aA->Prop
 |nil {ds:List D}{S:aA}:zI p ks ds S ds S
 |step {ds ds' es:List D}{S S':aA}{m:Nat} (h:S[m]? =some (some (.lst es))) (hm:m≠p) (t:zI p ks (ds.map (sb m (.lst es))) ((S.set m none).set p (some (.dct ks (ds.map (sb m (.lst es)))))) ds' S'):zI p ks ds S ds' S'
theorem Fl{p:Nat}{ks:List Key}{ds i:List D}{S S':aA}(h:zI p ks ds S i S'):∀{w:Wd}{H:Hp},S[p]? =some (some (.dct ks ds))->Ok K w H S->∃v,w.le v/\Ok K v H S':=by
 induction h with
 |nil=>exact λ_ ok=>⟨_,.refl,ok⟩
 |@step ds i es S S' m hS hm t ih=>
  intro w H j ok;obtain⟨s,c,l,f⟩:=MS ok hS;have F:p<S.length:=by
   rcases zcz p S.length with z|z
   ·exact z
   ·rw[zau z] at j;cases j
  have q:(S.set m none)[p]? =some (some (.dct ks ds)):=by rw[zaB hm];exact j
  obtain⟨a,u,k1,k2,E,g,rfl,C,k6⟩:=ok.live p _ j;have o:s.r p=some a:=c.r _ _ k1;have y:jw K s (.dct ks (ds.map (sb m (.lst es)))) (.dK g):=⟨g,rfl,C,ur c f k6⟩
  have e:=l.put q o y;rw[qV E] at e;obtain⟨x,n,dR⟩:=ih (by rw[zbc,yIp rfl,yIp (by simpa using F)]) e;exact⟨x,c.trans n,dR⟩
def C4(a:AE):AE:=λi S Q=>a i S λr h=>∃p e f c g,r=.dat (.loc p)/\h[p]? =some (some (.dct e f))/\zI p e f h c g/\Q (.dat (.loc p)) g
theorem Iw{a:AE}:∀f H Q,aY K (C4 a) f H Q->aY K a f H Q:=by
 rintro f H Q ⟨w,j,S,E,ok,env,q,bk⟩;refine⟨w,j,S,_,ok,env,q,λr C v l F i h c ⟨p,x,y,t,z,s,o,n,m⟩=>?_⟩;subst s;have c:Rep K l (.loc p) v:=c;obtain⟨u,e,g⟩:=Fl n o h;exact bk.dat (i.trans e) g (c.le e) m
end
section
variable {X:Cx}{e:Expr}
theorem OZ{t:AE}(h:GE X e t):GE X e (C4 t):=⟨mE h.p Iw⟩
end
end M
namespace M7
open PySem PySem.Spec PyProof.Rows M5
def nS(a:Array Nat):Prop:=∀i j,i<j->(c:j<a.size)->(e:i<a.size)->a[i]<a[j]
theorem nJ{e:Array Nat}(g:nS e)(j:Nat):∀(f c a:Nat),a - c<=f->c<=a->a<=e.size->(∀i (h:i<e.size),i<c->e[i]<j)->(∀i (h:i<e.size),a<=i->j<=e[i])->
  SetTable.below.go e j f c a<=e.size/\(∀i (h:i<e.size),i<SetTable.below.go e j f c a->e[i]<j)/\∀i (h:i<e.size),SetTable.below.go e j f c a<=i->j<=e[i]
 |0,c,a,h1,h2,h3,h4,h5=>by
  rw[SetTable.below.go.eq_1];have:a=c:=by lia
  subst this;exact⟨h3,h4,h5⟩
 |f+1,c,a,h1,h2,h3,h4,h5=>by
  rw[SetTable.below.go.eq_2];by_cases o:c<a
  ·rw[yIp o];dsimp only;have l:(c+a) / 2<e.size:=by lia
   have q:e.getD ((c+a) / 2) j=e[(c+a) / 2]:=by simp[zcM,l]
   rw[q];by_cases n:e[(c+a) / 2]<j
   ·rw[yIp n];refine nJ g j f _ a (by lia) (by lia) h3 (λi h m=>?_) h5;rcases zcz i ((c+a) / 2) with z|z
    ·have:=g i _ z l h;lia
    ·obtain rfl:i=(c+a) / 2:=by lia
     exact n
   ·rw[yIn n];refine nJ g j f c _ (by lia) (by lia) (by lia) h4 (λi h m=>?_);rcases zcz ((c+a) / 2) i with z|z
    ·have:=g _ i z h l;lia
    ·obtain rfl:i=(c+a) / 2:=by lia
     lia
  ·rw[yIn o];have:a=c:=by lia
   subst this;exact⟨h3,h4,h5⟩
theorem gR{a:Array Nat}(c:nS a)(j:Nat):SetTable.below a j<=a.size/\(∀i (h:i<a.size),i<SetTable.below a j->a[i]<j)/\∀i (h:i<a.size),SetTable.below a j<=i->j<=a[i]:=
 nJ c j a.size 0 a.size (by lia) (zcI _) (zcH _) (λi h z=>absurd z (zbV _)) (λi h z=>by lia)
theorem vz{a:Array Nat}(c:nS a){i:Nat}(f:i<a.size):SetTable.below a (a[i]+1)=i+1:=by
 obtain⟨j,h,g⟩:=gR c (a[i]+1);have l:i<SetTable.below a (a[i]+1):=by
  rcases zcz i (SetTable.below a (a[i]+1)) with z|z
  ·exact z
  ·have:=g i f z;lia
 rcases zcz (i+1) (SetTable.below a (a[i]+1)) with z|z
 ·have e:i+1<a.size:=by lia
  have:=h (i+1) e z;have:=c i (i+1) (by lia) e f;lia
 ·lia
theorem vv{a:Array Nat}(c:nS a):SetTable.below a 0=0:=by
 obtain⟨g,e,f⟩:=gR c 0;rcases Nat.eq_zero_or_pos (SetTable.below a 0) with z|z
 ·exact z
 ·have:=e 0 (by lia) z;lia
theorem g7{f:Array Nat}:nS f↔f.toList.Pairwise (· < ·):=by
 rw[zah];constructor
 ·intro h i j e c a;have:=h i j a (by simpa using c) (by simpa using e);simpa using this
 ·intro h i j a c e;have:=h i j (by simpa using e) (by simpa using c) a;simpa using this
theorem Bl{c:Array Nat}{j:Nat}(l:nS c)(s:(c[SetTable.below c j]? ==some j)=false):nS (SetTable.insertAt c (SetTable.below c j) j):=by
 obtain⟨y,u,t⟩:=gR l j;rw[g7] at l⊢;have e:(SetTable.insertAt c (SetTable.below c j) j).toList=c.toList.take (SetTable.below c j)++[j]++c.toList.drop (SetTable.below c j):=by
  unfold SetTable.insertAt;simp[Array.toList_extract];exact List.take_of_length_le (by simp)
 rw[e];generalize SetTable.below c j=p at*;have q:∀x∈c.toList.take p,x<j:=λx f=>by
  obtain⟨i,n,rfl⟩:=zaG f;rw[zbr] at n;have:=u i (by simp at n;lia) (by lia);simpa using this
 have hd:∀x∈c.toList.drop p,j<x:=λx f=>by
  obtain⟨i,n,rfl⟩:=zaG f;rw[zbs] at n;have m:p+i<c.size:=by simp at n;lia
  have G:=t (p+i) m (by lia);have v:(c.toList.drop p)[i]=c[p+i]:=by simp
  rw[v];have g:p<c.size:=by lia
  have F:c[p]≠j:=λz=>by
   rw[zai g,z] at s;simp at s
  rcases Nat.eq_zero_or_pos i with rfl|z
  ·have:c[p+0]=c[p]:=rfl;lia
  ·have E:=t p g (zcH _);have C:=g7.mpr l p (p+i) (by lia) m g;lia
 rw[List.pairwise_append,List.pairwise_append];refine⟨⟨l.sublist (List.take_sublist ..),by simp,λa h b o=>?_⟩,l.sublist (List.drop_sublist ..),λa h b o=>?_⟩
 ·rw[zaO.mp o];exact q a h
 ·rcases zbJ.mp h with h|h
  ·exact zcy (q a h) (hd b o)
  ·rw[zaO.mp h];exact hd b o
theorem qA{α:Type}(f:Nat->Option α):∀l:List Nat,(zcP (λx=>x.1) (List.filterMap (λj=>Option.map (λx=>(j,x)) (f j)) l)).Sublist l
 |[]=>.slnil
 |a::l=>by
  rw[zaD];cases f a with
  |none=>exact .cons a (qA f l)
  |some x=>exact .cons₂ a (qA f l)
section
variable {prog:yaj}{w:yak}{A:yal}{E:yai->yah->Prop}{s:yah}
theorem zl{l:Addr}{T:String}{ob:Obj}{Z:Heap->Prop}{Q:yai->yah->Prop}(W:s.TypeIs (.ref l) T)(h1:isSubtype (.type T) (.type "set")=pure false)(h2:isSubtype (.type T) (.type "frozenset")=pure false)(h3:(Value.type T==Value.type "dict")=false)(it:∀{A':yal}{s':yah}{Y:yai->yah->Prop}{E':yai->yah->Prop},(∀b o,s.heap.get? b=some o->s'.heap.get? b=some o)->Y (.ref s'.heap.objs.size) {s' with heap:=s'.heap.push ob}->yar (model prog w) A' (pyIter (.ref l)) Y E' s')(x:ob.isFreed=false)(lp:∀(I:Addr)(h0:Heap){R:Result->yah->Prop},(∀b o,s.heap.get? b=some o->h0.get? b=some o)->h0.get? s.heap.objs.size=some (bU (!w.params.followText "set-order"))->h0.get? I=some ob->l≠I->s.heap.objs.size ∉ [I,l]->(∀(h':Heap)(tk:Nat),Z h'->(∀b o,b ∉ [s.heap.objs.size,I]->h0.get? b=some o->h'.get? b=some o)->R (.ok (.ret .none)) {s with heap:=h',toks:=tk})->codeAny (model prog w) A.in1.in1 (.builtin "set.update.loop" ⟨[.ref s.heap.objs.size,.ref I],[]⟩) R {s with heap:=h0})(h:∀(h':Heap)(tk:Nat),Z h'->(∀b o,b<s.heap.objs.size->s.heap.get? b=some o->h'.get? b=some o)->Q (.ref s.heap.objs.size) {s with heap:=h',toks:=tk}):
  yar (model prog w) A (call (.type "set") [.ref l]) Q E s:=by
 obtain⟨c,tl,S⟩:=PySem.F.called_set.mro;have G:=PySem.F.called_set.made;have P:=PySem.F.called_set.sub;have g1:=PySem.F.called_set.notType;have g2:=PySem.F.called_set.canCreate;have hct:=PySem.F.typeCall_set_1 (.ref l);refine yaH (codeAny_of_tree ?_);show yar _ _ (callAny (.type "set") _) _ _ _;refine yab ⟨Code.quiet_builtin _ (by decide+kernel),codeAny_builtin PySem.F.entry_type_call ?_⟩;rw[Around.under_plain (weight_type_call_type "set" [.ref l] []) rfl]
 repeat (any_goals (first|assumption|wp_step))
 generalize i:(!w.params.followText "set-order")=led;refine yax (D5 (.ref l) (E:=E) (Q₁:=λu g=>u=.ref s.heap.objs.size/\g={s with heap:=s.heap.push (bU led)}) ⟨rfl,by rw[i]⟩) λr g v=>?_;cases r with
 |error e=>exact v
 |ok fl=>
  cases fl with
  |ret u=>
   obtain⟨rfl,rfl⟩:=v;have X:(s.heap.push (bU led)).get? s.heap.objs.size=some (bU led):=zaJ _ rfl;have tS:Shared.TypeIs {s with heap:=s.heap.push (bU led)} (.ref s.heap.objs.size) "set":=⟨_,X,rfl⟩
   have hli:=PySem.F.called_set.init.lookup;have hbi:=PySem.F.called_set.init.bind (.ref s.heap.objs.size)
   repeat (any_goals (first|assumption|wp_step))
   refine yax (codeAny_call_builtin (R:=wants (λr f=>r=.none/\∃h' tk,f={s with heap:=h',toks:=tk}/\Z h'/\(∀b o,b<s.heap.objs.size->s.heap.get? b=some o->h'.get? b=some o)) E) PySem.F.called_set.init.plain PySem.F.entry_set_init (check_set_init_1 tS ?_)) λn f a=>?_
   ·have j:l<s.heap.objs.size:=by obtain⟨o,y,_⟩:=W;exact zcE y
    have kp:∀b o,s.heap.get? b=some o->(s.heap.push (bU led)).get? b=some o:=λb o e=>zaq _ e;have tl1:Shared.TypeIs {s with heap:=s.heap.push (bU led)} (.ref l) T:=by obtain⟨o,y,z⟩:=W;exact⟨o,kp _ _ y,z⟩
    unfold Builtin.«set.__init__» noKeywords Builtin.Frozenset.updateFrom;generalize O:pyIter=PI
    wp_walk
    subst O;refine it kp ?_;have sz:(s.heap.push (bU led)).objs.size=s.heap.objs.size+1:=zcf ..;have q:∀b o,s.heap.get? b=some o->((s.heap.push (bU led)).push ob).get? b=some o:=λb o e=>zaq _ (kp b o e);have C:l≠(s.heap.push (bU led)).objs.size:=by rw[sz];exact zcv (zbh j)
    have L:s.heap.objs.size ∉ [(s.heap.push (bU led)).objs.size,l]:=by
     rw[sz];simp only[zcg,zbA,or_false];rintro(z|z)
     ·exact absurd z (by lia)
     ·rw[z] at j;exact zcm _ j
    refine yaa (wpAny_runValue ?_);refine lp _ _ q (by rw[i];exact zaq _ X) (zaJ _ x) C L λh' t m hm=>?_
    ·refine yab (yab ⟨rfl,h',t,rfl,m,λb o U e=>hm b o ?_ (q b o e)⟩);rw[sz];simp only[zcg,zbA,or_false];rintro(z|z)
     ·exact zcv U z
     ·exact zcv (zbh U) z
   ·cases n with
    |error e=>exact a
    |ok fl₂=>
     cases fl₂ with
     |ret r=>
      obtain⟨rfl,h',tk,rfl,m,H⟩:=a
      repeat (any_goals (first|assumption|wp_step))
      exact h _ _ m H
     |_=>exact a.elim
  |_=>exact v.elim
theorem GX{a:Addr}{ep i sl:Nat}{es:Array (Int×yai)}{t:SetTable}{Q:Option (yai×Nat)->yah->Prop}(g:w.params.followText "set-order"=false)(l:t9 s.heap a es ep t)(f:t.fits es.size=true)(h1:(!t.plain&&decide (es.size> 1))=false)(e:t.led=true)(h:Q (match es[SetTable.below t.place sl]?,t.place[SetTable.below t.place sl]? with|some (_,x),some j=>some (x,j+1)|_,_=>none) s):yar (model prog w) A (setNext a sl i ep) Q E s:=by
 obtain⟨o,c,m,hd⟩:=l;unfold setNext;refine yaa (wpAny_setState_of c hd f ?_);dsimp only;refine yaa (lG ?_);rw[yIn (by rw[g];decide)];rw[yIn (by
  show¬((!t.plain&&decide (es.size> 1))=true);rw[h1];decide)]
 refine yaa ?_;show yar _ _ (if(!t.led&& !es.isEmpty)=true then unsupported "set:maker-not-led" else pure ()) _ _ _;rw[yIn (by rw[e];simp)];refine yab (yab ?_);exact h
def vP(w:yak)(h:Heap)(a:Addr)(es:Array (Int×yai))(ep:Nat)(t:SetTable):Prop:=
 ∃o,h.get? a=some o/\o.ExactSet/\o.data=.set es ep t/\t.fits es.size=true/\t.led=(!w.params.followText "set-order")/\(t.plain=true->nS t.place)
theorem vP.keep{w:yak}{h h':Heap}{a:Addr}{es:Array (Int×yai)}{ep:Nat}{t:SetTable}(x:vP w h a es ep t)(e:∀o,h.get? a=some o->h'.get? a=some o):vP w h' a es ep t:=
 let⟨o,ho,r⟩:=x;⟨o,e o ho,r⟩
theorem Ca{a:Addr}{es:Array (Int×yai)}{ep:Nat}{t:SetTable}{Q:yai->yah->Prop}(hS:vP w s.heap a es ep t)(hn:es.size<4000)(h:∀(I:Addr)(C:List yai)(fp:List Addr)(St:Nat->Heap->Prop)(h':Heap) d,(∀b o,s.heap.get? b=some o->h'.get? b=some o)->s.heap.objs.size<=I->(∀b∈fp,b=a∨s.heap.objs.size<=b)->(∀{A':yal},A'.handled=none->Walks prog w A' I fp [I] C.length (λi v=>C[i]? =some v) St)->St 0 h'->C.Perm (es.toList.map (·.2))->Q (.ref I) {s with heap:=h',drawn:=d}):
  yar (model prog w) A (pyIter (.ref a)) Q E s:=by
 obtain⟨o,u,y,hd,f,n,hpl⟩:=hS;have sa:t9 s.heap a es ep t:=⟨o,u,y.1,hd⟩
 have la:a<s.heap.objs.size:=zcE u;refine wpAny_pyIter_slot sa.typeIs M5.F.lU (wpAny_call_entry M5.F.lU sa.typeIs M5.F.sH ?_ (M5.F.vB _));unfold Builtin.«frozenset.__iter__»;refine yaa (wpAny_of_eq (a:=a) rfl ?_);refine yaa (yaa (wpAny_setEntries_of u hd f (yab ?_)));refine yaa ?_;unfold setDrawn;refine yaa (wpAny_setState_of u hd f ?_);dsimp only;refine yaa (lG ?_);refine yab ?_;cases W:w.params.followText "set-order" with
 |true=>
  rw[yIn (by simp)];refine yaa (yab ?_);refine yaa (wpAny_setEpoch_of u hd f ?_);refine yaa (yae ?_);have L:=zaq (K6 (rawInt 0) 0 a es.size ep) u;have O:iB (s.heap.push (K6 (rawInt 0) 0 a es.size ep)) s.heap.objs.size (rawInt 0) 0 a es.size ep:=⟨_,zaJ _ rfl,rfl,rfl⟩
  refine yab ⟨_,rfl,"set_iterator",_,⟨_,zaJ _ rfl,rfl⟩,M5.F.slot_next.lookup,?_⟩;have P:=yD (w.params.setOrder a ep) es;refine h s.heap.objs.size ((pickOrder (w.params.setOrder a ep) es).toList.map (·.2)) [s.heap.objs.size,a] _ _ s.drawn (λb o e=>zaq _ e) (zcH _) (λb z=>?_)
   (λ{A'} U=>zS (sl:=λ_=>0) (ep:=ep) (es:=es) (t:=t) U (zcv la) f (by rw[zbK,P.length_eq,zaI]) ?_ ?_) ⟨O,_,L,y.1,hd⟩ (P.map _)
  ·simp only[zcg,zbA,or_false] at z;rcases z with rfl|rfl
   ·exact .inr (zcH _)
   ·exact .inl rfl
  ·intro i x g A' s' Q' E' c q;refine GY W c f ?_;rw[zaZ,zax] at g;cases hy:(pickOrder (w.params.setOrder a ep) es)[i]? with
   |none=>rw[hy] at g;cases g
   |some e=>rw[hy] at g;injection g with g;subst g;exact q
  ·intro A' s' Q' E' c q;refine GY W c f ?_;rw[zap (by rw[zbK,zaI];exact zcH _)];exact q
 |false=>
  rw[W] at n;have H:t.place.size=es.size:=by
   simp only[SetTable.fits,zbG,beq_iff_eq] at f;exact f.1
  by_cases m:(!t.plain&&decide (es.size> 1))=false
  ·have hR:nS t.place:=by
    cases S:t.plain with
    |true=>exact hpl S
    |false=>
     rw[S] at m;have m:decide (es.size> 1)=false:=m;have m:=of_decide_eq_false m;intro i j hij hj _;lia
   rw[yIn (by
    show¬((!false&&(!t.plain&&decide (es.size> 1)))=true);rw[m];decide)]
   refine yaa (yab ?_);refine yaa (wpAny_setEpoch_of u hd f ?_);refine yaa (yae ?_);have L:=zaq (K6 (rawInt 0) 0 a es.size ep) u;have O:iB (s.heap.push (K6 (rawInt 0) 0 a es.size ep)) s.heap.objs.size (rawInt 0) 0 a es.size ep:=⟨_,zaJ _ rfl,rfl,rfl⟩
   refine yab ⟨_,rfl,"set_iterator",_,⟨_,zaJ _ rfl,rfl⟩,M5.F.slot_next.lookup,?_⟩;have Hq:∀i,i<=es.size->SetTable.below t.place (if i=0 then 0 else t.place.getD (i - 1) 0+1)=i:=λi hi=>by
    by_cases h0:i=0
    ·subst h0;rw[yIp rfl];exact vv hR
    ·rw[yIn h0];have Z:i - 1<t.place.size:=by lia
     have X:t.place.getD (i - 1) 0=t.place[i - 1]:=by simp[zcM,Z]
     rw[X,vz hR Z];lia
   refine h s.heap.objs.size (es.toList.map (·.2)) [s.heap.objs.size,a] _ _ s.drawn (λb o e=>zaq _ e) (zcH _) (λb z=>?_)
    (λ{A'} U=>zS (sl:=λi=>if i=0 then 0 else t.place.getD (i - 1) 0+1) (ep:=ep) (es:=es) (t:=t) U (zcv la) f (by rw[zbK,zaI]) ?_ ?_) ⟨O,_,L,y.1,hd⟩ (.refl _)
   ·simp only[zcg,zbA,or_false] at z;rcases z with rfl|rfl
    ·exact .inr (zcH _)
    ·exact .inl rfl
   ·intro i x g A' s' Q' E' c q;have hi:i<es.size:=by
     have:=(zae.mp g).1;simpa using this
    refine GX W c f m n ?_;rw[zaZ,zax,zai hi] at g;injection g with g;subst g;rw[Hq i (by lia),zai hi,zai (by lia:i<t.place.size)];have X:(if i+1=0 then 0 else t.place.getD (i+1 - 1) 0+1)=t.place[i]'(by lia)+1:=by
     rw[yIn (by lia),Nat.add_sub_cancel];simp[zcM,(by lia:i<t.place.size)]
    rw[X] at q;exact q
   ·intro A' s' Q' E' c q;refine GX W c f m n ?_;rw[zbK,zaI];have en:es[SetTable.below t.place (if es.size=0 then 0 else t.place.getD (es.size - 1) 0+1)]? =none:=by
     rw[Hq es.size (zcH _)];exact zap (zcH _)
    rw[en];exact q
  ·have m:(!t.plain&&decide (es.size> 1))=true:=by simpa using m
   rw[yIp (by
    show(!false&&(!t.plain&&decide (es.size> 1)))=true;rw[m];rfl)]
   refine yaa (tw _ _ (by simp) λps d H=>?_);obtain⟨l,X,e2,e3⟩:=pull es ps H;refine yaa ?_;unfold newTuple;refine yae (s:={s with drawn:=d}) ?_ (by
    have:ps.length=es.size:=by rw[H.length_eq,zbe]
    show(ps.map λ(i:Nat)=>rawInt i).toArray.size<=yag;rw[zaX,zbK,yaf];lia)
   refine yaa (wpAny_setEpoch_of (s:={s with heap:=s.heap.push _,drawn:=d}) (zaq _ u) hd f ?_);refine yaa (yae ?_);generalize G:({cls:=.type "tuple",data:=.seq (ps.map λ(i:Nat)=>rawInt i).toArray}:Obj)=to;have hT1:(s.heap.push to).get? s.heap.objs.size=some to:=zaJ _ (by rw[<-G];rfl);have Y:(s.heap.push to).objs.size=s.heap.objs.size+1:=zcf ..;have gI:((s.heap.push to).push (K6 (.ref s.heap.objs.size) 0 a es.size ep)).get? (s.heap.push to).objs.size=some (K6 (.ref s.heap.objs.size) 0 a es.size ep):=zaJ _ rfl;refine yab ⟨_,rfl,"set_iterator",_,⟨_,gI,rfl⟩,M5.F.slot_next.lookup,?_⟩;refine h (s.heap.push to).objs.size (l.map (·.2)) [(s.heap.push to).objs.size,a,s.heap.objs.size] _ _ d (λb o e=>zaq _ (zaq _ e)) (by rw[Y];exact Nat.le_succ _) (λb z=>?_)
    (λ{A'} U=>HB (T:=s.heap.objs.size) (ep:=ep) (es:=es) (t:=t) (ps:=ps) U (by rw[Y];exact zcv (zbh la)) (by rw[Y];exact zcv (Nat.lt_succ_self _)) f (by rw[zbK];exact X) (λi Z h2=>?_)) ⟨⟨_,gI,rfl,rfl⟩,⟨_,zaq _ (zaq _ u),y.1,hd⟩,⟨_,zaq _ hT1,by rw[<-G],0,by rw[<-G]⟩⟩ (e2.map _)
   ·rw[Y] at z;simp only[zcg,zbA,or_false] at z;rcases z with rfl|rfl|rfl
    ·exact .inr (Nat.le_succ _)
    ·exact .inl rfl
    ·exact .inr (zcH _)
   ·have h3:i<l.length:=by rw[zbK] at h2;exact h2
    refine⟨l[i].1,?_⟩;rw[e3 i Z h3,zbz]
theorem zb{a:Addr}{Q:Bool->yah->Prop}(c:s.TypeIs (.ref a) "set")(h:Q false s):yar (model prog w) A (Builtin.List.listLengthHint (.ref a)) Q E s:=by
 unfold Builtin.List.listLengthHint;refine yaa (wpAny_specialOf c PySem.F.slot_set_len.lookup ?_);dsimp only;rw[show splitId "set.__len__"=some ("set","__len__") by decide+kernel];dsimp only;refine yaa (wpAny_isInstance (b:=true) c sub_set_self ?_);rw[yIn (by decide)];rw[yIp (by decide+kernel)];refine yaa (wpAny_typeOf c ?_);exact yab h
theorem vc{a L:Addr}{es:Array (Int×yai)}{ep:Nat}{t:SetTable}{R:Result->yah->Prop}(hh:A.handled=none)(Y:vP w s.heap a es ep t)(hn:es.size<4000)(O:s.heap.get? L=some {cls:=.type "list",data:=.seq #[]})(u:L≠a)(hR:∀s' (c:List yai) l,(∀b o,b≠L->s.heap.get? b=some o->s'.heap.get? b=some o)->s'.gens=s.gens->s'.os=s.os->s'.heap.get? L=some {cls:=.type "list",dict:=none,data:=.seq c.toArray l,slots:=#[]}->c.Perm (es.toList.map (·.2))->R (.ok (.ret (.ref L))) s'):
  yar (model prog w) A.in1 (Builtin.List.listExtendWith (.ref L) (.ref a) (.ref L))
   (λQ s'=>match Q with|.done f=>R (.ok f) s'|.again l=>l.quiet=true/\codeAny (model prog w) A l R s') (λe s'=>R (.error e) s') s:=by
 have U:s.TypeIs (.ref a) "set":=let⟨o,ho,hex,_⟩:=Y;⟨o,ho,hex.1⟩;unfold Builtin.List.listExtendWith;refine yaa (wpAny_typeOf U ?_);have P:Builtin.List.listSameRef (.ref L) (.ref a)=false:=by simp[Builtin.List.listSameRef,u]
 have v:(Value.type "set"==Value.type "list")=false:=by decide
 have h3:(Value.type "set"==Value.type "tuple")=false:=by decide
 simp only[P,v,h3,Bool.or_false,zaT,if_false];refine yaa (Ca Y hn λI c fp St x d kp hI H W C S=>?_);have ll:L<s.heap.objs.size:=zcE O;have q:L ∉ fp:=λz=>(H L z).elim u λz=>absurd ll (Nat.not_lt.mpr z);have y:Shared.TypeIs {s with heap:=x,drawn:=d} (.ref a) "set":=let⟨o,ho,hc⟩:=U;⟨o,kp _ _ ho,hc⟩;refine yaa (yad (zb y ?_));rw[yIp (by rfl)];refine yaa (wpAny_rule ?_);refine yaa ?_;show yar _ A.in1 (updateSeq L (·.push .none) >>= λ_=>updateSeq L (·.pop)) _ _ _;refine yaa (wpAny_updateSeq (s:={s with heap:=x,drawn:=d}) (kp _ _ O) rfl ?_);have Z:=zay (Obj.mapSeq (·.push Value.none)) (kp _ _ O) rfl;refine wpAny_updateSeq (hz:=by seq_fits) Z rfl ?_;have g3:=zay (Obj.mapSeq (·.pop)) Z rfl;have m:∀b o,b≠L->x.get? b=some o->((x.update L (Obj.mapSeq (·.push Value.none))).update L (Obj.mapSeq (·.pop))).get? b=some o:=
  λb o j e=>(zar _ _ (Ne.symm j)).trans ((zar _ _ (Ne.symm j)).trans e)
 have X:c.length=es.size:=by rw[S.length_eq,zbK,zaI]
 have WS:=(W (A':=A.in1) hh).toS;refine yab ⟨plainId_quiet PySem.F.plain_extend_loop _,codeAny_extend_loopS WS (by rw[yaf];lia) _ q _ c.length 0 _ _ _ rfl (zcI _) (WS.frame 0 {s with heap:=x,drawn:=d} _ s.toks C (zcH _) λb j o e=>m b o (λz=>q (z▸j)) e) g3 (ItemsOf.nil _) λs' g l G n h=>?_⟩;have ea:g=c.toArray:=by
  refine Array.ext (by rw[h.1,zaX]) λi P v=>?_;have z:c[i]? =some g[i]:=h.2 i g[i] (zai P);have v:i<c.length:=by simpa using v
  rw[zak v] at z;simpa using(zcJ.inj z).symm
 rw[ea] at n;refine hR s' c l (λb o j e=>?_) G.gens G.os n S;refine G.heap b o ?_ (m b o j (kp b o e));simp only[zcg,zbA,or_false];rintro(z|z)
 ·exact j z
 ·have:=zcE e;rw[z] at this;exact absurd this (Nat.not_lt.mpr hI)
theorem oB{a:Addr}{es:Array (Int×yai)}{ep:Nat}{t:SetTable}{R:Result->yah->Prop}(m:A.handled=none)(h:vP w s.heap a es ep t)(l:es.size<4000)(n:∀s' (c:List yai) f,(∀b o,s.heap.get? b=some o->s'.heap.get? b=some o)->s'.gens=s.gens->s'.os=s.os->s'.heap.get? s.heap.objs.size=some {cls:=.type "list",dict:=none,data:=.seq c.toArray f,slots:=#[]}->c.Perm (es.toList.map (·.2))->R (.ok (.ret (.ref s.heap.objs.size))) s'):
  codeAny (model prog w) A (.builtin "proto.collect" ⟨[.ref a],[]⟩) R s:=by
 have j:a<s.heap.objs.size:=let⟨o,ho,_⟩:=h;zcE ho;refine codeAny_builtin entry_proto_collect' ?_;show yar _ _ (do again (.builtin "list.__iadd__" ⟨[<-newList [],.ref a],[]⟩)) _ _ s;refine yaa (wpAny_newList (yab ⟨Code.quiet_builtin _ (by decide+kernel),codeAny_builtin entry_list_iadd' ?_⟩));rw[Around.under_plainId (show plainId "list.__iadd__"=true by decide+kernel) _];show yar _ _ (Builtin.List.listExtendWith (.ref s.heap.objs.size) (.ref a) (.ref s.heap.objs.size)) _ _ {s with heap:=s.heap.push (seqObj "list" #[] 0)};refine vc (s:={s with heap:=s.heap.push (seqObj "list" #[] 0)}) ?_ (h.keep λo e=>zaq _ e) l (zaJ _ rfl) (zcx j) λs' c f kp u q g i=>?_
 ·exact m
 ·exact n s' c f (λb o e=>kp b o (zcv (zcE e)) (zaq _ e)) u q g i
theorem sS{a:Addr}{es:Array (Int×yai)}{ep:Nat}{t:SetTable}{Q:List yai->yah->Prop}(i:A.handled=none)(j:vP w s.heap a es ep t)(f:es.size<4000)(h:∀s' (c:List yai),(∀b o,s.heap.get? b=some o->s'.heap.get? b=some o)->s'.gens=s.gens->s'.os=s.os->s.heap.objs.size<=s'.heap.objs.size->c.Perm (es.toList.map (·.2))->Q c s'):yar (model prog w) A (collect (.ref a)) Q E s:=by
 unfold collect;refine yaa (wpAny_runValue (oB i j f λs' c n kp m l g e=>?_));dsimp only;refine yaa (wpAny_load g ?_);exact yab (h s' c kp m l (Nat.le_of_lt (zcE g)) e)
end
end M7
namespace M6
open PySem PySem.Spec PyProof.Rows
section
variable {prog:yaj}{w:yak}{A:yal}{E:yai->yah->Prop}{s:yah}
theorem pR{I l:Addr}{items:Array yai}{St:Nat->Heap->Prop}(W:Walks prog w A I [I,l] [I] items.size (λi v=>items[i]? =some v) St):∀(k i:Nat){s:yah}{E:yai->yah->Prop}{Q:List yai->yah->Prop},i+k=items.size->St i s.heap->
  (∀(h':Heap)(tk:Nat),St items.size h'->(∀b o,b≠I->s.heap.get? b=some o->h'.get? b=some o)->Q (items.toList.drop i) {s with heap:=h',toks:=tk})->yar (model prog w) A (draw (.ref I) k) Q E s
 |0,i,s,E,Q,hk,hst,h=>by
  rw[draw.eq_def];obtain rfl:i=items.size:=by lia
  have:=h s.heap s.toks hst λb o _ e=>e;rw[List.drop_of_length_le (by simp)] at this;exact yab this
 |k+1,i,s,E,Q,hk,hst,h=>by
  rw[draw.eq_def];have j:i<items.size:=by lia
  refine yaa (W.item i s _ _ j hst λv h' tk q c t=>?_);dsimp only;refine yaa (yad (pR W k (i+1) (s:={s with heap:=h',toks:=tk}) (by lia) c λm f a g=>?_));refine yab ?_;have e:items.toList.drop i=v::items.toList.drop (i+1):=by
   rw[<-List.getElem_cons_drop (by simpa using j)];congr 1;rw[zai j] at q;simpa using q
  have:=h m f a λb o n e=>g b o n (t b o (by simpa using n) e);rw[e] at this;exact this
theorem qW{l:Addr}{items:Array yai}{Q:List yai->yah->Prop}(t:A.handled=none)(c:s.heap.IsList l items)(h:∀(h':Heap)(tk:Nat),(∀b o,s.heap.get? b=some o->h'.get? b=some o)->Q items.toList {s with heap:=h',toks:=tk}):yar (model prog w) A (unpackItems (.ref l) items.size none) Q E s:=by
 have n:l<s.heap.objs.size:=by obtain⟨o,q,_⟩:=c;exact zcE q
 unfold unpackItems;refine yaa (yaa (wpAny_specialOf c.typeIs slot_list_iter.lookup (yab ?_)));rw[yIn (by decide)];refine yaa (yad (wpAny_pyIter_list c ?_));have W:=Walks.list (prog:=prog) (w:=w) (A:=A) t s.heap.objs.size l (zcv n) items;refine yaa (yad (pR W items.size 0 (by lia) ⟨⟨_,zaJ _ rfl,rfl,rfl⟩,c.at λo e=>zaq _ e⟩ λv m a i=>?_));rw[List.drop_zero,yIn (by simp)];refine yaa (yad (W.done _ _ _ a λu f g=>?_));rw[yIn (by decide)];refine yab (h u f λb o e=>?_);have j:=zcv (zcE e);exact g b o (by simpa using j) (i b o j (zaq _ e))
end
end M6
namespace L2
open PySem PySem.Spec PyProof.Rows M6
def Hf(K:yaI)(n:Nat)(t:C9):TG:=λv e H Q=>∃a c,v=.ref a/\cV K H a c/\c.length=n/\t c e H Q
section
variable {X:Cx}{pos:Pos}
theorem ql{es:List Expr}{k:Nat}{t:C9}{n:Nat}(x:X.calm=true)(h:Hw X es t)(o:(assignEach es X.env).length=n:=by rfl)(f:(assignEach es X.env).findIdx? (·.1)=none:=by rfl):PG X (.Tuple es k pos) (Hf X.K n t):=by
 intro c s g H v u Q I r hw;obtain⟨a,j,C,m,q,hw⟩:=hw;subst C;cases r;obtain⟨e,i,l,F⟩:=I.list m;rw[assign_Tuple];refine yaa (yay ?_);unfold unpack;rw[f];have z:(assignEach es X.env).length=e.toArray.size:=by simp[o,<-q,i.length]
 rw[z];refine yaa (yad (qW (I.ok.hd x) l.isList λy tk kp=>?_));have E:Inv X c g H {s with heap:=y,toks:=tk}:=I.kept (t':=tk) kp;exact h c _ g H j _ Q E (by simpa using i) hw
end
end L2
namespace M
open PySem PySem.Spec PyProof.Rows L2
def CO(n:Nat)(a:zK):AG:=λd e S Q=>∃c,bz S d=.lst c/\c.length=n/\a c e S Q
section
variable {K:yaI}
theorem Em{n:Nat}{a:zK}:∀v c H Q,sP K (CO n a) v c H Q->Hf K n (pT K a) v c H Q:=by
 rintro v c H Q ⟨w,d,f,S,l,ok,env,rep,⟨j,z,h,q⟩,bk⟩;obtain⟨b,g,rfl,i,e⟩:=bG ok rep z;exact⟨b,g,rfl,cV.of i,by rw[e.length];exact h,w,j,f,S,l,ok,env,e,q,bk⟩
end
section
variable {X:Cx}{es:List Expr}{pos:Pos}
theorem ql{k:Nat}{t:zK}{n:Nat}(e:X.calm=true)(h:NF X es t)(c:(assignEach es X.env).length=n:=by rfl)(a:(assignEach es X.env).findIdx? (·.1)=none:=by rfl):GG X (.Tuple es k pos) (CO n t):=⟨mG (L2.ql e h.p c a) Em⟩
end
section
variable {X:Cx}{pos:Pos}
theorem i6{k:Nat}{ps:List Str}{sp:AN}{x:Str}{p:Pos}(D:Def X.prog X.w X.K X.mg X.base k x ps (aM X.K sp))(c:aQ k X.A)(i:Gl X x)(a:(x==("__debug__":Str))=false:=by decide+kernel):
  GE X (.Call (.Name x p) [] [] pos) (aCall sp gy):=⟨by
 obtain⟨f,fd,F,e,g,j⟩:=D.ex;refine mE (L2.BK F c i e g j .nil pq a) λm H Q h=>?_;obtain⟨w,n,S,l,ok,env,q,bk⟩:=h;exact⟨w,[],S,l,ok,.nil,q,bk⟩⟩
end
end M
namespace M8
open PySem PySem.Spec PyProof.Rows
open PySem.SetTable (Probe bits runEnd leap turns)
theorem OF{α:Type}[DecidableEq α]:∀{l m:List α},l.Nodup->(∀x∈l,x∈m)->l.length<=m.length
 |[],m,_,_=>zcI _
 |a::l,m,hn,hs=>by
  rw[zbM] at hn;have i:l.length<=(m.erase a).length:=OF hn.2 λx c=>by
   have:x≠a:=λe=>hn.1 (e▸c);exact(List.mem_erase_of_ne this).mpr (hs x (zaz _ c))
  have f:a∈m:=hs a (by simp);have h:=zal f;have g:0<m.length:=List.length_pos_of_mem f;rw[zbq];lia
noncomputable def DN(m:Nat)(p:Probe):Probe:=
 if p.more> 0 then{p with j:=p.j+1,more:=p.more - 1} else
 {p with j:=(leap m p.i p.perturb).1,more:=runEnd m (leap m p.i p.perturb).1 - (leap m p.i p.perturb).1,i:=(leap m p.i p.perturb).1,perturb:=(leap m p.i p.perturb).2}
theorem CS(t:SetTable)(p:Probe):t.advance p=DN t.mask p:=rfl
noncomputable def gf(m:Nat)(q:Nat×Nat):Probe:={j:=q.1,more:=runEnd m q.1 - q.1,i:=q.1,perturb:=q.2,dummy:=none}
noncomputable def ru(m:Nat)(h:Int):Nat->Nat×Nat
 |0=>(bits h % (m+1),bits h)
 |k+1=>leap m (ru m h k).1 (ru m h k).2
noncomputable def road(m:Nat)(h:Int):Nat->Probe
 |0=>gf m (ru m h 0)
 |n+1=>DN m (road m h n)
theorem Lq(t:SetTable)(h:Int):t.probeStart h=road t.mask h 0:=rfl
noncomputable def nk(m:Nat)(h:Int):Nat->Nat
 |0=>0
 |k+1=>nk m h k+(runEnd m (ru m h k).1 - (ru m h k).1)+1
theorem IQ{m i:Nat}:runEnd m i - i<=9:=by unfold runEnd;split<;>lia
theorem uE{m i:Nat}:i<=runEnd m i:=by unfold runEnd;split<;>lia
theorem Be{m i:Nat}(h:i<=m):runEnd m i<=m:=by unfold runEnd;split<;>lia
theorem Bg(m:Nat)(h:Int):∀k,(ru m h k).1<=m
 |0=>zbi (zcL _ (Nat.succ_pos m))
 |k+1=>zbi (zcL _ (Nat.succ_pos m))
theorem GV(m:Nat)(h:Int):∀k,nk m h k<=10*k
 |0=>zcH _
 |k+1=>by have:=GV m h k;have:=IQ (m:=m) (i:=(ru m h k).1);show nk m h k+_+1<=_;lia
theorem wN(m:Nat)(h:Int):∀k,road m h (nk m h k)=gf m (ru m h k)/\∀c,c<=runEnd m (ru m h k).1 - (ru m h k).1->road m h (nk m h k+c)={gf m (ru m h k) with j:=(ru m h k).1+c,more:=runEnd m (ru m h k).1 - (ru m h k).1 - c}:=by
 have step:∀k,road m h (nk m h k)=gf m (ru m h k)->∀c,c<=runEnd m (ru m h k).1 - (ru m h k).1->road m h (nk m h k+c)={gf m (ru m h k) with j:=(ru m h k).1+c,more:=runEnd m (ru m h k).1 - (ru m h k).1 - c}:=by
  intro k a c
  induction c with
  |zero=>intro _;rw[Nat.add_zero,a];rfl
  |succ c ih=>
   intro e;show DN m (road m h (nk m h k+c))=_;rw[ih (by lia)];unfold DN;rw[yIp (by show runEnd m (ru m h k).1 - (ru m h k).1 - c> 0;lia)];dsimp only;rw[Nat.add_assoc,Nat.sub_sub]
 intro k
 induction k with
 |zero=>exact⟨rfl,step 0 rfl⟩
 |succ k ih=>
  have:road m h (nk m h (k+1))=gf m (ru m h (k+1)):=by
   show DN m (road m h (nk m h k+(runEnd m (ru m h k).1 - (ru m h k).1)))=_;rw[ih.2 _ (zcH _)];unfold DN;rw[yIn (by show¬runEnd m (ru m h k).1 - (ru m h k).1 - (runEnd m (ru m h k).1 - (ru m h k).1)> 0;lia)];rfl
  exact⟨this,step _ this⟩
theorem lW(m:Nat)(h:Int):∀n,(road m h n).j+(road m h n).more<=m/\(road m h n).dummy=none
 |0=>by
  have a:=Bg m h 0;have f:=Be a;have e:=uE (m:=m) (i:=(ru m h 0).1);refine⟨?_,rfl⟩;show(ru m h 0).1+(runEnd m (ru m h 0).1 - (ru m h 0).1)<=m;lia
 |n+1=>by
  have c:=lW m h n;show(DN m (road m h n)).j+(DN m (road m h n)).more<=m/\(DN m (road m h n)).dummy=none;unfold DN;split
  ·refine⟨?_,c.2⟩;show(road m h n).j+1+((road m h n).more - 1)<=m;lia
  ·refine⟨?_,c.2⟩;dsimp only;have a:(leap m (road m h n).i (road m h n).perturb).1<=m:=zbi (zcL _ (Nat.succ_pos m));have f:=Be a;have e:=uE (m:=m) (i:=(leap m (road m h n).i (road m h n).perturb).1);lia
noncomputable def NT(m i:Nat):Nat:=(i*5+1) % (m+1)
noncomputable def it(m:Nat):Nat->Nat->Nat
 |0,i=>i
 |k+1,i=>it m k (NT m i)
theorem ni(m:Nat):∀a b i,it m (a+b) i=it m b (it m a i)
 |0,b,i=>by rw[Nat.zero_add];rfl
 |a+1,b,i=>by rw[Nat.add_right_comm];exact ni m a b (NT m i)
noncomputable def L3(m:Nat):Nat->Nat->List Nat
 |0,_=>[]
 |k+1,i=>i::L3 m k (NT m i)
theorem w9(m:Nat):∀k i j,j∈L3 m k i->∃a,a<k/\it m a i=j
 |0,i,j,h=>by simp[L3] at h
 |k+1,i,j,h=>by
  simp only[L3,zcg] at h;rcases h with rfl|h
  ·exact⟨0,by lia,rfl⟩
  ·obtain⟨a,e,c⟩:=w9 m k _ j h;exact⟨a+1,by lia,c⟩
noncomputable def full(m:Nat):Bool:=(zcK (m+1)).all (λj=>(L3 m (m+1) 0).contains j)&&it m (m+1) 0==0
theorem MQ:full 7=true:=by decide+kernel
theorem J1:full 31=true:=by decide+kernel
theorem Fg:full 127=true:=by decide+kernel
theorem JW{m:Nat}(c:full m=true){i j:Nat}(n:i<=m)(l:j<=m):∃k,k<=m/\it m k i=j:=by
 unfold full at c;rw[zbG,zbu] at c;have g:∀x,x<=m->∃a,a<m+1/\it m a 0=x:=λx q=>w9 m _ _ _ (by
  have:=c.1 x (zca.mpr (by lia));simpa using this)
 have e:it m (m+1) 0=0:=by simpa using c.2
 obtain⟨a,t,h⟩:=g i n;obtain⟨b,s,f⟩:=g j l;by_cases o:a<=b
 ·refine⟨b - a,by lia,?_⟩;rw[<-h,<-ni,<-f];congr 1;lia
 ·refine⟨m+1 - a+b,by lia,?_⟩;rw[<-h,<-ni,<-f];have:a+(m+1 - a+b)=m+1+b:=by lia
  rw[this,ni,e]
theorem FU(h:Int):bits h<2 ^ 64:=by
 unfold bits;have e:=zaR h (show(0:Int)<2 ^ 64 by decide);have c:=Int.emod_nonneg h (show(2 ^ 64:Int)≠0 by decide);have a:(2 ^ 64:Int)=((2 ^ 64:Nat):Int):=by decide
 lia
theorem Bf(m:Nat)(h:Int):∀k,(ru m h k).2=bits h / 32 ^ k
 |0=>by simp[ru]
 |k+1=>by
  show(ru m h k).2 / 32=_;rw[Bf m h k,Nat.div_div_eq_div_mul,Nat.pow_succ]
theorem Ew(m:Nat)(h:Int){k:Nat}(a:13<=k):(ru m h k).2=0:=by
 rw[Bf];refine Nat.div_eq_of_lt (zaQ (FU h) ?_);exact zcw (show 2 ^ 64<=32 ^ 13 by decide) (Nat.pow_le_pow_right (by decide) a)
theorem GL(m:Nat)(h:Int):∀k,(ru m h (13+k)).1=it m k (ru m h 13).1
 |0=>rfl
 |k+1=>by
  have e:(ru m h (13+(k+1))).1=NT m (ru m h (13+k)).1:=by
   show((ru m h (13+k)).1*5+1+(ru m h (13+k)).2 / 32) % (m+1)=_;rw[Ew m h (by lia)];rfl
  rw[e,GL m h k,ni m k 1];rfl
theorem Bh{m:Nat}(c:full m=true)(h:Int){j:Nat}(a:j<=m):∃k,k<=m+13/\(ru m h k).1=j:=by
 obtain⟨k,f,e⟩:=JW c (Bg m h 13) a;exact⟨13+k,by lia,by rw[GL,e]⟩
theorem Bj{m:Nat}(c:full m=true)(h:Int){j:Nat}(a:j<=m):∃n,n<10*turns m/\(road m h n).j=j:=by
 obtain⟨k,f,e⟩:=Bh c h a;refine⟨nk m h k,?_,?_⟩
 ·have:=GV m h k;unfold turns;lia
 ·rw[(wN m h k).1];exact e
def Way(m:Nat)(occ:Nat->Prop)(h:Int)(j:Nat):Prop:=∃n,(road m h n).j=j/\∀a<n,occ (road m h a).j
theorem Way.mono{m:Nat}{occ a:Nat->Prop}{h:Int}{j:Nat}(w:Way m occ h j)(g:∀x,occ x->a x):Way m a h j:=by
 obtain⟨n,i,f⟩:=w;exact⟨n,i,λc e=>g _ (f c e)⟩
theorem least{P:Nat->Prop}:∀(n:Nat),P n->∃k,k<=n/\P k/\∀i<k,¬P i
 |0,h=>⟨0,zcH _,h,λi e=>absurd e (zbV _)⟩
 |n+1,h=>by
  by_cases g:∃i,i<=n/\P i
  ·obtain⟨i,l,j⟩:=g;obtain⟨k,a,b,c⟩:=least i j;exact⟨k,by lia,b,c⟩
  ·exact⟨n+1,zcH _,h,λi e f=>g ⟨i,by lia,f⟩⟩
theorem u9{m:Nat}(s:full m=true)(h:Int){occ:List Nat}(v:occ.length<=m):∃N,N<10*turns m/\(road m h N).j ∉ occ/\∀n<N,(road m h n).j∈occ:=by
 have:∃j,j<=m/\j ∉ occ:=by
  apply Classical.byContradiction;intro f;have g:=OF (l:=zcK (m+1)) (m:=occ) List.nodup_range λx i=>by
   have i:=zca.mp i;apply Classical.byContradiction;intro e;exact f ⟨x,by lia,e⟩
  rw[zbe] at g;lia
 obtain⟨j,g,u⟩:=this;obtain⟨n,y,t⟩:=Bj s h g;obtain⟨N,a,b,c⟩:=least (P:=λn=>(road m h n).j ∉ occ) n (by rw[t];exact u);exact⟨N,by lia,b,λo q=>Classical.byContradiction λe=>c o q e⟩
end M8
namespace M8
open PySem PySem.Spec PyProof.Rows M7
open PySem.SetTable (Probe bits runEnd leap turns)
abbrev Ent:=Nat×(Int×yai)
noncomputable def fs(l:List Ent):List Nat:=l.map (·.1)
structure Tab(t:SetTable)(es:Array (Int×yai))(l:List Ent):Prop where
 dm:t.dummies=#[]
 pl:t.place.toList=fs l
 el:es.toList=l.map (·.2)
 up:(fs l).Pairwise (· < ·)
 mm:t.mask=7∨t.mask=31∨t.mask=127
 nf:l.length*5<t.mask*3
 le:∀e∈l,e.1<=t.mask
 way:∀e∈l,Way t.mask (· ∈fs l) e.2.1 e.1
theorem xC{m:Nat}(h:m=7∨m=31∨m=127):full m=true:=by
 rcases h with rfl|rfl|rfl
 ·exact MQ
 ·exact J1
 ·exact Fg
section
variable {t:SetTable}{es:Array (Int×yai)}{l:List Ent}
theorem Tab.rise(T:Tab t es l):nS t.place:=g7.mpr (by rw[T.pl];exact T.up)
theorem Tab.sz(T:Tab t es l):t.place.size=l.length:=by rw[<-zaI,T.pl];exact zbK ..
theorem Tab.NV(T:Tab t es l):es.size=l.length:=by rw[<-zaI,T.el,zbK]
theorem Tab.fits(T:Tab t es l):t.fits es.size=true:=by
 have c:=T.sz;have a:=T.NV;have e:=T.nf;unfold SetTable.fits SetTable.fill;rw[T.dm,c,a];simp;lia
theorem below_at{a:Array Nat}(c:nS a){i:Nat}(e:i<a.size):SetTable.below a a[i]=i:=by
 obtain⟨h,g,f⟩:=gR c a[i];rcases zbj i (SetTable.below a a[i]) with z|z|z
 ·have:=g i e z;lia
 ·exact z.symm
 ·have:=f _ (by lia:SetTable.below a a[i]<a.size) (zcH _);have:=c _ _ z e (by lia);lia
theorem Tab.live(T:Tab t es l){j:Nat}{e:Int×yai}(h:(j,e)∈l):∃i,t.slot j=.live i/\es[i]? =some e/\i<es.size:=by
 obtain⟨i,a,f⟩:=zaG h;have c:i<t.place.size:=by rw[T.sz];exact a
 have m:t.place[i]=j:=by
  have:t.place.toList[i]'(by simpa using c)=(fs l)[i]'(by unfold fs;simpa using a):=by simp only[T.pl]
  rw[Array.getElem_toList] at this;rw[this];unfold fs;rw[zbz,f]
 have n:es[i]? =some e:=by
  rw[<-zax,T.el,zaZ,zak a,f];rfl
 have g:=below_at T.rise c;rw[m] at g;refine⟨i,?_,n,by rw[T.NV];exact a⟩;unfold SetTable.slot;dsimp only;rw[g,zai c,m,yIp (by simp)]
theorem Tab.empty(T:Tab t es l){j:Nat}(h:j ∉ fs l):t.slot j=.empty:=by
 unfold SetTable.slot;dsimp only;rw[yIn (λz=>h (by
  have z:t.place[SetTable.below t.place j]? =some j:=by simpa using z
  rw[<-zax,T.pl] at z;exact zaC z)),T.dm]
 have:SetTable.has #[] j=false:=by unfold SetTable.has;rfl
 rw[this];rfl
theorem JH{j:Nat}(h:j∈fs l):∃e,(j,e)∈l:=by
 obtain⟨⟨a,b⟩,f,c⟩:=zcu.mp h;have c:a=j:=c;subst c;exact⟨b,f⟩
theorem Tab.probe(T:Tab t es l){hashAt:Nat->Int}{h:Int}(v:∀i e,es[i]? =some e->hashAt i=e.1){N:Nat}(I:(road t.mask h N).j ∉ fs l)(H:∀n<N,(road t.mask h n).j∈fs l):∀(f n:Nat),n<=N->N - n<f->
  (SetTable.probe.go t hashAt h f (road t.mask h n)=some (.empty (road t.mask h N).j none)/\∀m,n<=m->m<N->∀e,((road t.mask h m).j,e)∈l->e.1≠h)∨
  ∃o e i,n<=o/\o<N/\((road t.mask h o).j,e)∈l/\e.1=h/\t.slot (road t.mask h o).j=.live i/\es[i]? =some e/\SetTable.probe.go t hashAt h f (road t.mask h n)=some (.candidate (road t.mask h o).j i (road t.mask h (o+1)))/\∀m,n<=m->m<o->∀e,((road t.mask h m).j,e)∈l->e.1≠h
 |0,n,h1,h2=>by lia
 |f+1,n,h1,h2=>by
  rw[SetTable.probe.go.eq_2];rcases zcz n N with z|z
  ·obtain⟨e,G⟩:=JH (H n z);obtain⟨i,E,y,Y⟩:=T.live G;rw[E];dsimp only;rw[v i e y];have s:∀q,((road t.mask h n).j,q)∈l->q=e:=λq g=>by
    obtain⟨Z,x,F,_⟩:=T.live g;rw[E] at x;injection x with x;subst x;rw[y] at F;exact(zcJ.inj F).symm
   by_cases u:e.1=h
   ·refine .inr ⟨n,e,i,zcH _,z,G,u,E,y,?_,λm a b=>by lia⟩;rw[yIp (by simp[u]),CS];rfl
   ·rw[yIn (by simp[u]),CS];rcases T.probe v I H f (n+1) (by lia) (by lia) with⟨a,b⟩|⟨o,L,C,a1,X,W,U,S,Q,P,O⟩
    ·refine .inl ⟨a,λm c d q g=>?_⟩;rcases Nat.eq_or_lt_of_le c with rfl|c
     ·rw[s q g];exact u
     ·exact b m c d q g
    ·refine .inr ⟨o,L,C,by lia,X,W,U,S,Q,P,λm c d q g=>?_⟩;rcases Nat.eq_or_lt_of_le c with rfl|c
     ·rw[s q g];exact u
     ·exact O m c d q g
  ·obtain rfl:n=N:=by lia
   rw[T.empty I];dsimp only;rw[(lW t.mask h n).2];exact .inl ⟨rfl,λm a b=>by lia⟩
noncomputable def more(l:List Ent)(p:Nat)(e:Ent):List Ent:=l.take p++e::l.drop p
theorem ee(l:List Ent)(p:Nat)(e:Ent):(more l p e).Perm (e::l):=by
 unfold more;refine List.perm_middle.trans ?_;rw[List.take_append_drop]
theorem nq{α:Type}(a:Array α)(p:Nat)(x:α):(SetTable.insertAt a p x).toList=a.toList.take p++x::a.toList.drop p:=by
 unfold SetTable.insertAt;simp[Array.toList_extract];exact List.take_of_length_le (by simp)
theorem BC(T:Tab t es l){j:Nat}{h:Int}{x:yai}:(SetTable.insertAt es (t.put j).2 (h,x)).toList=(more l (t.put j).2 (j,(h,x))).map (·.2):=by
 rw[nq,T.el];unfold more;rw[zbS,zch,zck,zcl]
theorem Tab.put(T:Tab t es l){h:Int}{x:yai}{N:Nat}(s:(road t.mask h N).j ∉ fs l)(q:∀n<N,(road t.mask h n).j∈fs l)(i:(l.length+1)*5<t.mask*3):
  Tab (t.put (road t.mask h N).j).1 (SetTable.insertAt es (t.put (road t.mask h N).j).2 (h,x)) (more l (t.put (road t.mask h N).j).2 ((road t.mask h N).j,(h,x))):=by
 have v:=lW t.mask h N;generalize u:(road t.mask h N).j=j at*;have o:SetTable.has t.dummies j=false:=by rw[T.dm];unfold SetTable.has;rfl
 have g:(SetTable.insertAt t.place (SetTable.below t.place j) j).toList=fs (more l (SetTable.below t.place j) (j,(h,x))):=by
  rw[nq,T.pl];unfold more fs;rw[zbS,zch,zck,zcl]
 have f:∀y,y∈fs l->y∈fs (more l (SetTable.below t.place j) (j,(h,x))):=λy m=>by
  have:=((ee l (SetTable.below t.place j) (j,(h,x))).map (·.1)).mem_iff (a:=y);exact this.mpr (zaz _ m)
 refine⟨?_,g,BC T,?_,T.mm,?_,?_,?_⟩
 ·show(if SetTable.has t.dummies j=true then _ else t.dummies)=#[];rw[yIn (by rw[o];decide)];exact T.dm
 ·have:=g7.mp (Bl (j:=j) T.rise (by
   cases z:t.place[SetTable.below t.place j]? ==some j with
   |false=>rfl
   |true=>
    have z:t.place[SetTable.below t.place j]? =some j:=by simpa using z
    rw[<-zax,T.pl] at z;exact absurd (zaC z) s))
  rw[g] at this;exact this
 ·rw[(ee ..).length_eq];exact i
 ·intro e c;rcases zcg.mp ((ee ..).mem_iff.mp c) with rfl|c
  ·show j<=t.mask;lia
  ·exact T.le e c
 ·intro e c;rcases zcg.mp ((ee ..).mem_iff.mp c) with rfl|c
  ·exact⟨N,u,λn i=>f _ (q n i)⟩
  ·exact(T.way e c).mono f
end
def mP(ow:Array (Option Nat))(j:Nat):Prop:=∃i,ow[j]? =some (some i)
structure Own(m:Nat)(hs:List Int)(ow:Array (Option Nat)):Prop where
 sz:ow.size=m+1
 wy:∀(j i:Nat),ow[j]? =some (some i)->i<hs.length/\Way m (mP ow) (hs.getD i 0) j
 al:∀(i:Nat),i<hs.length->∃j:Nat,ow[j]? =some (some i)
 un:∀(j j' i:Nat),ow[j]? =some (some i)->ow[j']? =some (some i)->j=j'
theorem NU{m:Nat}{ow:Array (Option Nat)}(sz:ow.size=m+1){j:Nat}(e:j<=m):((ow.getD j (some 0)).isNone=true->ow[j]? =some none)/\((ow.getD j (some 0)).isNone=false->mP ow j):=by
 have a:j<ow.size:=by lia
 have c:ow.getD j (some 0)=ow[j]:=by simp[zcM,a]
 unfold mP;rw[c,zai a];cases ow[j] with
 |none=>exact⟨λ_=>rfl,(λz=>by cases z)⟩
 |some i=>exact⟨(λz=>by cases z),λ_=>⟨i,rfl⟩⟩
theorem xF{m:Nat}{ow:Array (Option Nat)}{h:Int}(sz:ow.size=m+1):∀(f k:Nat),(∃a,k<=a/\a<k+f/\ow[(ru m h a).1]? =some none)->(∀n<nk m h k,mP ow (road m h n).j)->∃j,SetTable.layClean.free m ow f (ru m h k).1 (ru m h k).2=some j/\j<=m/\ow[j]? =some none/\Way m (mP ow) h j
 |0,k,hx,_=>by obtain⟨a,F,E,_⟩:=hx;lia
 |f+1,k,hx,hb=>by
  obtain⟨a,F,E,u⟩:=hx;rw[SetTable.layClean.free.eq_2];have q:=Bg m h k;have x:=Be q;have C:=uE (m:=m) (i:=(ru m h k).1);have g:=wN m h k;cases l:(zcK (runEnd m (ru m h k).1+1 - (ru m h k).1)).find? (λc=>(ow.getD ((ru m h k).1+c) (some 0)).isNone) with
  |some c=>
   rw[List.find?_range_eq_some] at l;obtain⟨H,v,G⟩:=l;have v:=zca.mp v;have t:(ru m h k).1+c<=m:=by lia
   refine⟨_,rfl,t,(NU sz t).1 H,nk m h k+c,?_,λn o=>?_⟩
   ·rw[g.2 c (by lia)]
   ·rcases zcz n (nk m h k) with z|z
    ·exact hb n z
    ·obtain⟨d,rfl⟩:∃d,n=nk m h k+d:=⟨n - nk m h k,by lia⟩
     rw[g.2 d (by lia)];exact(NU sz (j:=(ru m h k).1+d) (by lia)).2 (by have:=G d (by lia);simpa using this)
  |none=>
   rw[List.find?_range_eq_none] at l;have all:∀d,d<=runEnd m (ru m h k).1 - (ru m h k).1->mP ow ((ru m h k).1+d):=λd hd=>(NU sz (by lia)).2 (by have:=l d (by lia);simpa using this);have y:k≠a:=λe=>by
    subst e;obtain⟨i,s⟩:=all 0 (by lia);rw[Nat.add_zero,u] at s;cases s
   exact xF sz f (k+1) ⟨a,by lia,by lia,u⟩ λn o=>by
    have o:n<nk m h k+(runEnd m (ru m h k).1 - (ru m h k).1)+1:=o;rcases zcz n (nk m h k) with z|z
    ·exact hb n z
    ·obtain⟨d,rfl⟩:∃d,n=nk m h k+d:=⟨n - nk m h k,by lia⟩
     rw[g.2 d (by lia)];exact all d (by lia)
theorem Own.step{m:Nat}{c:List Int}{ow:Array (Option Nat)}(O:Own m c ow)(I:full m=true)(S:c.length<=m)(h:Int):
  ∃j,SetTable.layClean.free m ow (turns m) (bits h % (m+1)) (bits h)=some j/\Own m (c++[h]) (ow.setIfInBounds j (some c.length)):=by
 have⟨j0,z1,z2⟩:∃j,j<=m/\ow[j]? =some none:=by
  apply Classical.byContradiction;intro C;have u:∀j,j<=m->mP ow j:=λj G=>by
   cases e:ow[j]? with
   |none=>rw[zac] at e;have:=O.sz;lia
   |some x=>
    cases x with
    |none=>exact absurd ⟨j,G,e⟩ C
    |some i=>exact⟨i,e⟩
  let g:Nat->Nat:=λi=>if h:i<c.length then Classical.choose (O.al i h) else 0;have H:∀i (h:i<c.length),ow[g i]? =some (some i):=λi h=>by
   show ow[if h:i<c.length then Classical.choose (O.al i h) else 0]? =_;rw[dif_pos h];exact Classical.choose_spec (O.al i h)
  have:=OF (l:=zcK (m+1)) (m:=(zcK c.length).map g) List.nodup_range λx f=>by
   have f:=zca.mp f;obtain⟨i,o⟩:=u x (by lia);have t:=(O.wy x i o).1;rw[O.un x (g i) i o (H i t)];exact zcu.mpr ⟨i,zca.mpr t,rfl⟩
  rw[zbe,zbK,zbe] at this;lia
 obtain⟨k,k1,k2⟩:=Bh I h z1;obtain⟨j,Q,U,P,L⟩:=xF (h:=h) O.sz (turns m) 0 ⟨k,zcI _,by unfold turns;lia,by rw[k2];exact z2⟩ (λn E=>absurd E (zbV _));refine⟨j,Q,?_⟩;have F:j<ow.size:=by rw[O.sz];lia
 have kJ:∀x,(ow.setIfInBounds j (some c.length))[x]? =if j=x then some (some c.length) else ow[x]?:=λx=>by
  rw[Array.getElem?_setIfInBounds];by_cases e:j=x
  ·rw[yIp e,yIp e,yIp (by lia)]
  ·rw[yIn e,yIn e]
 have s:∀x,mP ow x->mP (ow.setIfInBounds j (some c.length)) x:=λx ⟨i,o⟩=>by
  unfold mP;rw[kJ];by_cases e:j=x
  ·exact⟨_,yIp e⟩
  ·exact⟨i,by rw[yIn e];exact o⟩
 refine⟨by simp[O.sz],λx i o=>?_,λi o=>?_,λx y i f q=>?_⟩
 ·rw[kJ] at o;by_cases e:j=x
  ·rw[yIp e] at o;have o:c.length=i:=by injection o with o;injection o
   subst o;subst e;refine⟨by simp,?_⟩;have:(c++[h]).getD c.length 0=h:=by simp
   rw[this];exact L.mono s
  ·rw[yIn e] at o;obtain⟨a,b⟩:=O.wy x i o;refine⟨by rw[zaL];lia,?_⟩;have:(c++[h]).getD i 0=c.getD i 0:=by simp[zaf a]
   rw[this];exact b.mono s
 ·rw[zaL] at o;by_cases e:i=c.length
  ·exact⟨j,by rw[kJ,yIp rfl,e]⟩
  ·obtain⟨x,f⟩:=O.al i (by have:[h].length=1:=rfl;lia);refine⟨x,?_⟩;rw[kJ,yIn (λe=>by rw[<-e,P] at f;cases f)];exact f
 ·rw[kJ] at f q;by_cases z:j=x<;>by_cases v:j=y
  ·rw[<-z,v]
  ·rw[yIp z] at f;rw[yIn v] at q;have f:c.length=i:=by injection f with f;injection f
   have:=(O.wy y i q).1;lia
  ·rw[yIn z] at f;rw[yIp v] at q;have q:c.length=i:=by injection q with q;injection q
   have:=(O.wy x i f).1;lia
  ·rw[yIn z] at f;rw[yIn v] at q;exact O.un x y i f q
theorem B6{m:Nat}(f:full m=true){F:Option (Array (Option Nat)×Nat)->Int->Option (Array (Option Nat)×Nat)}(g:∀ow k h j,SetTable.layClean.free m ow (turns m) (bits h % (m+1)) (bits h)=some j->F (some (ow,k)) h=some (ow.setIfInBounds j (some k),k+1)):
  ∀(rest done:List Int)(ow:Array (Option Nat)),Own m done ow->done.length+rest.length<=m->∃c,rest.foldl F (some (ow,done.length))=some (c,done.length+rest.length)/\Own m (done++rest) c
 |[],done,ow,O,_=>⟨ow,rfl,by rw[zbL];exact O⟩
 |h::rest,done,ow,O,hl=>by
  rw[zbq] at hl;obtain⟨j,l,i⟩:=O.step f (by lia) h;have e:(done++[h]).length=done.length+1:=by simp
  obtain⟨c,a,b⟩:=B6 f g rest (done++[h]) _ i (by lia);refine⟨c,?_,?_⟩
  ·rw[zbQ,g _ _ _ _ l];rw[e] at a;rw[a,zbq];congr 2;lia
  ·rw[zbb] at b;exact b
theorem eU{m:Nat}(s:full m=true)(e:Array Int)(q:e.size<=m):∃ow,SetTable.layClean m e=some ow/\Own m e.toList ow:=by
 have t:Own m [] (Array.replicate (m+1) none):=by
  have o:∀j i,¬(Array.replicate (m+1) (none:Option Nat))[j]? =some (some i):=λj i z=>by
   rw[Array.getElem?_replicate] at z;split at z<;>simp at z
  exact⟨by simp,λj i c=>absurd c (o j i),λi c=>by simp at c,λj u i c=>absurd c (o j i)⟩
 unfold SetTable.layClean;rw[<-Array.foldl_toList];generalize g:(λ(n:Option (Array (Option Nat)×Nat))(h:Int)=>(do
  let(owner,k) <-n;let j <-SetTable.layClean.free m owner (turns m) (bits h % (m+1)) (bits h)
  pure (owner.setIfInBounds j (some k),k+1)))=F
 have l:∀ow k h j,SetTable.layClean.free m ow (turns m) (bits h % (m+1)) (bits h)=some j->F (some (ow,k)) h=some (ow.setIfInBounds j (some k),k+1):=λow k h j f=>by
  rw[<-g];show(SetTable.layClean.free m ow (turns m) (bits h % (m+1)) (bits h)).bind _=_;rw[f];rfl
 obtain⟨ow,a,b⟩:=B6 s (λow k h j f=>by
  exact l ow k h j f) e.toList [] _ t (by simpa using q)
 refine⟨ow,?_,b⟩;have a:=congrArg (Option.map (·.1)) a;exact a
theorem Bq{t:SetTable}{es:Array (Int×yai)}{n m:Nat}(X:SetTable.sizeAbove n - 1=m)(S:m=7∨m=31∨m=127)(Z:es.size*5<m*3):
  ∃t' o s,t.relaid (es.map (·.1)) n=some (t',o)/\Tab t' (o.filterMap (es[·]?)) s/\(s.map (·.2)).Perm es.toList/\t'.led=t.led/\t'.plain=t.plain:=by
 obtain⟨ow,a,O⟩:=eU (xC S) (es.map (·.1)) (by rw[Array.size_map];lia);have v:(es.map (·.1)).toList.length=es.size:=by simp
 generalize z:((zcK (m+1)).filterMap λj=>(ow.getD j none).map (j,·))=live;have mem:∀j i,(j,i)∈live↔ow[j]? =some (some i):=λj i=>by
  rw[<-z,List.mem_filterMap];constructor
  ·rintro⟨x,f,c⟩;have f:=zca.mp f;have g:x<ow.size:=by rw[O.sz];exact f
   have L:ow.getD x none=ow[x]:=by simp[zcM,g]
   rw[L] at c;cases I:ow[x] with
   |none=>rw[I] at c;cases c
   |some y=>
    rw[I] at c;have c:some (x,y)=some (j,i):=c;injection c with c;injection c with G h4;subst G;subst h4;rw[zai g,I]
  ·intro h;obtain⟨g,e⟩:=Array.getElem?_eq_some_iff.mp h;refine⟨j,zca.mpr (by rw[<-O.sz];exact g),?_⟩;have L:ow.getD j none=ow[j]:=by simp[zcM,g]
   rw[L,e];rfl
 have C:∀e∈live,e.2<es.size/\Way m (mP ow) ((es.getD e.2 (0,.none)).1) e.1:=λe l=>by
  obtain⟨f,c⟩:=O.wy e.1 e.2 ((mem e.1 e.2).mp l);rw[v] at f;refine⟨f,?_⟩;have:(es.map (·.1)).toList.getD e.2 0=(es.getD e.2 (0,.none)).1:=by simp[zcM,f]
  rw[this] at c;exact c
 have up:(live.map (·.1)).Pairwise (· < ·):=by
  rw[<-z];exact List.Pairwise.sublist (qA _ _) List.pairwise_lt_range
 have nd:(live.map (·.2)).Nodup:=by
  rw[zbf] at up;show(live.map (·.2)).Pairwise (· ≠·);rw[zbf];refine up.imp_of_mem λ{x y} g E Y e=>?_;have f:=(mem x.1 x.2).mp g;have c:=(mem y.1 y.2).mp E;rw[<-e] at c;have:=O.un _ _ _ f c;lia
 have W:(live.map (·.2)).Perm (zcK es.size):=by
  rw[List.perm_ext_iff_of_nodup nd List.nodup_range];intro i;rw[zca,zcu];constructor
  ·rintro⟨e,l,rfl⟩;exact(C e l).1
  ·intro F;obtain⟨j,hj⟩:=O.al i (by rw[v];exact F);exact⟨(j,i),(mem j i).mpr hj,rfl⟩
 generalize u:(live.map λe=>((e.1,es.getD e.2 (0,.none)):Ent))=s;have H:fs s=live.map (·.1):=by rw[<-u];unfold fs;rw[zct];rfl
 have U:s.map (·.2)=(live.map (·.2)).map λi=>es.getD i (0,.none):=by rw[<-u,zct,zct];rfl
 have P:(s.map (·.2)).Perm es.toList:=by
  rw[U];refine(W.map _).trans ?_;have:(zcK es.size).map (λi=>es.getD i (0,.none))=es.toList:=by
   refine zbx (by simp) λi f c=>?_;have G:i<es.size:=by simpa using c
   simp[zcM,G]
  rw[this]
 have fm:∀q:List (Nat×Nat),(∀e∈q,e.2<es.size)->(q.map (·.2)).filterMap (es[·]?)=(q.map (·.2)).map λi=>es.getD i (0,.none):=by
  intro q
  induction q with
  |nil=>intro _;rfl
  |cons e q ih=>
   intro Q;have f:=Q e (by simp);simp only[zch];rw[zaD,zai f];dsimp only;rw[ih λx g=>Q x (zaz _ g)];simp[zcM,f]
 refine⟨{mask:=m,place:=(live.map (·.1)).toArray,dummies:=#[],finger:=t.finger,led:=t.led,moves:=t.movedTo m,plain:=t.plain},(live.map (·.2)).toArray,s,?_,⟨rfl,?_,?_,?_,S,?_,?_,?_⟩,P,rfl,rfl⟩
 ·unfold SetTable.relaid SetTable.laid;rw[X,a];show some _=some _;rw[z]
 ·exact H.symm
 ·rw[Array.toList_filterMap,U];exact fm live λe l=>(C e l).1
 ·rw[H];exact up
 ·have:=P.length_eq;rw[zbK] at this;show s.length*5<m*3;have e:s.length=es.size:=this;rw[e];exact Z
 ·intro e l;rw[<-u] at l;obtain⟨x,g,rfl⟩:=zcu.mp l;obtain⟨f,_⟩:=Array.getElem?_eq_some_iff.mp ((mem x.1 x.2).mp g);have:=O.sz;show x.1<=m;lia
 ·intro e l;rw[<-u] at l;obtain⟨x,g,rfl⟩:=zcu.mp l;refine(C x g).2.mono λy E=>?_;rw[H];obtain⟨i,F⟩:=E;exact zcu.mpr ⟨(y,i),(mem y i).mpr F,rfl⟩
end M8
namespace M8
open PySem PySem.Spec PyProof.Rows M5 M6 M7
open PySem.SetTable (Probe bits runEnd leap turns)
section
variable {prog:yaj}{w:yak}{A:yal}{E:yai->yah->Prop}{s:yah}
theorem nD:∀(n:Nat)(d:yam){v:yai}{as:List Addr}{A:yal}{E:yai->yah->Prop}{s:yah}{Q:Bool->yah->Prop},d.depth<=n->bF d=true->Reads s.heap v d as->Q false s->yar (model prog w) A (ofAClassStatement n v) Q E s:=by
 intro n
 induction n with
 |zero=>
  intro d v as A E s Q hd c f h;cases f with
  |int i t=>rw[ofAClassStatement.eq_def];exact yab h
  |str x t=>rw[ofAClassStatement.eq_def];exact yab h
  |tuple ho hc hd' hall=>rw[bh] at hd;lia
  |none=>simp[bF] at c
  |bool b=>simp[bF] at c
  |list _ _ _ _=>simp[bF] at c
  |dict _ _ _ _ _=>simp[bF] at c
 |succ n ih=>
  intro d v as A E s Q hd c f h;cases f with
  |int i t=>rw[ofAClassStatement.eq_def];exact yab h
  |str x t=>rw[ofAClassStatement.eq_def];exact yab h
  |none=>simp[bF] at c
  |bool b=>simp[bF] at c
  |list _ _ _ _=>simp[bF] at c
  |dict _ _ _ _ _=>simp[bF] at c
  |@tuple a o vs m xs as ho hc hdat hall=>
   have F:=d8 ho hc;have c:cL xs=true:=c;rw[bh] at hd;rw[ofAClassStatement.eq_def];dsimp only;refine yaa (wpAny_typeOf F ?_);dsimp only;refine yaa (yab ?_);rw[yIn (by decide)];refine yaa (wpAny_seqItems ho hdat (yaa ?_));show yar (model prog w) A (forIn vs _ _) _ E s;rw[<-zaU];refine wpAny_forIn_list _ (λrest r l=>r.1=none/\l=s/\∃left j,ReadsAll s.heap rest left j/\∀x∈left,x∈xs) _ ?_ ?_ vs.toList (none,()) ⟨rfl,rfl,xs,_,hall,λ_ g=>g⟩
   ·rintro y rest ⟨q,z⟩ l ⟨f,rfl,left,j,C,e⟩;cases C with
    |@cons _ _ d' ds as1 bs g hrest=>
     have u:d'∈xs:=e d' (by simp);refine yaa (ih d' (as:=as1) (by have:=bV u;lia) (eS c d' u) g ?_);exact yab ⟨rfl,rfl,ds,bs,hrest,λx g=>e x (zaz _ g)⟩
   ·rintro⟨q,z⟩ l ⟨f,rfl,_⟩;have f:q=none:=f;subst f;exact yab h
theorem ue:∀(n:Nat)(d:yam){v:yai}{as:List Addr}{A:yal}{E:yai->yah->Prop}{s:yah}{Q:Bool->yah->Prop},d.depth<=n->bF d=true->Reads s.heap v d as->(∀b,Q b s)->yar (model prog w) A (hashByValue n v) Q E s:=by
 intro n
 induction n with
 |zero=>
  intro d v as A E s Q hd c l h;cases l with
  |int i t=>rw[hashByValue.eq_def];exact yab (h _)
  |str x t=>rw[hashByValue.eq_def];exact yab (h _)
  |tuple ho hc hd' hall=>rw[bh] at hd;lia
  |none=>simp[bF] at c
  |bool b=>simp[bF] at c
  |list _ _ _ _=>simp[bF] at c
  |dict _ _ _ _ _=>simp[bF] at c
 |succ n ih=>
  intro d v as A E s Q hd c l h;cases l with
  |int i t=>rw[hashByValue.eq_def];exact yab (h _)
  |str x t=>rw[hashByValue.eq_def];exact yab (h _)
  |none=>simp[bF] at c
  |bool b=>simp[bF] at c
  |list _ _ _ _=>simp[bF] at c
  |dict _ _ _ _ _=>simp[bF] at c
  |@tuple a o vs m xs as ho hc hdat hall=>
   have G:=d8 ho hc;have c:cL xs=true:=c;rw[bh] at hd;rw[hashByValue.eq_def];dsimp only;refine yaa (wpAny_specialOf G F.slot_tuple_hash.lookup ?_);refine yaa (wpAny_seqItems ho hdat (yaa ?_));show yar (model prog w) A (forIn vs _ _) _ E s;rw[<-zaU];refine wpAny_forIn_list _ (λrest r j=>j=s/\∃left g,ReadsAll s.heap rest left g/\∀x∈left,x∈xs) _ ?_ ?_ vs.toList (none,()) ⟨rfl,xs,_,hall,λ_ f=>f⟩
   ·rintro y rest ⟨q,z⟩ j ⟨rfl,left,g,C,e⟩;cases C with
    |@cons _ _ d' ds as1 bs f hrest=>
     have u:d'∈xs:=e d' (by simp);refine yaa (ih d' (as:=as1) (by have:=bV u;lia) (eS c d' u) f λb=>?_);cases b
     ·refine yab ?_;exact yab (h _)
     ·exact yab ⟨rfl,ds,bs,hrest,λx f=>e x (zaz _ f)⟩
   ·rintro⟨q,z⟩ j ⟨rfl,_⟩;cases q with
    |none=>exact yab (h _)
    |some b=>exact yab (h _)
theorem zk{d:yam}{b:Addr}{c:List yai}{Q:Bool->yah->Prop}(q:isKey s.heap d b)(o:∀v∈c,∃k a,v=.ref a/\isKey s.heap k a)(h:Q false s):yar (model prog w) A (searchCouldBeSeen (.ref b) c) Q E s:=by
 unfold searchCouldBeSeen;refine yaa ?_;refine wpAny_forIn_list _ (λrest r f=>r=(none,())/\f=s/\∀v∈rest,∃k a,v=.ref a/\isKey s.heap k a) _ ?_ ?_ c (none,()) ⟨rfl,rfl,o⟩
 ·rintro y rest r f ⟨rfl,rfl,g⟩;obtain⟨k,a,rfl,t⟩:=g y (by simp);have e:=λv n=>g v (zaz _ n);obtain⟨j,u,bs,i⟩:=q;obtain⟨m,x,as,l⟩:=t;dsimp only;split
  ·exact yab ⟨rfl,rfl,e⟩
  ·refine yaa (iK 8 d (by lia) j i ?_);rw[yIn (by decide)];refine yaa (iK 8 k (by lia) m l ?_);rw[yIn (by decide)];refine yaa (nD 8 d (by lia) j i ?_);rw[yIn (by decide)];refine yaa (nD 8 k (by lia) m l ?_);rw[yIn (by decide)];exact yab ⟨rfl,rfl,e⟩
 ·rintro r f ⟨rfl,rfl,_⟩;exact yab h
noncomputable def kQ(w:yak)(k:yam×Addr):Int×yai:=(br w k.1,.ref k.2)
theorem search{a b:Addr}{o:Obj}{es:Array (Int×yai)}{ep:Nat}{t:SetTable}{l:List Ent}{ks:List (yam×Addr)}{d:yam}{Q:SetFound->yah->Prop}(ho:s.heap.get? a=some o)(hd:o.data=.set es ep t)(T:Tab t es l)(u:es.toList=ks.map (kQ w))(P:∀k∈ks,isKey s.heap k.1 k.2)(hb:isKey s.heap d b)(hu:A.units+10<cLine){N:Nat}(hNf:N<10*turns t.mask)(Y:(road t.mask (br w d) N).j ∉ fs l)(U:∀n<N,(road t.mask (br w d) n).j∈fs l)(q1:(∃k∈ks,k.1=d)->Q (.there none) s)(q2:(∀k∈ks,k.1≠d)->Q (.free (road t.mask (br w d) N).j false) s):
  ∀(f n:Nat)(st:Option Probe),st.getD (t.probeStart (br w d))=road t.mask (br w d) n->n<=N->N - n<f->(∀m<n,∀k∈ks,((road t.mask (br w d) m).j,kQ w k)∈l->k.1≠d)->
   yar (model prog w) A (setSearchFrom a (.ref b) (br w d) true f st) Q E s
 |0,n,st,_,_,h,_=>by lia
 |f+1,n,st,hst,hn,hf,hne=>by
  have ent:∀e,e∈l.map (·.2)->∃k∈ks,e=kQ w k:=λe c=>by
   rw[<-T.el,u] at c;obtain⟨k,h1,h2⟩:=zcu.mp c;exact⟨k,h1,h2.symm⟩
  unfold setSearchFrom;refine yaa (wpAny_setState_of ho hd T.fits ?_);dsimp only;rw[yIn (by unfold SetTable.gaveWay;rcases T.mm with e|e|e<;>rw[e]<;>decide)];rw[hst];unfold SetTable.probe;generalize hG:SetTable.probe.go t _ (br w d) (10*turns t.mask) (road t.mask (br w d) n)=G;rcases T.probe (hashAt:=λi=>(es[i]?.map (·.1)).getD 0) (h:=br w d) (λi e c=>by show(es[i]?.map (·.1)).getD 0=e.1;rw[c];rfl) Y U (10*turns t.mask) n hn (by lia) with⟨p1,p2⟩|⟨n1,e,i,c1,c2,c3,c4,c5,c6,c7,c8⟩
  ·obtain rfl:some _=G:=p1.symm.trans hG;dsimp only;refine yab (q2 λk L e=>?_);have hm:kQ w k∈l.map (·.2):=by rw[<-T.el,u];exact zcu.mpr ⟨k,L,rfl⟩
   obtain⟨⟨j,e'⟩,g,e2⟩:=zcu.mp hm;have e2:e'=kQ w k:=e2;subst e2;obtain⟨q,H,F⟩:=T.way _ g;have hh:(kQ w k).1=br w d:=by rw[<-e];rfl
   have H:(road t.mask (br w d) q).j=j:=by have H:(road t.mask (kQ w k).1 q).j=j:=H;rw[hh] at H;exact H
   have F:∀m<q,(road t.mask (br w d) m).j∈fs l:=λm y=>by have F:(road t.mask (kQ w k).1 m).j∈fs l:=F m y;rw[hh] at F;exact F
   rw[<-H] at g;have S:(road t.mask (br w d) q).j∈fs l:=zcu.mpr ⟨_,g,rfl⟩;have hlt:q<N:=by
    rcases zbj q N with z|z|z
    ·exact z
    ·rw[z] at S;exact absurd S Y
    ·exact absurd (F N z) Y
   rcases zcz q n with z|z
   ·exact hne q z k L g e
   ·exact p2 q z hlt _ g hh
  ·obtain rfl:some _=G:=c7.symm.trans hG;dsimp only;obtain⟨k,k1,rfl⟩:=ent e (zcu.mpr ⟨_,c3,rfl⟩);have OR:∀v∈zcP (λx:Int×yai=>x.2) (Array.filter (λx=>x.1==br w d) es).toList,∃k a,v=.ref a/\isKey s.heap k a:=λv hv=>by
    obtain⟨e,c,rfl⟩:=zcu.mp hv;rw[Array.toList_filter] at c;have c:=(zbI.mp c).1;rw[u] at c;obtain⟨I,h1,rfl⟩:=zcu.mp c;exact⟨I.1,I.2,rfl,P I h1⟩
   by_cases hl:(!t.led)=true
   case' pos=>(rw[yIp hl];refine yaa (zk hb OR ?_);rw[yIn (by decide)])
   case' neg=>rw[yIn hl]
   all_goals
    rw[c6];show yar _ _ (holding [Value.ref k.2] (eqBool (.ref k.2) (.ref b)) >>= _) _ _ _;refine yaa (yad ((aD prog w).eqBool hu (P k k1) hb ?_));refine yaa (wpAny_setState_of ho hd T.fits ?_);by_cases c:k.1=d
    ·rw[yDt c];exact yab (q1 ⟨k,k1,c⟩)
    ·rw[yDf c,yIn (by decide)];have hsm:t.sameMemory t.moves t.mask=some true:=by unfold SetTable.sameMemory;rw[yIp (by simp)]
     dsimp only;rw[hsm];dsimp only;rw[yIp rfl,c5];dsimp only;rw[c6];show yar _ _ (isSame (.ref k.2) (.ref k.2) >>= _) _ _ _;refine yaa (wpAny_isSame_ref_self ?_);refine yaa (yab ?_);rw[yIp rfl];dsimp only;rw[yIn (by decide)];refine search ho hd T u P hb hu hNf Y U q1 q2 f (n1+1) _ rfl (by lia) (by lia) λm y I O C=>?_;rcases zcz m n with z|z
     ·exact hne m z I O C
     ·rcases Nat.eq_or_lt_of_le (zbi y) with Z|Z
      ·subst Z;obtain⟨i',X,W,_⟩:=T.live C;rw[c5] at X;injection X with X;subst X;rw[c6] at W;have W:=zcJ.inj W;injection W with _ j3;injection j3 with j3;have a1:=P k k1;have a2:=P I O;rw[<-j3] at a2;rw[<-(aD prog w).inj a1 a2];exact c
      ·intro e;refine c8 m z Z _ C ?_;rw[<-e];rfl
end
def cG(h h':Heap):Prop:=∀c o,o.cls=.type "tuple"->h.get? c=some o->h'.get? c=some o
theorem cG.trans{h h1 a:Heap}(x:cG h h1)(y:cG h1 a):cG h a:=λc o e z=>y c o e (x c o e z)
theorem cG.but{h h':Heap}{b:Addr}{ob:Obj}(f:h.get? b=some ob)(a:ob.cls≠ .type "tuple")(k:∀c o,c≠b->h.get? c=some o->h'.get? c=some o):cG h h':=λc o e z=>
 k c o (λg=>by subst g;rw[f] at z;cases z;exact a e) z
mutual
theorem wQ{h h':Heap}(kp:cG h h'):∀(d:yam){v:yai}{as:List Addr},bF d=true->Reads h v d as->Reads h' v d as
 |.int i,v,as,hk,hr=>by cases hr;exact .int ..
 |.str i,v,as,hk,hr=>by cases hr;exact .str ..
 |.tuple xs,v,as,hk,hr=>by
  cases hr with
  |@tuple a o vs m _ _ ho hc hdat hall=>exact .tuple (kp a o hc ho) hc hdat (rJ kp xs hk hall)
 |.none,_,_,h,_=>by simp[bF] at h
 |.bool _,_,_,h,_=>by simp[bF] at h
 |.list _,_,_,h,_=>by simp[bF] at h
 |.dict _,_,_,h,_=>by simp[bF] at h
theorem rJ{h h':Heap}(kp:cG h h'):∀(ds:List yam){vs:List yai}{as:List Addr},cL ds=true->ReadsAll h vs ds as->ReadsAll h' vs ds as
 |[],vs,as,hk,hr=>by cases hr;exact .nil
 |d::ds,vs,as,hk,hr=>by
  simp only[cL,zbG] at hk;cases hr with
  |cons hx hr=>exact .cons (wQ kp d hk.1 hx) (rJ kp ds hk.2 hr)
end
theorem kE{h h':Heap}(kp:cG h h'){d:yam}{a:Addr}(x:isKey h d a):isKey h' d a:=let⟨k1,k2,as,hr⟩:=x;⟨k1,k2,as,wQ kp d k1 hr⟩
def zG(w:yak)(B:List (yam×Addr))(h:Heap)(a:Addr)(S:List yam):Prop:=
 ∃o e f t l,∃c:List (yam×Addr),h.get? a=some o/\o.ExactSet/\o.data=.set e f t/\Tab t e l/\t.led=(!w.params.followText "set-order")/\e.toList=c.map (kQ w)/\(∀k∈c,k∈B/\isKey h k.1 k.2)/\(c.map (·.1)).Perm S
theorem zG.keep{w:yak}{B:List (yam×Addr)}{h h':Heap}{a:Addr}{S:List yam}(x:zG w B h a S)(e:∀o,h.get? a=some o->h'.get? a=some o)(kp:cG h h'):zG w B h' a S:=
 let⟨o,es,ep,t,l,ks,ho,r1,r2,r3,r4,r5,r6,r7⟩:=x;⟨o,es,ep,t,l,ks,e o ho,r1,r2,r3,r4,r5,λk c=>⟨(r6 k c).1,kE kp (r6 k c).2⟩,r7⟩
noncomputable def qJ(S:List yam)(x:yam):List yam:=if x∈S then S else S++[x]
theorem HV{o:Obj}(h:o.ExactSet):o.cls≠ .type "tuple":=by
 rw[h.1];intro z;injection z with z;exact absurd z (by decide)
theorem LB{h h':Heap}{a:Addr}{o:Obj}(g:h.get? a=some o)(f:o.ExactSet)(sb:Heap.SameBut a h h'):cG h h':=
 cG.but g (HV f) λc o i e=>by rw[sb.2 c i];exact e
theorem o9{w:yak}{ks:List (yam×Addr)}{es:List (Int×yai)}(h:es.Perm (ks.map (kQ w))):∃a:List (yam×Addr),a.Perm ks/\es=a.map (kQ w):=eO h
section
variable {prog:yaj}{w:yak}{A:yal}{E:yai->yah->Prop}{s:yah}
theorem F3{a b:Addr}{S:List yam}{d:yam}{Q:Bool->yah->Prop}{B:List (yam×Addr)}(hS:zG w B s.heap a S)(hbB:(d,b)∈B)(hb:isKey s.heap d b)(hu:A.units+10<cLine)(hn:S.length+1<64)(h:∀r h',Heap.SameBut a s.heap h'->cG s.heap h'->zG w B h' a (qJ S d)->Q r {s with heap:=h'}):
  yar (model prog w) A (setAddHashed a (.ref b) (br w d)) Q E s:=by
 obtain⟨o,es,ep,t,l,ks,G,u,hd,T,i,C,F,W⟩:=hS;have hk:∀k∈ks,isKey s.heap k.1 k.2:=λk f=>(F k f).2;have hlen:l.length=S.length:=by
  rw[<-W.length_eq,zbK,<-T.NV,<-zaI,C,zbK]
 have y:=T.mm;have hnf:=T.nf;obtain⟨N,n1,n2,n3⟩:=u9 (xC y) (br w d) (occ:=fs l) (by unfold fs;rw[zbK];lia);unfold setAddHashed;unfold setAddHashedIn;refine yad (yaa (wpAny_setState_of G hd T.fits ?_));dsimp only;rw[yIn (by unfold byScan;simp[Value.scannable])];refine yaa ?_;unfold setSearch;refine search G hd T C hk hb hu n1 n2 n3 (λhx=>?_) (λhx=>?_) 100000 0 none rfl (zcI _) (by
  have:turns t.mask<=142:=by unfold turns;rcases y with e|e|e<;>lia
  lia) (λn' hn'=>absurd hn' (zbV _))
 ·dsimp only;obtain⟨k,k1,k2⟩:=hx;have hm:d∈S:=W.mem_iff.mp (zcu.mpr ⟨k,k1,k2⟩);refine yab ?_;have q:=h false s.heap (Heap.SameBut.refl a s.heap) (λc o _ z=>z) (by
   unfold qJ;rw[yIp hm];exact⟨o,es,ep,t,l,ks,G,u,hd,T,i,C,F,W⟩)
  exact q
 ·dsimp only;have hm:d ∉ S:=λz=>by
   obtain⟨k,k1,k2⟩:=zcu.mp (W.mem_iff.mpr z);exact hx k k1 k2
  have hadd:qJ S d=S++[d]:=by unfold qJ;rw[yIn hm]
  rw[hadd] at h;refine yaa (wpAny_setState_of G hd T.fits ?_);dsimp only;have hes:=BC T (j:=(road t.mask (br w d) N).j) (h:=br w d) (x:=.ref b);have OS:=T.put (x:=.ref b) n2 n3;have Ce:(SetTable.insertAt es (t.put (road t.mask (br w d) N).j).2 (br w d,Value.ref b)).size=l.length+1:=by
   rw[<-zaI,hes,zbK,(ee ..).length_eq];rfl
  have hpe:(SetTable.insertAt es (t.put (road t.mask (br w d) N).j).2 (br w d,Value.ref b)).toList.Perm (((d,b)::ks).map (kQ w)):=by
   rw[hes];refine((ee ..).map _).trans ?_;rw[zch,<-T.el,C];exact .refl _
  have MI:(t.put (road t.mask (br w d) N).j).1.place.size=l.length+1:=by
   show(SetTable.insertAt t.place _ _).size=_;rw[<-zaI,nq,zaL,zbq,zbr,zbs,zaI,T.sz];have:=(gR T.rise (road t.mask (br w d) N).j).1;rw[T.sz] at this;lia
  have hdm:(t.put (road t.mask (br w d) N).j).1.dummies=#[]:=by
   have hh:SetTable.has t.dummies (road t.mask (br w d) N).j=false:=by rw[T.dm];unfold SetTable.has;rfl
   show(if SetTable.has t.dummies _=true then _ else t.dummies)=#[];rw[yIn (by rw[hh];decide)];exact T.dm
  have G7:(t.put (road t.mask (br w d) N).j).1.led=t.led:=rfl;have MJ:(t.put (road t.mask (br w d) N).j).1.mask=t.mask:=rfl;generalize (t.put (road t.mask (br w d) N).j)=tp at*;obtain⟨Y,p⟩:=tp;dsimp only at*;generalize hE1:SetTable.insertAt es p (br w d,Value.ref b)=es1 at*;have U:∀g:SetTable,g.place=Y.place->g.dummies=Y.dummies->g.mask=Y.mask->g.led=Y.led->yar (model prog w) A (do
    storeSet a es1 g
    if(!false&&g.tooFull)=true then do
      setRelay a (SetTable.grown (es.size+1))
      pure true
     else pure true) Q E s:=by
   intro g e1 e2 X e4;have v:=vZ es1 g G hd;have I:=Heap.SameBut.update s.heap a (Obj.putSet es1 g);have O:=LB G u I;refine yaa (wpAny_storeSet_of G hd ?_ (by rw[Ce,yaf];lia));have htf:g.tooFull=decide ((l.length+1)*5≥t.mask*3):=by
    unfold SetTable.tooFull SetTable.fill;rw[e1,e2,X,MI,hdm,MJ];simp
   rw[htf];by_cases n:(l.length+1)*5≥t.mask*3
   ·rw[yDt n,yIp (by decide)];have hfit:g.fits es1.size=true:=by
     unfold SetTable.fits SetTable.fill;rw[e1,e2,X,MI,hdm,MJ,Ce];simp;rcases y with e|e|e<;>lia
    have hg:SetTable.grown (es.size+1)=(l.length+1)*4:=by
     unfold SetTable.grown;rw[T.NV,yIn (by lia)]
    obtain⟨m,m1,m2,m3,m4⟩:∃m,SetTable.sizeAbove ((l.length+1)*4) - 1=m/\(m=7∨m=31∨m=127)/\es1.size*5<m*3/\SetTable.sizeAbove ((l.length+1)*4)<=128:=by
     rcases y with e|e|e
     ·have:l.length=4:=by lia
      rw[this];exact⟨31,by decide+kernel,.inr (.inl rfl),by rw[Ce,this];decide,by decide+kernel⟩
     ·have:l.length=18:=by lia
      rw[this];exact⟨127,by decide+kernel,.inr (.inr rfl),by rw[Ce,this];decide,by decide+kernel⟩
     ·lia
    obtain⟨t3,od,l3,r1,r2,r3,r4,r5⟩:=Bq (t:=g) (es:=es1) m1 m2 m3;refine yaa ?_;unfold setRelay;refine yaa (wpAny_setState_of v rfl hfit ?_);dsimp only;rw[hg,yIn (by rw[yaf];lia),r1];have MG:(od.filterMap (es1[·]?)).size=es1.size:=by
     rw[<-zaI,r2.el,r3.length_eq,zaI]
    refine yaa ?_;show yar _ _ (if((od.filterMap (es1[·]?)).size != es1.size)=true then _ else _) _ _ _;rw[yIn (by rw[MG];simp)];refine yab ?_;dsimp only;refine wpAny_storeSet_of v rfl ?_ (by rw[MG,Ce,yaf];lia);refine yab ?_;have Z:=I.trans (Heap.SameBut.update _ a (Obj.putSet (od.filterMap (es1[·]?)) t3));have L:=LB G u Z;obtain⟨P,p1,p2⟩:=o9 (w:=w) (ks:=(d,b)::ks) (es:=(od.filterMap (es1[·]?)).toList) (by rw[r2.el];exact r3.trans hpe);refine h true _ Z L ⟨_,_,_,t3,l3,P,vZ _ t3 v rfl,u,rfl,r2,by rw[r4,e4,G7,i],p2,λk f=>?_,?_⟩
    ·rcases zcg.mp (p1.mem_iff.mp f) with rfl|f
     ·exact⟨hbB,kE L hb⟩
     ·exact⟨(F k f).1,kE L (hk k f)⟩
    ·refine(p1.map _).trans ?_;rw[zch];refine(W.cons d).trans ?_;exact List.perm_append_singleton d S |>.symm
   ·rw[yDf n,yIn (by decide)];refine yab ?_;have H:=OS (by lia);obtain⟨P,p1,p2⟩:=o9 hpe;refine h true _ I O ⟨_,_,_,g,_,P,v,u,rfl,⟨by rw[e2];exact H.dm,by rw[e1];exact H.pl,H.el,H.up,by rw[X];exact H.mm,by rw[X];exact H.nf,by rw[X];exact H.le,by rw[X];exact H.way⟩,by rw[e4,G7,i],p2,λk f=>?_,?_⟩
    ·rcases zcg.mp (p1.mem_iff.mp f) with rfl|f
     ·exact⟨hbB,kE O hb⟩
     ·exact⟨(F k f).1,kE O (hk k f)⟩
    ·refine(p1.map _).trans ?_;rw[zch];refine(W.cons d).trans ?_;exact List.perm_append_singleton d S |>.symm
  obtain⟨b1,b2,bs,b3⟩:=hb;cases hpt:Y.plain with
  |true=>
   rw[yIp rfl];refine yaa (ue 8 d (by lia) b1 b3 λr=>?_);cases r
   ·exact U _ rfl rfl rfl rfl
   ·exact U _ rfl rfl rfl rfl
  |false=>
   rw[yIn (by decide)];refine yaa (yab ?_);exact U _ rfl rfl rfl rfl
end
end M8
namespace M8
open PySem PySem.Spec PyProof.Rows M5 M6 M7
noncomputable def nM(val:Nat->yam):Nat->List yam
 |0=>[]
 |i+1=>qJ (nM val i) (val i)
theorem mY(val:Nat->yam)(y:yam):∀n,y∈nM val n↔∃i,i<n/\val i=y
 |0=>by simp[nM]
 |n+1=>by
  have a:=mY val y n;have c:y∈nM val (n+1)↔y∈nM val n∨y=val n:=by
   show y∈qJ _ _↔_;unfold qJ;split
   ·exact⟨.inl,λz=>z.elim id λe=>e▸‹_›⟩
   ·simp
  rw[c,a];constructor
  ·rintro(⟨i,h,e⟩|e)
   ·exact⟨i,by lia,e⟩
   ·exact⟨n,by lia,e.symm⟩
  ·rintro⟨i,h,e⟩;rcases zcz i n with z|z
   ·exact .inl ⟨i,z,e⟩
   ·obtain rfl:i=n:=by lia
    exact .inr e.symm
theorem iL(val:Nat->yam):∀n,(nM val n).Nodup
 |0=>List.nodup_nil
 |n+1=>by
  have c:=iL val n;show(qJ _ _).Nodup;unfold qJ;split
  ·exact c
  ·rename_i f;rw[zbg];refine⟨c,by simp,λa h b g e=>?_⟩;rw[zaO.mp g] at e;exact f (e▸h)
section
variable {prog:yaj}{w:yak}{A:yal}{E:yai->yah->Prop}{s:yah}
theorem zF{B:List (yam×Addr)}{h:Heap}{a:Addr}(e:h.get? a=some (bU (!w.params.followText "set-order"))):zG w B h a []:=
 ⟨_,#[],0,_,[],[],e,⟨rfl,rfl,rfl⟩,rfl,⟨rfl,rfl,rfl,.nil,.inl rfl,(by show 0*5<7*3;decide),λe c=>by simp at c,λe c=>by simp at c⟩,rfl,rfl,λk f=>by simp at f,.nil⟩
end
end M8
namespace L2
open PySem PySem.Spec PyProof.Rows M6 M8
section
variable {X:Cx}{e:Expr}{ta:TE}{p p2 pos pos2:Pos}
theorem fj{α:Type}(f:α->Addr):∀{l:List α}{us:List yai},Vals (l.map λx=>V.ref (f x)) us->us=l.map λx=>Value.ref (f x)
 |[],us,h=>by cases h;rfl
 |x::l,us,h=>by
  cases h with
  |cons h1 h2=>cases h1;rw[fj f h2];rfl
end
end L2
namespace M
open PySem PySem.Spec PyProof.Rows L2 M6
section
variable {K:yaI}
theorem mw{α c:Type}{f:α->c}{l:List α}:∀{out:List c},(∀y∈out,y∈l.map f)->∃o':List α,(∀x∈o',x∈l)/\out=o'.map f
 |[],_=>⟨[],λ_ h=>by simp at h,rfl⟩
 |y::out,h=>by
  obtain⟨x,g,e⟩:=zcu.mp (h y (by simp));obtain⟨o',j,i⟩:=mw (l:=l) (f:=f) λz a=>h z (zaz _ a);refine⟨x::o',λz a=>?_,by rw[zch,e,<-i]⟩;rcases zcg.mp a with rfl|a
  ·exact g
  ·exact j z a
theorem jO{w:Wd}:∀{ks:List D}{a:List V},ak K w ks a->(∀k∈ks,∃es,k=.tup es)->∃bs:List Addr,a=bs.map V.ref
 |[],a,h,_=>by simp only[ak] at h;exact⟨[],h⟩
 |k::ks,a,h,g=>by
  simp only[ak] at h;obtain⟨x,r,rfl,c,f⟩:=h;obtain⟨es,rfl⟩:=g k (by simp);simp only[Rep] at c;obtain⟨b,i,rfl,_⟩:=c;obtain⟨bs,rfl⟩:=jO f λk e=>g k (zaz _ e);exact⟨b::bs,rfl⟩
end
end M
namespace M9
open PySem PySem.Spec PyProof.Rows
section
variable {prog:yaj}{w:yak}{A:yal}{E:yai->yah->Prop}{s:yah}
noncomputable abbrev Lc(l:Addr):Obj:={cls:=.type "tuple_iterator",data:=.fields #[.ref l,.int 0 0]}
noncomputable abbrev PB(a b:yai):Obj:={cls:=.type "tuple",data:=.seq #[a,b]}
noncomputable abbrev zO(a b:Addr):Obj:={cls:=.type "zip",data:=.fields #[.none,.bool false,.bool false,.ref a,.ref b]}
noncomputable abbrev q2(h:Heap)(c a:Addr):Heap:=(h.push (Lc c)).push (Lc a)
noncomputable abbrev q3(h:Heap)(a c:Addr):Heap:=(q2 h a c).push (PB (.ref h.objs.size) (.ref (h.push (Lc a)).objs.size))
noncomputable abbrev q4(h:Heap)(c a:Addr):Heap:=(q3 h c a).push (PB .none .none)
noncomputable abbrev q5(h:Heap)(c a:Addr):Heap:=(q4 h c a).push (zO (q2 h c a).objs.size (q3 h c a).objs.size)
end
end M9
namespace M12
open PySem PySem.Spec PyProof.Rows M9
noncomputable abbrev NR(l:Addr):Obj:={cls:=.type "list_iterator",data:=.fields #[.ref l,.int 0 0]}
noncomputable abbrev trO(a b c:yai):Obj:={cls:=.type "tuple",data:=.seq #[a,b,c]}
noncomputable abbrev p3(h:Heap)(e c a:Addr):Heap:=((h.push (NR e)).push (Lc c)).push (NR a)
noncomputable abbrev p4(h:Heap)(a c e:Addr):Heap:=(p3 h a c e).push (trO (.ref h.objs.size) (.ref (h.push (NR a)).objs.size) (.ref ((h.push (NR a)).push (Lc c)).objs.size))
end M12
namespace M10
open PySem PyProof.Rows
noncomputable def KR(R:Keyed->Int)(a:Array Keyed)(i:Nat):Int:=(a[i]?.map R).getD 0
def Up(R:Keyed->Int)(a:Array Keyed)(c m:Nat):Prop:=∀i j,c<=i->i<=j->j<c+m->KR R a i<=KR R a j
section
variable {prog:yaj}{w:yak}{A:yal}{E:yai->yah->Prop}{s:yah}{R:Keyed->Int}{κ:SortKind}{T:Keyed->Prop}{a₀ b:Array Keyed}{p:Array (Nat×Nat×Nat)}{lo:Nat}
noncomputable def t3(lo n a:Nat):StateT SortSt Sem (Option Nat):=do
 let mut n:=n
 reverseSlice' lo (lo+n)
 for _ in [n:a] do
  let some sm <-ltAt' (lo+n) (lo+n - 1)|return none
  if sm then break
  n:=n+1
 return some n
end
section
variable {prog:yaj}{w:yak}{A:yal}{E:yai->yah->Prop}{s:yah}{R:Keyed->Int}{κ:SortKind}{T:Keyed->Prop}{a₀:Array Keyed}
set_option hygiene false in
local macro_rules | `(tactic| exact_mod_cast ⟨1,$N⟩) => `(tactic| (
 obtain ⟨ys,g3,rfl,hp3,hr3⟩:=B3.ri hr
 refine wpS_bind (wpS_get ?_)
 have fin:∀ (zs:Array Keyed) (p':Array (Nat×Nat×Nat)) (g':Nat),zs.Perm a₀->Runs R zs p'.toList 0 lo->(∀ k,lo<=k->zs[k]? = ys[k]?)->RI R κ a₀ (lo + $N) (SortSt.mk' κ zs (p'.push (lo,$N,0)) g' none):=λzs p' g' q1 q2 q3 =>
  ⟨zs,_,g',rfl,q1,by
   rw [Array.toList_push]
   exact q2.app ⟨rfl,n1,hu3.of λk k1 k2=>KR_congr (q3 k k1),rfl⟩⟩
 split
 ·rename_i s1 n1' q' hb
  refine wpS_bind (wpS_mono (wpS_forRange
   (I:=λx c st'=>c=(none,())/\∃ zs p g,st'=SortSt.mk' κ zs p g none/\zs.Perm a₀/\Runs R zs p.toList 0 lo/\∀ k,lo<=k->zs[k]? = ys[k]?)
   (Q:=λc st'=>c=(none,())/\∃ zs p g,st'=SortSt.mk' κ zs p g none/\zs.Perm a₀/\Runs R zs p.toList 0 lo/\∀ k,lo<=k->zs[k]? = ys[k]?) ?step3 (λ_ _ h=>h) ⟨rfl,ys,p,g3,rfl,hp3,hr3,λ_ _=>rfl⟩) ?post3)
  case step3 =>
   rintro x3 c st' _ _ ⟨rfl,zs,p4,g4,rfl,hp4,hr4,hk4⟩
   refine wpS_bind (wpS_get ?_)
   split
   ·rename_i o1 o2 o3 ho
    split
    ·exact wpS_pure ⟨rfl,zs,p4,g4,rfl,hp4,hr4,hk4⟩
    ·have hs4:p4.size > 1:=by
      by_cases hc:p4.size > 1
      ·exact hc
      ·rw [yIn hc] at ho;cases ho
     refine wpS_bind (mrg_ok C (tp hp4) hr4 (by rw [hp4.size_eq];lia) (show p4.size - 2+1<p4.size by lia) λz5 p5 g5 q1 q2 q3 q4 => ?_)
     rw [yIn (by decide)]
     exact wpS_pure ⟨rfl,z5,p5,g5,rfl,q1.trans hp4,q2,λk hk=>(q4 k hk).trans (hk4 k hk)⟩
   ·exact wpS_pure ⟨rfl,zs,p4,g4,rfl,hp4,hr4,hk4⟩
  case post3 =>
   rintro c st' ⟨rfl,zs,p4,g4,rfl,hp4,hr4,hk4⟩
   refine wpS_bind (wpS_modify (wpS_bind (wpS_modify (wpS_pure ⟨_,rfl,by lia,n2,fin zs _ g4 hp4 ?_ hk4⟩))))
   refine hr4.pow ?_
   rw [Array.toList_modify]
   exact map_mod _ _ _
 ·exact wpS_bind (wpS_modify (wpS_pure ⟨_,rfl,by lia,n2,fin ys p g3 hp3 hr3 λ_ _=>rfl⟩))))
end
end M10
namespace M10
open PySem PySem.Spec PyProof.Rows
section
variable {prog:yaj}{w:yak}{A:yal}{E:yai->yah->Prop}{s:yah}{R:Keyed->Int}{T:Keyed->Prop}
def TS(ss:List Str)(p:Keyed):Prop:=∃x t,p.1=.str x t/\x∈ss
end
end M10
namespace M
open PySem PySem.Spec PyProof.Rows L2
section
variable {X:Cx}
def Bu(K:yaI):List V->Hp->VK->Prop:=λf H Q=>∃(a:Addr)(e:List Str),f=[.ref a]/\cV K H a (e.map V.str)/\e.length<=1000/\∀(p:Addr)(c:List Str),H p=none->c.Perm e->sortedS c=true->Q (.ref p) (upd H p (.lst (c.map V.str)))
end
end M
namespace L2
open PySem PySem.Spec PyProof.Rows
section
variable {X:Cx}{e:Expr}{ta:TE}{p p2 pos pos2:Pos}
theorem jU{α:Type}[DecidableEq α]:∀{l m:List α},l.Nodup->(∀y∈l,y∈m)->l.length<=m.length
 |[],_,_,_=>zcI _
 |x::l,m,h,hs=>by
  rw[zbM] at h;have c:=hs x (by simp);have:=jU (l:=l) (m:=m.erase x) h.2 λy a=>(List.mem_erase_of_ne (λe:y=x=>h.1 (by rw[<-e];exact a))).mpr (hs y (by simp[a]));rw[zal c] at this;have:0<m.length:=List.length_pos_of_mem c;rw[zbq];lia
end
end L2
namespace M6
open PySem PySem.Spec PyProof.Rows
section
variable {prog:yaj}{w:yak}
theorem EO{A:yal}{E:yai->yah->Prop}{s:yah}{i j:Str}{t u:Tok}{Q:Bool->yah->Prop}(h:Q (decide (i.cps.toList<j.cps.toList)) s):yar (model prog w) A (PyProof.Rows.oneLt' true (.str i t) (.str j u)) Q E s:=PyProof.Rows.oneLt_str h
theorem pH{A:yal}{Q:Bool->yah->Prop}{s:yah}{m1 m2:Nat}:∀(c a:List yam){j g:List yai}{as bs:List Addr}(i:Nat),(∀z∈c,z.depth<=6)->(∀z∈a,z.depth<=6)->cL c=true->cL a=true->dh c a=true->ReadsAll s.heap j c as->ReadsAll s.heap g a bs->A.units+6<cLine->
  (i=0->∃p q f e,c=.str p::f/\a=.str q::e)->m1+a.length=m2+c.length->Q (b5 c a) s->W.KatLex prog w A true (decide (m1<m2)) Q (j.zip g) i s
 |[],a,j,g,as,bs,i,d1,d2,k1,k2,hc,h1,h2,hu,h0,hm,h=>by
  cases h1;show Q (decide (m1<m2)) s;cases a with
  |nil=>simp only[b5,zbP] at hm h;rw[yDf (by lia)];exact h
  |cons _ _=>simp only[b5,zbP,zbq] at hm h;rw[yDt (by lia)];exact h
 |x::c,[],j,g,as,bs,i,d1,d2,k1,k2,hc,h1,h2,hu,h0,hm,h=>by
  cases h2;rw[List.zip_nil_right];show Q (decide (m1<m2)) s;simp only[b5,zbP,zbq] at hm h;rw[yDf (by lia)];exact h
 |x::c,y::a,j,g,as,bs,i,d1,d2,k1,k2,hc,h1,h2,hu,h0,hm,h=>by
  simp only[cL,zbG] at k1 k2;simp only[dh,zbG] at hc;have E:=d1 x (by simp);have C:=d2 y (by simp);cases h1 with
  |@cons u us _ _ a1 b1 g1 t1=>
   cases h2 with
   |@cons v vs _ _ a2 b2 g2 t2=>
    rw[zaN,W.KatLex.eq_2];refine SeqAt.eqBoolOverData prog w _ _ _ _ _ _ _ _ _ _ g1 g2 (eU _ k1.1) (eU _ k2.1) (by lia) ?_;rw[jk _ _ k1.1 k2.1];simp only[b5] at h;by_cases l:x=y
    ·rw[yDt l,yIp rfl];rw[yIp l] at h;exact pH c a (i+1) (λz m=>d1 z (zaz _ m)) (λz m=>d2 z (zaz _ m)) k1.2 k2.2 hc.2 t1 t2 hu (λz=>by lia) (by simp only[zbq] at hm;lia) h
    ·rw[yDf l,yIn (by decide)];rw[yIn l] at h;by_cases n:i=0
     ·obtain⟨p,q,f,e,t,o⟩:=h0 n;injection t with t _;injection o with o _;subst t;subst o;subst n;cases g1;cases g2;exact EO h
     ·have:(true&&i==0)=false:=by simp[n]
      rw[this];exact rS 6 E C k1.1 k2.1 hc.1 g1 g2 hu h
end
section
variable {prog:yaj}{w:yak}{A:yal}{E:yai->yah->Prop}{s:yah}
def lI(h:Heap)(k:yam×Addr):Prop:=isKey h k.1 k.2/\∃p r,k.1=.tuple (.str p::r)
theorem pJ{h:Heap}:∀{ks:List (yam×Addr)},(∀k∈ks,lI h k)->∃fs,W.KatTups h (ks.map λk=>.ref k.2) fs/\fs.length=ks.length/\∀f∈fs,∃i t,f=Value.str i t
 |[],_=>⟨[],.nil,rfl,by simp⟩
 |(d,a)::ks,hk=>by
  obtain⟨fs,x,u,q⟩:=pJ λk g=>hk k (zaz _ g);obtain⟨⟨k1,k2,as,n⟩,p,r,e⟩:=hk (d,a) (by simp);have e:d=.tuple (.str p::r):=e;subst e;cases n with
  |@tuple _ o vs m _ _ ho hc hdat hall=>
   generalize c:vs.toList=l at hall;cases hall with
   |@cons v l' _ _ a1 b1 g1 t1=>
    cases g1 with
    |str _ t=>
     refine⟨.str p t::fs,.cons ho hc hdat ?_ x,by simp[u],λf j=>?_⟩
     ·rw[<-zax,c];rfl
     ·rcases zcg.mp j with rfl|j
      ·exact⟨p,t,rfl⟩
      ·exact q f j
theorem CM{ks:List (yam×Addr)}(L:∀k∈ks,lI s.heap k)(X:∀k∈ks,∀l∈ks,aE k.1 l.1=true)(S:A.units+6<cLine)(i j:Nat)(C:Bool->yah->Prop)(u:i<ks.length)(g:j<ks.length)(h:C (fF ks[i].1 ks[j].1) s):
  W.kas_ask prog w A (tuples' true) (ks.map λk=>.ref k.2) i j C s:=by
 have H:=L ks[i] (zby u);have G:=L ks[j] (zby g);have a:=X ks[i] (zby u) ks[j] (zby g);have e:∀n (I:n<ks.length),(ks.map λk=>Value.ref k.2).getD n Value.none=.ref ks[n].2:=λn I=>by simp[zcO,I]
 unfold W.kas_ask;rw[e i u,e j g];generalize ks[i]=x at H a h;generalize ks[j]=y at G a h;obtain⟨⟨k1,k2,as,U⟩,p,r,F⟩:=H;obtain⟨⟨Q,c,bs,gr⟩,q,t,v⟩:=G;obtain⟨Z,ax⟩:=x;obtain⟨Y,ay⟩:=y;have F:Z=.tuple (.str p::r):=F;have v:Y=.tuple (.str q::t):=v;subst F;subst v;have k2:(PyData.tuple (.str p::r)).depth<=6:=k2;have c:(PyData.tuple (.str q::t)).depth<=6:=c;rw[bh] at k2 c;cases U with
 |@tuple _ o us m _ _ ho hcl hdat hall=>
  cases gr with
  |@tuple _ o2 vs m2 _ _ ho2 hcl2 hdat2 hall2=>
   have P:=dG hall;have O:=dG hall2;rw[zaI] at P O;exact W.kat_lt ho hdat ho2 hdat2 (pH _ _ 0 (λz f=>by have:=bV f;lia) (λz f=>by have:=bV f;lia) k1 Q a hall hall2 S (λ_=>⟨p,q,r,t,rfl,rfl⟩) (by lia) h)
theorem gD{d:Addr}{ks:List (yam×Addr)}{R:yah->Prop}{Q:yai->yah->Prop}(hh:A.handled=none)(hk:∀k∈ks,lI s.heap k)(hc:∀k∈ks,∀l∈ks,aE k.1 l.1=true)(h64:ks.length<64)(hu:A.units+20<cLine)(col:∀{A':yal}{Q':List yai->yah->Prop}{U:yai->yah->Prop},A'.handled=none->(∀s1 (a:List (yam×Addr)),(∀b o,s.heap.get? b=some o->s1.heap.get? b=some o)->R s1->a.Perm ks->Q' (a.map λk=>Value.ref k.2) s1)->yar (model prog w) A' (collect (.ref d)) Q' U s)(h:∀(s1:yah)(n:Heap)(out:List (yam×Addr))(c:Nat),R s1->(∀b o,s.heap.get? b=some o->s1.heap.get? b=some o)->(∀b o,s1.heap.get? b=some o->n.get? b=some o)->n.get? s1.heap.objs.size=some (seqObj "list" (out.map λk=>Value.ref k.2).toArray c)->out.Perm ks->out.Pairwise (λx y=>fF y.1 x.1=false)->Q (.ref s1.heap.objs.size) {s1 with heap:=n}):
  yar (model prog w) A (call (.builtin "sorted") [.ref d]) Q E s:=by
 refine zaj kind_sorted plain_sorted entry_sorted (args_sorted1 _) ?_;unfold Builtin.«sorted»;refine yaa (m:=checkCount "sorted" 1 1 _) (yab ?_);refine yaa (col ?_ λs1 a kp hR f=>?_)
 ·exact hh
 have hol:a.length=ks.length:=f.length_eq;generalize g:(a.map λk=>Value.ref k.2)=vs;have H:vs.length=a.length:=by rw[<-g,zbK]
 refine yaa (wpAny_newList ?_ (by first|(rw[yaf];lia)|(rw[zaX,yaf];lia)));have S:(s1.heap.push (seqObj "list" vs.toArray 0)).get? s1.heap.objs.size=some (seqObj "list" vs.toArray 0):=zaJ _ rfl;have F:∀k∈a,lI (b8 (s1.heap.push (seqObj "list" vs.toArray 0)) s1.heap.objs.size vs) k:=λk u=>by
  obtain⟨⟨k1,k2,as,hr⟩,r⟩:=hk k (f.mem_iff.mp u);exact⟨⟨k1,k2,as,jR S (λz=>by injection z with z;exact absurd z (by decide)) (λc o Z e=>pC Z e) _ k1 (Reads.keeps (λb o e=>zaq _ (kp b o e)) hr)⟩,r⟩
 have O:∀k∈a,∀l∈a,aE k.1 l.1=true:=λk h1 l n=>hc k (f.mem_iff.mp h1) l (f.mem_iff.mp n);generalize hdef:(PyData.none,(0:Addr))=df;have key:∀(A':yal),A'.units+8<cLine->∀{P:PySem.Fin->yah->Prop}{U:yai->yah->Prop},(∀p:Array Nat,p.Perm (zcK vs.length).toArray->(2<=vs.length->p=Srt.run (λi j=>fF (a.getD i df).1 (a.getD j df).1) (W.kas_sort vs.length))->P (.done (.ret .none)) {s1 with heap:=sortedHeap (s1.heap.push (seqObj "list" vs.toArray 0)) s1.heap.objs.size vs (p.toList.map λi=>vs.getD i Value.none).toArray})->
   yar (model prog w) A' (Builtin.«list.sort» ⟨[.ref s1.heap.objs.size],[]⟩) P U {s1 with heap:=s1.heap.push (seqObj "list" vs.toArray 0)}:=λA' hA P U hP=>by
  refine m6 (s:={s1 with heap:=s1.heap.push (seqObj "list" vs.toArray 0)}) _ S (by lia) (λn=>⟨tuples' true,λQ' hQ'=>?_,?_⟩) hP
  ·obtain⟨fs,f1,f2,f3⟩:=pJ F;rw[g] at f1;refine W.kat_kind (T:=.type "str") f1 (by lia) (λv hv=>?_) (by decide) hQ';obtain⟨i,t,rfl⟩:=f3 v hv;intro A2 Q2 E2 s2 _ q;exact wpAny_typeOf (typeIs_str s2 i t) q
  ·intro i j C G hj hC;have e:∀i (G:i<a.length),a.getD i df=a[i]:=λi G=>by simp[zcO,G]
   rw[e i (by lia),e j (by lia)] at hC;have:=CM (prog:=prog) (w:=w) (A:=A') (s:={s1 with heap:=b8 (s1.heap.push (seqObj "list" vs.toArray 0)) s1.heap.objs.size vs}) F O (by lia) i j C (by lia) (by lia) hC;rw[g] at this;exact this
 refine yaa (yad (wpAny_call_entry slot_list_sort ⟨_,S,rfl⟩ entry_list_sort (key _ ?_ λp hp I=>⟨_,rfl,?_⟩) (args_list_sort _)))
 ·show A.units+1+1+8<cLine;lia
 ·obtain⟨c,Y⟩:=sortedHeap_at (out:=(p.toList.map λi=>vs.getD i Value.none).toArray) S;have L:p.toList.Perm (zcK a.length):=by have:=zad.mp hp;rw[H] at this;simpa using this
  have X:∀i∈p.toList,i<a.length:=λi G=>zca.mp (L.mem_iff.mp G);have eo:(p.toList.map λi=>vs.getD i Value.none)=(p.toList.map λi=>a.getD i df).map λk=>Value.ref k.2:=by
   rw[zct];refine zaF λi G=>?_;have:=X i G;rw[<-g];simp[zcO,this]
  refine yab ⟨_,rfl,h s1 _ (p.toList.map λi=>a.getD i df) c hR kp (λb o e=>?_) (by rw[<-eo];exact Y) ?_ ?_⟩
  ·have lb:=zcE e;show(sortedHeap _ _ _ _).get? b=some o;rw[sortedHeap_old (zcv lb) (by rw[size_push'];exact zbh lb)];exact zaq _ e
  ·refine(L.map _).trans ?_;have:(zcK a.length).map (λi=>a.getD i df)=a:=by
    refine zbx (by simp) λi h1 n=>?_;simp[zcO,zak n]
   rw[this];exact f
  ·exact wc (λk u=>(F k u).1.1) O hp H I
end
end M6
namespace M5
open PySem PySem.Spec PyProof.Rows
section
variable {prog:yaj}{w:yak}{A:yal}{E:yai->yah->Prop}{s:yah}
theorem uT{d:Addr}(hd:(d==yas)=false):
  MeetsIn prog w (Builtin.«dict.__len__» ⟨[.ref d],[]⟩) (λ_ R s=>∃es ep,M6.fO s.heap d es ep/\R (.ok (.ret (.int es.size s.toks))) {s with toks:=s.toks+1}):=
 .of_wp λA R s ⟨es,ep,⟨o,c,e,a⟩,h⟩=>by
  show yar _ _ (dictSize d >>= _) _ _ s;unfold dictSize;refine yaa (yaa (wpAny_dictEntries c a (yab ?_)));show yar _ _ (Builtin.Dict.pendingCount d >>= _) _ _ s;refine yaa (wpAny_pendingCount_other hd ?_);refine wpAny_ret_mkInt ?_;rw[Nat.add_zero];exact h
theorem yU{d:Addr}{es:Array yav}{ep:Nat}{Q:yai->yah->Prop}(hd:(d==yas)=false)(a:M6.fO s.heap d es ep)(e:(es.size:Int)<2 ^ 63)(h:Q (.int es.size (s.toks+1)) {s with toks:=s.toks+1+1}):yar (model prog w) A (Builtin.«len» ⟨[.ref d],[]⟩) (λc s'=>∃r,c=.done (.ret r)/\Q r s') E s:=by
 unfold Builtin.«len»;refine yaa (m:=oneArg "len" _) (yab ?_);refine yaa (m:=callSpecial? (.ref d) (Str.ofString "__len__")) (wpAny_callSpecial?_slot (name:=Str.ofString "__len__") a.typeIs PySem.F.slot_dict_len (call_meetsIn PySem.F.slot_dict_len a.typeIs PySem.F.entry_dict_len (PySem.F.args_dict_len_1 _) (uT hd) ⟨es,ep,a,?_⟩));show yar _ _ _ _ _ {s with toks:=s.toks+1};refine yaa (yad (yab ?_));refine yaa (wpAny_letGo ?_);show yar _ _ (if((es.size:Nat):Int)<0 then _ else _) _ _ _;rw[yIn (by lia)];show yar _ _ (if((es.size:Nat):Int)≥2 ^ 63 then _ else _) _ _ _;rw[yIn (by lia)];exact yaa (wpAny_mkInt (yab ⟨_,rfl,h⟩))
theorem rf{d:Addr}{es:Array yav}{ep:Nat}{ss:List Str}{Q:yai->yah->Prop}(x:A.handled=none)(v:(d==yas)=false)(y:M6.fO s.heap d es ep)(f:StrsAre (es.toList.map (·.key)) ss)(z:es.size<64)(h:∀(h1 l:Heap)(tk:Nat)(out:List yai)(a:List Str)(c:Nat),(∀b o,s.heap.get? b=some o->h1.get? b=some o)->(∀b o,h1.get? b=some o->l.get? b=some o)->l.get? h1.objs.size=some (seqObj "list" out.toArray c)->StrsAre out a->a.Perm ss->sortedS a=true->Q (.ref h1.objs.size) {s with heap:=l,toks:=tk}):
  yar (model prog w) A (call (.builtin "sorted") [.ref d]) Q E s:=by
 refine zaj kind_sorted plain_sorted entry_sorted (args_sorted1 _) ?_;unfold Builtin.«sorted»;refine yaa (m:=checkCount "sorted" 1 1 _) (yab ?_);refine yaa (M6.nC v ?_ y (by rw[yaf];lia) λh1 tk kp=>?_)
 ·exact x
 have i:(es.toList.map (·.key)).length=es.size:=by rw[zbK,zaI]
 generalize (es.toList.map (·.key))=vs at f i;refine yaa (wpAny_newList ?_ (by first|(rw[yaf];lia)|(rw[zaX,yaf];lia)));have n:(h1.push (seqObj "list" vs.toArray 0)).get? h1.objs.size=some (seqObj "list" vs.toArray 0):=zaJ _ rfl;refine yaa (yad (wpAny_call_entry slot_list_sort ⟨_,n,rfl⟩ entry_list_sort (list_sort_treeK (κ:=PyProof.Rows.strKind) strKind_oneLt n f.keysOf (λt q rest e=>keyKind_strs (by rw[<-e];exact f)) (by lia) λg I H=>⟨_,rfl,?_⟩) (args_list_sort _)));obtain⟨a,G,F,C⟩:=sorted_out_str f I H;obtain⟨c,j⟩:=sortedHeap_at (out:=(arrOf g).map (·.2)) n;refine yab ⟨_,rfl,h h1 _ tk ((arrOf g).map (·.2)).toList a c kp (λb o e=>?_) (by rw[Array.toArray_toList];exact j) G F C⟩;have u:=zcE e;show(sortedHeap _ _ _ _).get? b=some o;rw[sortedHeap_old (zcv u) (by rw[size_push'];exact zbh u)];exact zaq _ e
end
end M5
namespace L2
open PySem PySem.Spec PyProof.Rows M6
def IU(K:yaI):List V->Hp->VK->Prop:=λe H Q=>∃(a:Addr)(c:List (yam×Addr)),e=[.ref a]/\cV K H a (c.map λk=>V.ref k.2)/\gn K H c/\(∀k∈c,∃p r,k.1=PyData.tuple (.str p::r))/\(∀k∈c,∀l∈c,aE k.1 l.1=true)/\c.length<64/\
 ∀(p:Addr)(out:List (yam×Addr)),H p=none->out.Perm c->out.Pairwise (λx y=>fF y.1 x.1=false)->Q (.ref p) (upd H p (.lst (out.map λk=>V.ref k.2)))
def EA(K:yaI)(W:yak):List V->Hp->VK->Prop:=λe H Q=>∃(a f:Addr)(c:List (yam×Addr)),e=[.ref a]/\H a=some (.ext (gh W f c))/\gn K H c/\(∀k∈c,∃p r,k.1=PyData.tuple (.str p::r))/\(∀k∈c,∀l∈c,aE k.1 l.1=true)/\c.length<64/\
 ∀(p:Addr)(out:List (yam×Addr)),H p=none->out.Perm c->out.Pairwise (λx y=>fF y.1 x.1=false)->Q (.ref p) (upd H p (.lst (out.map λk=>V.ref k.2)))
def EB:List V->Hp->VK->Prop:=λg H Q=>∃(a:Addr)(e:List (Key×V))(f:List Str),g=[.ref a]/\H a=some (.dK e)/\(e.map λx=>kV x.1)=f.map V.str/\f.length<64/\∀p (c:List Str),H p=none->c.Perm f->sortedS c=true->Q (.ref p) (upd H p (.lst (c.map V.str)))
def LR(W:yak):List V->Hp->VK->Prop:=λe H Q=>∃(a f:Addr)(c:List (yam×Addr)),e=[.ref a]/\H a=some (.ext (gh W f c))/\c.length<=1000/\Q (.int c.length) H
def LX(K:yaI)(W:yak)(c:Bool):R2:=λy x H Q=>∃(a f b:Addr)(e:List (yam×Addr))(d:yam),x=.ref a/\y=.ref b/\H a=some (.ext (gh W f e))/\gn K H e/\bF d=true/\d.depth<=6/\cu K H d (.ref b)/\Q (.bl (c != (e.any λx=>decide (x.1=d)))) H
section
variable {X:Cx}
theorem vf{k:Nat}(z:aQ k X.A):bW X (.builtin "sorted") (IU X.K):=by
 intro f s F H xs us Q I r h;obtain⟨a,j,rfl,Z,U,h0,Y,S,q⟩:=h;obtain⟨u,rfl,ru⟩:=vals1 r;cases ru;obtain⟨l,G,⟨o,n,e,t,hd,m⟩,_⟩:=I.list Z;have ei:l=j.map λk=>Value.ref k.2:=fj (λk:yam×Addr=>k.2) G;subst ei;refine gD (R:=λv=>∃i,v={s with heap:=i}) z.hd (λy x=>?_) Y S (by have:=z.units;lia) (λW hQ=>collect_list (vs:=j.map λk=>Value.ref k.2) ⟨o,e,t,n,m⟩ (hQ _ j (λb o e=>?_) ⟨_,rfl⟩ (.refl _)) (by rw[zbK,yaf];lia)) λv h2 out c hR k1 k2 g C P=>?_
 ·obtain⟨k1,k2,O⟩:=U y x;exact⟨I.key k1 k2 O,h0 y x⟩
 ·have L:=zcE e;exact(zar _ _ (zcx L)).trans (zaq _ e)
 ·obtain⟨i,rfl⟩:=hR;have E:Inv X f F H {s with heap:=i}:=I.kept (t':=s.toks) k1;refine⟨.ref i.objs.size,_,E.laid (a:=i.objs.size) (t':=s.toks) (o:=.lst (out.map λk=>V.ref k.2)) k2 (zcH _) ⟨by rw[zbK,C.length_eq,yaf];lia,_,c,dF (λk=>k.2) out,g⟩,rfl,q _ out (E.hok.fresh (zcH _)) C P⟩
theorem sW{k:Nat}(x:aQ k X.A):bW X (.builtin "sorted") (EA X.K X.w):=by
 intro i s F H xs us Q I r h;obtain⟨a,a',l,rfl,e,W,h0,Y,U,q⟩:=h;obtain⟨u,rfl,ru⟩:=vals1 r;cases ru;have t:=(show aJ X.prog X.w H s.heap a (.ext (gh X.w a' l)) from I.hok a _ e)
 obtain rfl:=fc t;obtain⟨⟨z,o,es,ep,S,L,hd,j,hn⟩,_,_⟩:=t;have O:es.size=l.length:=by have:=congrArg zcG j;simpa using this
 refine gD (R:=λn=>∃f tk,n={s with heap:=f,toks:=tk}) x.hd (λy v=>?_) Y U (by have:=x.units;lia) (λm hQ=>nC z m ⟨o,S,L,hd⟩ (by rw[yaf];lia) λf tk kp=>?_) λn h2 out c Z k1 k2 g C P=>?_
 ·obtain⟨k1,k2,G⟩:=W y v;exact⟨I.key k1 k2 G,h0 y v⟩
 ·rw[j,zct];exact hQ _ l kp ⟨f,tk,rfl⟩ (.refl _)
 ·obtain⟨f,tk,rfl⟩:=Z;have E:Inv X i F H {s with heap:=f,toks:=tk}:=I.kept (t':=tk) k1;refine⟨.ref f.objs.size,_,E.laid (a:=f.objs.size) (t':=tk) (o:=.lst (out.map λk=>V.ref k.2)) k2 (zcH _) ⟨by rw[zbK,C.length_eq,yaf];lia,_,c,dF (λk=>k.2) out,g⟩,rfl,q _ out (E.hok.fresh (zcH _)) C P⟩
theorem sX{k:Nat}(F:aQ k X.A):bW X (.builtin "sorted") EB:=by
 intro i s z H W Y Q I r h;obtain⟨a,l,C,rfl,e,L,P,q⟩:=h;obtain⟨u,rfl,ru⟩:=vals1 r;cases ru;obtain⟨E,Z,v,ep,O,j⟩:=Bs I e;have hl:v.size=l.length:=by have:=j.length;simpa using this.symm
 rw[L] at j;have G:v.size=C.length:=by have:=j.length;simpa using this.symm
 refine M5.rf F.hd E O (wk j) (by lia) λt h2 tk out f c n m g U x S=>?_;have y:Inv X i z H {s with heap:=t,toks:=tk}:=I.kept (t':=tk) n;refine⟨.ref t.objs.size,_,y.laid (a:=t.objs.size) (t':=tk) (o:=.lst (f.map V.str)) m (zcH _) ⟨by rw[zbK,x.length_eq];lia,out,c,M.oN U,g⟩,rfl,q _ f (y.hok.fresh (zcH _)) x S⟩
theorem ie(d:yam):∀ks:List (yam×Addr),(atKey (ks.map λx=>(x.1,x.2,Value.bool true)) d).isSome=(ks.any λx=>decide (x.1=d))
 |[]=>rfl
 |x::xs=>by
  have a:=ie d xs;unfold atKey at a⊢;rw[zbo] at a⊢;rw[zch,zbO,zci];by_cases h:x.1=d
  ·simp[h]
  ·simp only[h,decide_false,zcn];exact a
theorem Jq{k:Nat}(F:aQ k X.A):fG X (yan .In) (LX X.K X.w false):=by
 intro i s σ H y x v u Q I m n h;obtain⟨a,l,b,c,d,rfl,rfl,e,O,U,S,P,q⟩:=h;obtain rfl:u=Value.ref a:=n;obtain rfl:v=Value.ref b:=m;have j:=(show aJ X.prog X.w H s.heap a (.ext (gh X.w l c)) from I.hok a _ e)
 obtain rfl:=fc j;obtain⟨⟨z,o,W,Y,G,E,hd,g,L⟩,_,_⟩:=j;have Z:Heap.DictOfH (aD X.prog X.w) s.heap l (c.map λx=>(x.1,x.2,Value.bool true)):=by
  refine⟨o,W,Y,G,E,hd,?_,λx f=>?_,?_⟩
  ·rw[g,zct];rfl
  ·obtain⟨y,C,rfl⟩:=zcu.mp f;obtain⟨k1,k2,t⟩:=O y C;exact I.key k1 k2 t
  ·rw[zct];exact L
 have hu:=F.units;refine wpAny_in_heap (knd:=aD X.prog X.w) (show X.A.units+1+10<cLine by lia) (I.key U S P) z Z ?_;rw[ie d c];exact⟨.bl (c.any λx=>decide (x.1=d)),H,I.tok _,rfl,by simpa using q⟩
theorem zm:bW X (.builtin "len") (LR X.w):=by
 intro i s v H x y Q I r h;obtain⟨a,t,c,rfl,e,E,q⟩:=h;obtain⟨u,rfl,ru⟩:=vals1 r;cases ru;have j:=(show aJ X.prog X.w H s.heap a (.ext (gh X.w t c)) from I.hok a _ e)
 obtain rfl:=fc j;obtain⟨⟨z,o,n,F,m,l,hd,g,C⟩,_,_⟩:=j;have f:n.size=c.length:=by have:=congrArg zcG g;simpa using this
 refine zaj kind_len plain_len entry_len (args_len1 _) (M5.yU z ⟨o,m,l,hd⟩ (by lia) ?_);rw[f];exact⟨.int c.length,H,I.tok _,⟨_,rfl⟩,q⟩
end
end L2
namespace M
open PySem PySem.Spec PyProof.Rows L2 M6
section
variable {P:yaj}{w:yak}{K:yaI}{mg:Str->Option yai}{base:Heap}{C:Addr}
theorem OH{x c:Str}{st:Stmt}{f:Addr}{fd:yap}{N ps:List Str}{k:Nat}{sp:AN}(F:zP K x c st f fd)(S:az N ps (ai st))(len:∀ds S Q,sp ds S Q->ds.length=ps.length)(g:∀(f:Addr)(e:yai)(A:yal)(outer:List Env)(s:yah)(H:Hp)(E:XK),aQ k (A.deeper (PyProof.Rows.envOfC c (ai st) s.heap.objs.size f e))->∃a,ym (iO jL P w K mg base N c (ai st) f e A outer s H E).BS (bw st) a/\∀ds S Q,sp ds S Q->a {nx:=λ_ S'=>Q (.dat .bq) S',rt:=Q} (aG N ds) S):cW P w K mg base jL (k+1) f fd ps (aM K sp):=
 F.ok S (λm H Q E h=>by
  obtain⟨w,ds,S,j,ok,rep,q,bk⟩:=h;rw[rep.length];exact len ds S j q) λe A outer s H m Q E o h=>by
  obtain⟨a,t,hd⟩:=g f e A outer s H E o;obtain⟨w,ds,S,j,ok,rep,q,bk⟩:=h;refine⟨_,t.p,w,aG N ds,S,_,ok,g8 rep,hd ds S j q,⟨λy S' v l u le i env n=>?_,bk,λ_ _ _ _ _ _ _ _ z=>z.elim,λ_ _ _ _ _ _ _ _ z=>z.elim⟩⟩;exact bk (.dat .bq) S' .bq l u le i (show Rep K l .bq .bq from .bq) n
theorem gm{m c:Str}{st:Stmt}{N ps:List Str}{k:Nat}{sp:AN}(F:iz K C m c ps st)(S:az N ps (ai st))(len:∀ds S Q,sp ds S Q->ds.length=ps.length)(e:∀(f:Addr)(g:yai)(A:yal)(outer:List Env)(s:yah)(H:Hp)(E:XK),aQ k (A.deeper (PyProof.Rows.envOfC c (ai st) s.heap.objs.size f g))->∃a,ym (iO jL P w K mg base N c (ai st) f g A outer s H E).BS (bw st) a/\∀ds S Q,sp ds S Q->a {nx:=λ_ S'=>Q (.dat .bq) S',rt:=Q} (aG N ds) S):cQ P w K mg base (k+1) C m ps sp:=by
 obtain⟨f,fd,F,h,i⟩:=F.ex;exact⟨f,fd,OH F S len e,h,i⟩
theorem MY{x:Str}{st:Stmt}{N ps:List Str}{k:Nat}{sp:AN}(F:Src K mg x ps st)(S:az N ps (ai st))(len:∀ds S Q,sp ds S Q->ds.length=ps.length)(e:∀(f:Addr)(c:yai)(A:yal)(outer:List Env)(s:yah)(H:Hp)(E:XK),aQ k (A.deeper (PyProof.Rows.envOfC x (ai st) s.heap.objs.size f c))->∃a,ym (iO jL P w K mg base N x (ai st) f c A outer s H E).BS (bw st) a/\∀ds S Q,sp ds S Q->a {nx:=λ_ S'=>Q (.dat .bq) S',rt:=Q} (aG N ds) S):Def P w K mg base (k+1) x ps (aM K sp):=
 F.def S (λl H Q E h=>by
  obtain⟨w,ds,S,i,ok,rep,q,bk⟩:=h;rw[rep.length];exact len ds S i q) λf c A outer s H l Q E n h=>by
  obtain⟨a,o,hd⟩:=e f c A outer s H E n;obtain⟨w,ds,S,i,ok,rep,q,bk⟩:=h;refine⟨_,o.p,w,aG N ds,S,_,ok,g8 rep,hd ds S i q,⟨λv S' u j t le g env m=>?_,bk,λ_ _ _ _ _ _ _ _ z=>z.elim,λ_ _ _ _ _ _ _ _ z=>z.elim⟩⟩;exact bk (.dat .bq) S' .bq j t le g (show Rep K j .bq .bq from .bq) m
end
section
variable {X:Cx}{e o:Expr}{es:List Expr}{p p2 pos pos2:Pos}{C:Addr}{k:Nat}{m:Str}{ps:List Str}{sp:AN}{K:yaI}
theorem mK{x:Str}{f:Addr}{fd:yap}(MK:Mk X.K C f)(F:cW X.prog X.w X.K X.mg X.base jL k f fd ps (aM X.K sp))(L:Binds X.K fd ps [])(E:aQ (k+1) X.A)(I:Gl X x)(G:X.mg x=some (.ref C))(t:(x==("__debug__":Str))=false:=by decide+kernel):GE X (.Call (.Name x p) [] [] pos) (xV C sp gy):=by
 refine⟨mE (L2.mK MK F E I G L .nil pq t) λU H Q h=>?_⟩;obtain⟨w,W,S,Qa,ok,env,q,bk⟩:=h;refine λa u z nd ne=>?_;have l:(upd H u (HO.own a)) a=none:=by rw[aN (Ne.symm ne)];exact z
 have i:=(ok.alloc (o:=.own a) nd)
 obtain⟨y,s,dR,c⟩:=store (i.alloc (o:=.ins C u []) l) (i.fresh l (m:=.ins C [] []) ⟨u,[],rfl,rfl,.nil⟩);refine⟨y,_,_,_,dR,by rw[zbL];exact .cons c .nil,q,λr Z v Y H3 j n g ⟨P,q4⟩=>?_⟩;subst P;have O:=wO g rfl;exact⟨O,bk.dat (s.trans j) n (c.le j) q4⟩
structure Ds(ks:List D):Prop where
 good:∀k∈ks,bS k
 fst:∀k∈ks,∃p r,py k=PyData.tuple (.str p::r)
 cmp:∀k∈ks,∀l∈ks,aE (py k) (py l)=true
def Oc(ks:List D):Prop:=ks.Pairwise (λx y=>fF (py y) (py x)=false)
def KC:AN:=λf S Q=>∃d c,f=[d]/\bz S d=.lst c/\Ds c/\c.length<64/\∀a:List D,a.Perm c->Oc a->Q (.new (.lst a)) S
def F4(W:yak):AN:=λf S Q=>∃n c,f=[.loc n]/\S[n]? =some (some (nO W c))/\Ds c/\c.length<64/\∀a:List D,a.Perm c->Oc a->Q (.new (.lst a)) S
def F5:AN:=λf S Q=>∃d es,∃c:List Str,f=[d]/\bz S d=.dct (c.map Sum.inr) es/\c.length<64/\∀a:List Str,a.Perm c->sortedS a=true->Q (.new (.lst (a.map D.str))) S
def Nv(W:yak):AN:=λc S Q=>∃n a,c=[.loc n]/\S[n]? =some (some (nO W a))/\a.length<=1000/\Q (.dat (.int a.length)) S
noncomputable def gb(ks:List D)(k:D):Bool:=ks.any λj=>decide (py j=py k)
def KO(W:yak)(a:Bool):A2:=λx y S Q=>∃n c,y=.loc n/\S[n]? =some (some (nO W c))/\bS x/\(∀k∈c,bS k)/\Q (.dat (.bl (a != gb c x))) S
theorem cS{ks:List D}{bs:List Addr}(a:ks.length=bs.length):(∀x∈(ks.map py).zip bs,∃k∈ks,x.1=py k)/\(ks.map py).zip bs=(ks.zip bs).map (λx=>(py x.1,x.2))/\((ks.map py).zip bs).map (λk=>V.ref k.2)=bs.map V.ref/\((ks.map py).zip bs).map (·.1)=ks.map py:=by
 refine⟨λx c=>?_,by rw[List.zip_map_left];rfl,?_,zbB (by rw[zbK];lia)⟩
 ·obtain⟨k,f,e⟩:=zcu.mp (zbN c).1;exact⟨k,f,e.symm⟩
 ·have:((ks.map py).zip bs).map (·.2)=bs:=List.map_snd_zip (by rw[zbK];lia);rw[<-this,zct,this];rfl
theorem oU{w:Wd}{H:Hp}{S:aA}{ks:List D}{bs:List Addr}{n:AK}{Q:VK}(ok:Ok K w H S)(j:ak K w ks (bs.map V.ref))(bk:dX K w n Q)(q:∀c:List D,c.Perm ks->Oc c->n (.new (.lst c)) S):
  ∀(p:Addr)(out:List (yam×Addr)),H p=none->out.Perm ((ks.map py).zip bs)->out.Pairwise (λx y=>fF y.1 x.1=false)->Q (.ref p) (upd H p (.lst (out.map λk=>V.ref k.2))):=by
 intro p out l a f;have g:ks.length=bs.length:=by have:=j.length;rw[zbK] at this;exact this.symm
 obtain⟨_,t,_,_⟩:=cS g;rw[t] at a;obtain⟨h,i,rfl⟩:=eO a;have u:(zcP (λk:yam×Addr=>V.ref k.2) (h.map λx=>(py x.1,x.2)))=h.map λx=>V.ref x.2:=by rw[zct];rfl
 rw[u];refine bk (.new (.lst (h.map (·.1)))) S _ w _ .refl (ok.alloc l) (ok.fresh l ⟨_,rfl,dM λx s=>kZ j x (i.mem_iff.mp s)⟩) (q _ ?_ ?_)
 ·have:=i.map (·.1);rw[zbB (by lia)] at this;exact this
 ·show(h.map (·.1)).Pairwise _;rw[zbf] at f⊢;exact f
theorem EV{j:Nat}(I:aQ j X.A):ua X (.builtin "sorted") KC:=⟨mC (vf I) λu H Q h=>by
 obtain⟨w,Z,S,Qa,ok,rep,⟨d,t,rfl,z,g,U,q⟩,bk⟩:=h;obtain⟨v,rfl,E⟩:=eF rep;obtain⟨a,u,rfl,L,i⟩:=bG ok E z;obtain⟨bs,rfl⟩:=jO i λk f=>(g.good k f).2.2.2;have c:t.length=bs.length:=by have:=i.length;rw[zbK] at this;exact this.symm
 obtain⟨s,W,O,Y⟩:=cS c;refine⟨a,(t.map py).zip bs,rfl,by rw[O];exact cV.of L,cD ok i g.good,λx l=>?_,λx l y G=>?_,by rw[zbU,zbK];lia,oU ok i bk q⟩
 ·obtain⟨k,f,e⟩:=s x l;rw[e];exact g.fst k f
 ·obtain⟨k,f,e⟩:=s x l;obtain⟨F,n,P⟩:=s y G;rw[e,P];exact g.cmp k f F n⟩
theorem yN{w:Wd}{H:Hp}{S:aA}{n:Nat}{v:V}{W:yak}{ks:List D}(ok:Ok K w H S)(r:Rep K w (.loc n) v)(z:S[n]? =some (some (nO W ks))):
  ∃(a c:Addr)(bs:List Addr),v=.ref a/\H a=some (.ext (gh W c ((ks.map py).zip bs)))/\ak K w ks (bs.map V.ref)/\ks.length=bs.length:=by
 simp only[Rep] at r;obtain⟨a,h,rfl⟩:=r;obtain⟨i,u,k1,k2,g,c,bs,rfl,f⟩:=ok.live n _ z;rw[h] at k1;cases k1;exact⟨a,c,bs,rfl,g,f,by have:=f.length;rw[zbK] at this;exact this.symm⟩
theorem BN{j:Nat}(I:aQ j X.A):ua X (.builtin "sorted") (F4 X.w):=⟨mC (sW I) λP H Q h=>by
 obtain⟨w,ds,S,Qa,ok,rep,⟨n,U,rfl,z,g,W,q⟩,bk⟩:=h;obtain⟨v,rfl,u⟩:=eF rep;obtain⟨a,O,bs,rfl,E,t,c⟩:=yN ok u z;obtain⟨s,Y,e1,Z⟩:=cS c;refine⟨a,O,_,rfl,E,cD ok t g.good,λx f=>?_,λx f y G=>?_,by rw[zbU,zbK];lia,oU ok t bk q⟩
 ·obtain⟨k,l,e⟩:=s x f;rw[e];exact g.fst k l
 ·obtain⟨k,l,e⟩:=s x f;obtain⟨F,i,L⟩:=s y G;rw[e,L];exact g.cmp k l F i⟩
theorem rV{j:Nat}(n:aQ j X.A):ua X (.builtin "sorted") F5:=⟨mC (sX n) λF H Q h=>by
 obtain⟨w,I,S,L,ok,rep,⟨d,es,i,rfl,z,s,q⟩,bk⟩:=h;obtain⟨v,rfl,l⟩:=eF rep;obtain⟨a,c,rfl,u,t,G⟩:=fT ok l z;refine⟨a,c,i,rfl,u,?_,s,λp f g E y=>bk (.new (.lst _)) S _ w _ .refl (ok.alloc g) (ok.fresh g ⟨_,rfl,iV f⟩) (q f E y)⟩;have:(c.map λx=>kV x.1)=(c.map (·.1)).map kV:=by rw[zct];rfl
 rw[this,t,zct];rfl⟩
theorem Jz:ua X (.builtin "len") (Nv X.w):=⟨mC zm λl H Q h=>by
 obtain⟨w,u,S,x,ok,rep,⟨n,c,rfl,z,t,q⟩,bk⟩:=h;obtain⟨v,rfl,g⟩:=eF rep;obtain⟨a,j,bs,rfl,i,s,f⟩:=yN ok g z;have e:((c.map py).zip bs).length=c.length:=by rw[zbU,zbK];lia
 refine⟨a,j,_,rfl,i,by lia,?_⟩;rw[e];exact bk.dat .refl ok .int q⟩
theorem Mh{j:Nat}(u:aQ j X.A):kX X (yan .In) (KO X.w false):=⟨m2 (Jq u) λx y H Q h=>by
 obtain⟨w,d,e,S,U,ok,l,i,⟨n,f,rfl,z,g,F,q⟩,bk⟩:=h;obtain⟨a,I,bs,rfl,t,s,c⟩:=yN ok i z;obtain⟨b,rfl,v⟩:=dP ok l g;obtain⟨L,O,P,G⟩:=cS c;refine⟨a,I,b,_,py d,rfl,rfl,t,cD ok s F,g.2.1,g.2.2.1,v,bk.dat .refl ok .bl ?_⟩;have:(((f.map py).zip bs).any λx=>decide (x.1=py d))=gb f d:=by
  have E:(((f.map py).zip bs).any λx=>decide (x.1=py d))=((((f.map py).zip bs).map (·.1)).any λz=>decide (z=py d)):=by rw[zcs];rfl
  rw[E,G,zcs];rfl
 rw[this];exact q⟩
end
end M
namespace L2
open PySem PySem.Spec PyProof.Rows M6
def IV(W:yak):List V->Hp->VK->Prop:=λe H Q=>∃(a f:Addr)(c:List (yam×Addr)),e=[.ref a]/\H a=some (.ext (gh W f c))/\c.length<=1000/\∀p,H p=none->Q (.ref p) (upd H p (.lst (c.map λk=>V.ref k.2)))
section
variable {X:Cx}{pins:List (Addr×Obj)}{σ:St}{H:Hp}{s:yah}{A:yal}{E:yai->yah->Prop}
theorem JD{a:Addr}{c:List (yam×Addr)}(I:Inv X pins σ H s)(e:H a=some (.ext (gh X.w a c)))(n:gn X.K H c):(a==yas)=false/\Heap.DictOfH (aD X.prog X.w) s.heap a (c.map λx=>(x.1,x.2,Value.bool true)):=by
 obtain⟨⟨z,o,q,t,l,j,hd,g,m⟩,_,_⟩:=(show aJ X.prog X.w H s.heap a (.ext (gh X.w a c)) from I.hok a _ e)
 refine⟨z,o,q,t,l,j,hd,?_,λx f=>?_,?_⟩
 ·rw[g,zct];rfl
 ·obtain⟨y,i,rfl⟩:=zcu.mp f;obtain⟨k1,k2,h⟩:=n y i;exact I.key k1 k2 h
 ·rw[zct];exact m
end
section
variable {X:Cx}{o i value k v:Expr}{td ty tv tk:TE}{pos pos':Pos}
theorem vj{k:Nat}(E:aQ k X.A):bW X (.type "list") (IV X.w):=by
 intro t s P H S U Q I r h;obtain⟨a,O,f,rfl,e,Y,q⟩:=h;obtain⟨u,rfl,ru⟩:=vals1 r;cases ru;have x:=(show aJ X.prog X.w H s.heap a (.ext (gh X.w O f)) from I.hok a _ e)
 obtain rfl:=fc x;obtain⟨⟨z,o,n,ep,F,C,hd,m,Z⟩,_,_⟩:=x;have y:n.toList.map (·.key)=f.map λk=>Value.ref k.2:=by rw[m,zct];rfl
 have G:n.size=f.length:=by have:=congrArg zcG y;simpa using this
 refine W.kdl_call (HR z) E.hd ⟨o,F,C,hd⟩ (by rw[G,yaf];lia) λh' tk l c kp g j=>?_;have L:l.toList=n.toList.map (·.key):=sA j;refine⟨.ref s.heap.objs.size,_,I.laid (a:=s.heap.objs.size) (t':=tk) (o:=.lst (f.map λk=>V.ref k.2)) kp (zcH _) ⟨by rw[zbK,yaf];lia,l.toList,c,by rw[L,y];exact dF (λk=>k.2) f,by rw[Array.toArray_toList];exact g⟩,rfl,q _ (I.hok.fresh (zcH _))⟩
theorem yF{k:Nat}(l:aQ k X.A):fG X (yan .NotIn) (LX X.K X.w true):=by
 intro f s G H y x v u Q I g j h;obtain⟨a,F,b,c,d,rfl,rfl,e,m,C,t,n,q⟩:=h;obtain rfl:u=Value.ref a:=j;obtain rfl:v=Value.ref b:=g;obtain rfl:=fc (show aJ X.prog X.w H s.heap a (.ext (gh X.w F c)) from I.hok a _ e);obtain⟨z,E⟩:=JD I e m;have L:=l.units;refine wpAny_notIn_heap (knd:=aD X.prog X.w) (show X.A.units+1+10<cLine by lia) (I.key C t n) z E ?_;rw[ie d c];exact⟨.bl (!(c.any λx=>decide (x.1=d))),H,I.tok _,rfl,by simpa using q⟩
end
end L2
namespace M
open PySem PySem.Spec PyProof.Rows L2 M6
section
variable {K:yaI}
def KJ(W:yak):AN:=λc S Q=>∃n a,c=[.loc n]/\S[n]? =some (some (nO W a))/\a.length<=1000/\Q (.new (.lst a)) S
end
section
variable {X:Cx}{o i value k v a b:Expr}{p p2 pos pos' pos2:Pos}
theorem EY{j:Nat}(s:aQ j X.A):ua X (.type "list") (KJ X.w):=⟨mC (vj s) λx H Q h=>by
 obtain⟨w,C,S,E,ok,rep,⟨n,g,rfl,z,y,q⟩,bk⟩:=h;obtain⟨v,rfl,f⟩:=eF rep;obtain⟨a,u,bs,rfl,m,l,c⟩:=yN ok f z;obtain⟨_,_,t,_⟩:=cS c;refine⟨a,u,_,rfl,m,by rw[zbU,zbK];lia,λp e=>?_⟩;rw[t];exact bk (.new (.lst g)) S _ w _ .refl (ok.alloc e) (ok.fresh e ⟨_,rfl,l⟩) q⟩
theorem BQ{j:Nat}(u:aQ j X.A):kX X (yan .NotIn) (KO X.w true):=⟨m2 (yF u) λx y H Q h=>by
 obtain⟨w,d,e,S,U,ok,m,l,⟨n,f,rfl,z,g,F,q⟩,bk⟩:=h;obtain⟨a,I,bs,rfl,t,s,c⟩:=yN ok l z;obtain⟨b,rfl,C⟩:=dP ok m g;obtain⟨L,O,P,G⟩:=cS c;refine⟨a,I,b,_,py d,rfl,rfl,t,cD ok s F,g.2.1,g.2.2.1,C,bk.dat .refl ok .bl ?_⟩;have:(((f.map py).zip bs).any λx=>decide (x.1=py d))=gb f d:=by
  have E:(((f.map py).zip bs).any λx=>decide (x.1=py d))=((((f.map py).zip bs).map (·.1)).any λz=>decide (z=py d)):=by rw[zcs];rfl
  rw[E,G,zcs];rfl
 rw[this];exact q⟩
end
end M
namespace M
open PySem PySem.Spec PyProof.Rows L2
def NU(S:aA)(d:D)(ss:List Int):Prop:=(bz S d=.tup (ss.map D.int)∨bz S d=.lst (ss.map D.int))/\ss.length<4000
section
variable {K:yaI}
theorem MR{w:Wd}{H:Hp}{S:aA}{m:Nat}{ks:List Key}{ds:List D}(k:Ok K w H S)(e:S[m]? =some (some (.dct ks ds))):∃i,w.le i/\Ok K i H (S.set m none)/\∀v,Rep K w (.loc m) v->Rep K i (.dct ks ds) v:=by
 obtain⟨a,u,C,P,O,c,rfl,L,I⟩:=k.live m _ e;have le:w.le ⟨upd w.B a (.dK c),w.r⟩:=⟨al P,λ_ _ e=>e⟩
 have at_:∀n o,(S.set m none)[n]? =some (some o)->n≠m/\S[n]? =some (some o):=λn o z=>by
  by_cases q:m=n
  ·subst q;rw[zbc] at z;simp at z
  ·rw[zaB q] at z;exact⟨λy=>q y.symm,z⟩
 refine⟨⟨upd w.B a (.dK c),w.r⟩,le,⟨λb o z=>?_,λn o z=>?_,λn j o s F E z=>?_,λn g=>k.top n (by rw[zbT] at g;exact g)⟩,λv t=>?_⟩
 ·by_cases x:b=a
  ·subst x;have z:upd w.B b (.dK c) b=some o:=z;rw[bx] at z;rw[O];exact z
  ·have z:upd w.B a (.dK c) b=some o:=z;rw[aN x] at z;exact k.base b o z
 ·obtain⟨g,z⟩:=at_ n o z;obtain⟨h,G,f,W,U,Q⟩:=k.live n o z;have l:h≠a:=λy=>g (k.inj n m _ _ z e (by rw[f,C,y]));exact⟨h,G,f,by show upd w.B a _ h=none;rw[aN l];exact W,U,Q.le le⟩
 ·exact k.inj n j o s (at_ n o F).2 (at_ j s E).2 z
 ·simp only[Rep] at t⊢;obtain⟨h,f,rfl⟩:=t;rw[C] at f;cases f;exact⟨a,c,rfl,bx,L,I.le le⟩
theorem wH{w c:Wd}{m:Nat}{e:D}(le:w.le c)(f:∀v,Rep K w (.loc m) v->Rep K c e v):∀{es:List D}{a:List V},ak K w es a->ak K c (es.map (sb m e)) a
 |[],a,h=>by simp only[ak] at h;subst h;exact .nil
 |d::es,a,h=>by
  simp only[ak] at h;obtain⟨x,r,rfl,i,j⟩:=h;refine .cons ?_ (wH le f j);cases d with
  |loc n=>
   show Rep K c (if n=m then _ else _) x;by_cases g:n=m
   ·rw[yIp g];subst g;exact f x i
   ·rw[yIn g];exact i.le le
  |_=>exact i.le le
def C3(a:AE):AE:=λh S Q=>a h S λr g=>∃m c f e,r=.dat (.tup e)/\g[m]? =some (some (.dct c f))/\Q (.dat (.tup (e.map (sb m (.dct c f))))) (g.set m none)
theorem Iv{a:AE}:∀g H Q,aY K (C3 a) g H Q->aY K a g H Q:=by
 rintro g H Q ⟨w,l,S,L,ok,env,q,bk⟩;refine⟨w,l,S,_,ok,env,q,λr I v o O j i c ⟨m,F,G,z,C,x,s⟩=>?_⟩;subst C;have c:Rep K o (.tup z) v:=c;simp only[Rep] at c;obtain⟨t,n,rfl,y,u⟩:=c;obtain⟨E,e,h,f⟩:=MR i x;refine bk.dat (j.trans e) h ?_ s;simp only[Rep];exact⟨t,n,rfl,ef.same e.b y,wH e f u⟩
end
theorem OY{X:Cx}{e:Expr}{t:AE}(h:GE X e t):GE X e (C3 t):=⟨mE h.p Iv⟩
end M
namespace L2
open PySem PySem.Spec PyProof.Rows
noncomputable def Pp(K:yaI)(a:Addr)(n:Nat):It:=
 ⟨λi H=>i<n/\∃c x,cV K H a c/\c[n - 1 - i]? =some x,λi H x e=>e=H/\∀c,cV K H a c->c[n - 1 - i]? =some x,λi _=>i=n⟩
theorem z4{P:yaj}{w:yak}{K:yaI}{tg:Expr}(a it:Addr)(n:Nat):Turn P w K tg (Pp K a n) [it] it (λi h=>h.IsRevIter it a ((n:Int) - 1 - (i:Int))) where
 mem:=by simp
 obj:=λi h f b l=>by
  have e:b=it:=by simpa using l
  subst e;obtain⟨o,e,c,d⟩:=f;exact⟨o,e,λv z=>by rw[d] at z;cases z⟩
 keep:=λi h q f k=>f.at λo e=>k it (by simp) o e
 item:=by
  intro X C hw F Z i g s U H E I m f y;subst C hw F;obtain⟨hi,xs,x,Y,W⟩:=y;obtain⟨its,rv,p,hz⟩:=I.list Y;obtain⟨u,hu,ru⟩:=rv.get W;obtain⟨S,Q,f2,O,L,G⟩:=m it (by simp);have t:s.heap.IsRevIter it a ((n - 1 - i:Nat):Int):=by rw[show((n - 1 - i:Nat):Int)=(n:Int) - 1 - (i:Int) by lia];exact f
  refine wpAny_pyNext_rev_item t p.isList (x:=u) (by simpa using hu) λq j sb=>?_;have I1:Inv X g U H {s with heap:=q}:=I.turned (t':=s.toks) (λb o l e=>(sb.2 b l).trans e) S Q O L G;rw[show((n - 1 - i:Nat):Int) - 1=(n:Int) - 1 - ((i+1:Nat):Int) by lia] at j;obtain⟨o,e,c,d⟩:=id j;exact⟨u,rfl,pP (s:={s with heap:=q}) e c d (by decide) ⟨x,H,I1,ru,⟨rfl,λys hy=>by rw[I.sj hy Y];exact W⟩,j,λb l=>(m b l).1⟩⟩
 done:=by
  intro X C hw F Z i g s U H E I m f y;subst C hw F;obtain rfl:i=n:=y;obtain⟨S,Q,f2,O,L,G⟩:=m it (by simp);rw[show(i:Int) - 1 - (i:Int)=-1 by lia] at f;exact wpAny_pyNext_rev_end (I.ok.hd Z) f λq eb=>⟨rfl,I.turned (t':=s.toks) (λb o l e=>eb b o l e) S Q O L G⟩
 self:=λ_ _ _ _ _ f h=>wpAny_pyIter_revIter f h
theorem qk{X:Cx}{C e:Expr}{v:TE}{p t:Pos}(P:Gl X "reversed")(O:X.mg "reversed"=none)(Q:PE X e v)(y:notStar e=true:=by rfl):
  PI X C (.Call (.Name "reversed" p) [e] [] t) (λn H R=>v n H λx m=>∃a f,x=.ref a/\cV X.K m a f/\R (Pp X.K a f.length) m):=by
 intro i s n H R I h;refine wpAny_Call_Name_kw (iM I P O boot_reversed ?_ (by decide+kernel) (by decide+kernel));refine PyProof.Rows.callWith_type1 (E:=X.xe) ?_ (bA [] X.env y) rfl;rw[bA [] X.env y];refine zaW (b6 (Q i s n H _ I h) λu g ⟨x,m,l,F,a,f,ex,L,q⟩=>?_);subst ex;obtain rfl:u=Value.ref a:=F;refine zbp ?_;obtain⟨c,G,pl,U⟩:=l.list L;have z:=G.length;refine call_reversed_list pl.isList ?_;have j:Heap.IsRevIter (g.heap.push (revObj a ((c.toArray.size:Int) - 1))) g.heap.objs.size a ((f.length:Int) - 1 - ((0:Nat):Int)):=by
  refine⟨_,zaJ _ rfl,rfl,?_⟩;have:c.toArray.size=f.length:=by simp;lia
  rw[this];simp[revObj]
 refine wpAny_pyIter_revIter (s:={g with heap:=g.heap.push (revObj a ((c.toArray.size:Int) - 1))}) j ?_;refine⟨_,_,_,_,m,rfl,l.kept (t':=g.toks) λb o e=>zaq _ e,z4 a g.heap.objs.size f.length,j,λb S=>?_,q⟩;rw[zaO.mp S];exact l.sD (zcH _) (l.hok.fresh (zcH _))
end L2
namespace M
open PySem PySem.Spec PyProof.Rows L2
def Cc(a:AE):AI:=λe S Q=>a e S λr f=>∃c,r.d=.lst c/\Q c.reverse (λ_=>True) f
theorem Bm{α:Type}{es:List α}{i:Nat}{d:α}(e:es.reverse[i]? =some d):i<es.length/\es[es.length - 1 - i]? =some d:=by
 have h:i<es.length:=by
  have:=(zae.mp e).1;simpa using this
 rw[List.getElem?_reverse h] at e;exact⟨h,e⟩
theorem El{K:yaI}{a:AE}:∀l H R,ve K (Cc a) l H R->aY K a l H λx j=>∃a f,x=.ref a/\cV K j a f/\R (Pp K a f.length) j:=by
 rintro l H R ⟨w,E,S,Q,ok,env,q,bk⟩;refine⟨w,E,S,_,ok,env,q,.go λO L v1 F j o h c ⟨P,hd,I⟩=>?_⟩;rw[hd] at c;simp only[Rep] at c;obtain⟨p,f,rfl,t,s⟩:=c;have z:=s.length;refine⟨p,f,rfl,cV.of (h.base _ _ t),bk _ _ L _ F j o h ⟨λi H S m d le ok C e=>?_,λi H S m d v U le ok C e y=>?_,λi H S m le ok C e=>?_⟩ I⟩
 ·obtain⟨k1,k2⟩:=Bm e;obtain⟨u,n,_⟩:=s.get k2;exact⟨by lia,f,u,cV.of ((le.b.trans ok.base) _ _ t),by rw[z];exact n⟩
 ·obtain⟨k1,k2⟩:=Bm e;obtain⟨u,n,G⟩:=s.get k2;obtain⟨rfl,g⟩:=y;have g:=g f (cV.of ((le.b.trans ok.base) _ _ t));rw[z,n] at g;cases g;exact⟨m,.refl,ok,G.le le⟩
 ·show i=f.length;rw[e,List.length_reverse];lia
theorem qk{X:Cx}{f e:Expr}{c:AE}{p a:Pos}(i:Gl X "reversed")(h:X.mg "reversed"=none)(j:GE X e c)(g:notStar e=true:=by rfl):
  GI X f (.Call (.Name "reversed" p) [e] [] a) (Cc c):=⟨mI (L2.qk i h j.p g) El⟩
end M
namespace L2
open PySem PySem.Spec PyProof.Rows M6
def Rw(a:Addr)(c:Heap->Prop)(es:Array yav)(ep:Nat):Prop:=∀P w H h,aJ P w H h a (.ext c)->fO h a es ep
noncomputable def Pu(a:Addr)(es:Array yav)(ep:Nat)(e:List V):It:=
 ⟨λi H=>i<es.size/\∃c,H a=some (.ext c)/\Rw a c es ep,λi H x f=>f=H/\e[i]? =some x,λi H=>i=es.size/\∃c,H a=some (.ext c)/\Rw a c es ep⟩
theorem yt{P:yaj}{w:yak}{K:yaI}{tg:Expr}(a it:Addr){es:Array yav}{ep:Nat}{q:List V}(hV:Vals q (es.toList.map (·.key))):Turn P w K tg (Pu a es ep q) [it] it (λi h=>h.IsKeyIter it a i es.size ep) where
 mem:=by simp
 obj:=λi h f b l=>by
  have e:b=it:=by simpa using l
  subst e;obtain⟨o,e,c,d⟩:=f;exact⟨o,e,λv z=>by rw[d] at z;cases z⟩
 keep:=λi h y f k=>f.at λo e=>k it (by simp) o e
 item:=by
  intro X L hw O hc i g s σ H E I t f G;subst L hw O;obtain⟨hi,C,Q,j⟩:=G;have S:fO s.heap a es ep:=j _ _ _ _ (show aJ X.prog X.w H s.heap a (.ext C) from I.hok a _ Q);obtain⟨f0,Z,f2,Y,W,U⟩:=t it (by simp);have hx:es[i]? =some es[i]:=zai hi;obtain⟨x,F,rx⟩:∃x,q[i]? =some x/\RelV x es[i].key:=by
   have hl:=hV.length;have n:i<q.length:=by rw[hl];simpa using hi
   obtain⟨u,hu,ru⟩:=hV.get (zak n);have:u=es[i].key:=by
    rw[zaZ,zax,hx] at hu;exact(zcJ.inj hu).symm
   subst this;exact⟨_,zak n,ru⟩
  refine nextK f S hx λy m sb=>?_;have I1:Inv X g σ H {s with heap:=y}:=I.turned (t':=s.toks) (λb o l e=>(sb.2 b l).trans e) f0 Z Y W U;obtain⟨o,e,c,d⟩:=id m;exact⟨_,rfl,pP (s:={s with heap:=y}) e c d (by decide) ⟨x,H,I1,rx,⟨rfl,F⟩,m,λb l=>(t b l).1⟩⟩
 done:=by
  intro X L hw O hc i g s σ H E I t f G;subst L hw O;obtain⟨rfl,C,Q,j⟩:=G;have S:fO s.heap a es ep:=j _ _ _ _ (show aJ X.prog X.w H s.heap a (.ext C) from I.hok a _ Q);obtain⟨f0,Z,f2,Y,W,U⟩:=t it (by simp);exact MV (I.ok.hd hc) f S λy eb=>⟨rfl,I.turned (t':=s.toks) (λb o l e=>eb b o l e) f0 Z Y W U⟩
 self:=λ_ _ _ _ _ f h=>wpAny_pyIter_keyiter f h
section
variable {X:Cx}{tg:Expr}
theorem Fx{c:List (Addr×Obj)}{h:St}{H:Hp}{s:yah}{R:It->Hp->Prop}{a:Addr}{es:Array yav}{ep:Nat}{i:List V}{f:Heap->Prop}(I:Inv X c h H s)(n:H a=some (.ext f))(g:Rw a f es ep)(j:(a==yas)=false)(m:Vals i (es.toList.map (·.key)))(q:R (Pu a es ep i) H):
  yar (model X.prog X.w) X.A (pyIter (.ref a)) (Pk X c h tg R) X.xe s:=by
 have t:fO s.heap a es ep:=g _ _ _ _ (show aJ X.prog X.w H s.heap a (.ext f) from I.hok a _ n);refine G5 j t ?_;refine⟨_,_,_,_,H,rfl,I.kept (t':=s.toks) λb o e=>zaq _ e,yt a s.heap.objs.size m,⟨_,zaJ _ rfl,rfl,rfl⟩,λb l=>?_,q⟩;rw[zaO.mp l];exact I.sD (zcH _) (I.hok.fresh (zcH _))
theorem Inv.as{c:List (Addr×Obj)}{f:St}{H:Hp}{s:yah}{a:Addr}{ob:HO}(I:Inv X c f H s)(g:K9 (H a))(h:∃q,s.heap.get? a=some q)(new:aJ X.prog X.w (upd H a ob) s.heap a ob):Inv X c f (upd H a ob) s:=
 I.write (x:=a) (e:=a) (h':=s.heap) (t':=s.toks) g (.inl rfl) (λ_ _ _ z=>z) h new
end
def jM(W:yak)(po:Option Obj)(a:Addr)(c:List (yam×Addr×Addr)):Heap->Prop:=λh=>(a==yas)=false/\(∀o,po=some o->h.get? a=some o)/\∃o e f,h.get? a=some o/\o.ExactDict/\o.data=Data.dict e f/\
 e.toList=c.map (λx=>({hash:=br W x.1,key:=.ref x.2.1,val:=.ref x.2.2}:yav))/\(c.map (·.1)).Nodup
theorem jM.at{W:yak}{po:Option Obj}{a:Addr}{c:List (yam×Addr×Addr)}{h h':Heap}(x:jM W po a c h)(e:∀o,h.get? a=some o->h'.get? a=some o):jM W po a c h':=by
 obtain⟨z,p,o,g,i,f,r⟩:=x;exact⟨z,λo q=>e o (p o q),o,g,i,e o f,r⟩
theorem jM.ok{P:yaj}{w W:yak}{po:Option Obj}{H:Hp}{h:Heap}{a:Addr}{c:List (yam×Addr×Addr)}(x:jM W po a c h):aJ P w H h a (.ext (jM W po a c)):=by
 obtain⟨z,p,o,i,j,f,r⟩:=id x;exact⟨x,⟨o,f⟩,λf g y e=>y.at e⟩
theorem vY{P:yaj}{w W:yak}{po:Option Obj}{H:Hp}{h:Heap}{a b:Addr}{g:List (yam×Addr×Addr)}(x:aJ P w H h a (.ext (jM W po b g))):b=a:=by
 obtain⟨y,⟨o,e⟩,i⟩:=x;apply Classical.byContradiction;intro c;obtain⟨z,p,t,F,G,l,E,C,r⟩:=id y;have n:(h.update b λ_=>{cls:=.none}).get? a=some o:=(zar _ _ c).trans e;have m:(h.update b λ_=>{cls:=.none}).get? b=some {cls:=.none}:=zay (λ_=>{cls:=.none}) l rfl;obtain⟨_,_,u,q,s,k1,k2,j,_⟩:=i h (h.update b λ_=>{cls:=.none}) y λv f=>by rw[e] at f;cases f;exact n
 rw[m] at k1;cases k1;cases j
noncomputable def yz(a:List (yam×Addr×Addr))(d:yam)(b c:Addr):List (yam×Addr×Addr):=if(a.any λx=>decide (x.1=d))=true then a.map (λx=>if x.1=d then(x.1,x.2.1,c) else x) else a++[(d,b,c)]
noncomputable def gk(a:List (yam×Addr×Addr))(d:yam):Option Addr:=(a.find? λx=>decide (x.1=d)).map (·.2.2)
theorem lH(a:List (yam×Addr×Addr))(d:yam):(atKey (a.map λx=>(x.1,x.2.1,Value.ref x.2.2)) d).map (·.2)=(gk a d).map Value.ref/\(atKey (a.map λx=>(x.1,x.2.1,Value.ref x.2.2)) d).isSome=(a.any λx=>decide (x.1=d)):=by
 unfold atKey gk
 induction a with
 |nil=>exact⟨rfl,rfl⟩
 |cons x a ih=>
  rw[zch,zbO,zbO,zci];by_cases h:x.1=d
  ·simp[h]
  ·simp only[h,decide_false,zcn];exact ih
theorem rN(a:List (yam×Addr×Addr))(d:yam)(b c:Addr):storedH (a.map λx=>(x.1,x.2.1,Value.ref x.2.2)) d b (.ref c)=(yz a d b c).map λx=>(x.1,x.2.1,Value.ref x.2.2):=by
 unfold storedH yz;rw[(lH a d).2];by_cases h:(a.any λx=>decide (x.1=d))=true
 ·rw[yIp h,yIp h,zct,zct];refine zaF λx _=>?_;simp only[Function.comp,putAt];split<;>rfl
 ·rw[yIn h,yIn h,zbS];rfl
def yl(K:yaI)(H:Hp)(a:List (yam×Addr×Addr)):Prop:=∀x∈a,bF x.1=true/\x.1.depth<=6/\cu K H x.1 (.ref x.2.1)
section
variable {X:Cx}{pins:List (Addr×Obj)}{σ:St}{H:Hp}{s:yah}{A:yal}{E:yai->yah->Prop}
theorem zW{a:Addr}{po:Option Obj}{c:List (yam×Addr×Addr)}(I:Inv X pins σ H s)(e:H a=some (.ext (jM X.w po a c)))(n:yl X.K H c):(a==yas)=false/\Heap.DictOfH (aD X.prog X.w) s.heap a (c.map λx=>(x.1,x.2.1,Value.ref x.2.2)):=by
 obtain⟨⟨z,_,o,q,t,l,j,hd,g,m⟩,_,_⟩:=(show aJ X.prog X.w H s.heap a (.ext (jM X.w po a c)) from I.hok a _ e)
 refine⟨z,o,q,t,l,j,hd,?_,λx f=>?_,?_⟩
 ·rw[g,zct];rfl
 ·obtain⟨y,i,rfl⟩:=zcu.mp f;obtain⟨k1,k2,h⟩:=n y i;exact I.key k1 k2 h
 ·rw[zct];exact m
end
def Gj(W:yak):TE:=λ_ H Q=>∀p,H p=none->Q (.ref p) (upd H p (.ext (jM W none p [])))
def Ab(K:yaI)(W:yak)(l ty j:TE):TE:=λe H Q=>l e H λx i=>∃(a m:Addr)(po:Option Obj)(f:List (yam×Addr×Addr)),x=.ref a/\i a=some (.ext (jM W po m f))/\ty e i λy n=>j e n λz c=>∃(h b:Addr)(po:Option Obj)(g:List (yam×Addr×Addr))(d:yam),y=.ref b/\c a=some (.ext (jM W po h g))/\yl K c g/\bF d=true/\d.depth<=6/\cu K c d (.ref b)/\Q (((gk g d).map V.ref).getD z) c
section
variable {X:Cx}{o i e f value:Expr}{td ty tv tx te:TE}{pos pos' apos cpos:Pos}{tg:Expr}
theorem qm:PE X (.Dict [] [] pos) (Gj X.w):=λc s g H Q I h=>
 wpAny_Dict_empty ⟨.ref s.heap.objs.size,_,I.laid (a:=s.heap.objs.size) (o:=.ext (jM X.w none s.heap.objs.size [])) (t':=s.toks) (λ_ _ q=>zaq _ q) (zcH _) (jM.ok ⟨beq_eq_false_iff_ne.mpr (Ne.symm (zcv I.big)),(λo q=>by cases q),_,#[],0,zaJ _ rfl,⟨rfl,rfl,rfl⟩,rfl,rfl,List.nodup_nil⟩),rfl,h _ (I.hok.fresh (zcH _))⟩
theorem mJ(hu:X.A.units+20<cLine)(ho:PE X o td)(he:PE X e ty)(hf:PE X f tx)(m:M2 X o "get" apos e f cpos):PE X (.Call (.Attribute o "get" apos) [e,f] [] cpos) (Ab X.K X.w td ty tx):=by
 intro g s v H Q I h;refine wpAny_Call_method m.base m.few m.line PySem.F.plainAttrs_dict PySem.F.slot_dict_get PySem.F.type_dict_get (b6 (ho g s v H _ I h) λu E ⟨x,O,L,rx,a,j,po,l,ex,Y,q1⟩=>?_);subst ex;obtain rfl:u=Value.ref a:=rx;obtain rfl:=vY (show aJ X.prog X.w O E.heap a (.ext (jM X.w po j l)) from L.hok a _ Y);obtain⟨⟨_,_,P,es,ep,U,S,h3,_⟩,_,_⟩:=(show aJ X.prog X.w O E.heap j (.ext (jM X.w po j l)) from L.hok j _ Y)
 refine⟨⟨P,U,S.1⟩,λb q=>by cases q;exact⟨P,U,S.2.1⟩,?_⟩;rw[m.trees];refine zas rfl (Calls.evalArgs_plain (zaW (b6 (he g E v O _ L q1) λiv s2 ⟨y,H2,I2,ry,q2⟩=>zaW (b6 (hf g s2 v H2 _ I2 q2) λfv s3 ⟨z,H3,t,rz,n,b,G,C,d,ey,W,k1,k2,k3,k4,q3⟩=>zbp ?_))));subst ey;obtain rfl:iv=Value.ref b:=ry;obtain rfl:=vY (show aJ X.prog X.w H3 s3.heap j (.ext (jM X.w G n C)) from t.hok j _ W);obtain⟨lo,Z⟩:=zW t W k1;refine call_meetsIn PySem.F.slot_dict_get Z.typeIs PySem.F.entry_dict_get (PySem.F.args_dict_get_3 _ _ _) (meetsH_dict_get_default (aD X.prog X.w) n b lo fv) ⟨show X.A.units+1+10<cLine by lia,d,_,t.key k2 k3 k4,Z,?_⟩;rw[(lH C d).1];refine⟨_,H3,t.tok _,?_,q3⟩;cases gk C d with
 |none=>exact rz
 |some c=>rfl
end
end L2
namespace M
open PySem PySem.Spec PyProof.Rows L2 M6
noncomputable def vO(W:yak)(po:Option Obj)(ks vs:List D):MO:=.zM (λa bs=>jM W po a ((ks.map py).zip ((bs.take ks.length).zip (bs.drop ks.length)))) (ks++vs)
noncomputable def o8(ks vs:List D)(k v:D):List D×List D:=if gb ks k=true then(ks,(ks.zip vs).map λp=>if py p.1=py k then v else p.2) else(ks++[k],vs++[v])
noncomputable def dg(ks vs:List D)(k:D):Option D:=((ks.zip vs).find? λp=>decide (py p.1=py k)).map (·.2)
section
variable {K:yaI}
theorem zX{w:Wd}{H:Hp}{S:aA}{n:Nat}{v:V}{W:yak}{po:Option Obj}{ks vs:List D}(ok:Ok K w H S)(r:Rep K w (.loc n) v)(z:S[n]? =some (some (vO W po ks vs)))(j:ks.length=vs.length):
  ∃(a e:Addr)(kb vb:List Addr),v=.ref a/\w.r n=some a/\H a=some (.ext (jM W po e ((ks.map py).zip (kb.zip vb))))/\ak K w ks (kb.map V.ref)/\ak K w vs (vb.map V.ref)/\kb.length=ks.length/\vb.length=vs.length:=by
 simp only[Rep] at r;obtain⟨a,h,rfl⟩:=r;obtain⟨m,u,k1,k2,i,e,bs,rfl,c⟩:=ok.live n _ z;rw[h] at k1;cases k1;have l:bs.length=ks.length+vs.length:=by have:=c.length;simpa using this
 have g:=c.take ks.length;have f:=c.drop ks.length;rw[List.take_left' rfl,<-zck] at g;rw[List.drop_left' rfl,<-zcl] at f;exact⟨a,e,_,_,rfl,h,i,g,f,by rw[zbr];lia,by rw[zbs];lia⟩
theorem zU{w:Wd}{W:yak}{po:Option Obj}{ks vs:List D}{kb vb:List Addr}(a:Addr)(h1:ak K w ks (kb.map V.ref))(e:ak K w vs (vb.map V.ref)):jw K w (vO W po ks vs) (.ext (jM W po a ((ks.map py).zip (kb.zip vb)))):=by
 have c:kb.length=ks.length:=by have:=h1.length;simpa using this
 refine⟨a,kb++vb,?_,by rw[zbS];exact h1.append e⟩;show HO.ext _=HO.ext (jM W po a ((ks.map py).zip (((kb++vb).take ks.length).zip ((kb++vb).drop ks.length))));rw[List.take_left' c,List.drop_left' c]
theorem zV{w:Wd}{H:Hp}{S:aA}(ok:Ok K w H S):∀{ks:List D}{kb vb:List Addr},ak K w ks (kb.map V.ref)->(∀k∈ks,bS k)->yl K H ((ks.map py).zip (kb.zip vb)):=λ{ks kb vb} h g x a=>by
 have e:(x.1,x.2.1)∈(ks.map py).zip kb:=by
  clear h g
  induction ks generalizing kb vb with
  |nil=>simp at a
  |cons k ks ih=>
   cases kb with
   |nil=>simp at a
   |cons b kb=>
    cases vb with
    |nil=>simp at a
    |cons c vb=>
     rw[zch,zaN,zaN] at a;rw[zch,zaN];rcases zcg.mp a with rfl|a
     ·exact zaK
     ·exact zaz _ (ih a)
 exact cD ok h g _ e
theorem La{w:Wd}{k v:D}{b c:Addr}(q:Rep K w k (.ref b))(o:Rep K w v (.ref c)):∀{ks vs:List D}{kb vb:List Addr},ak K w ks (kb.map V.ref)->ak K w vs (vb.map V.ref)->ks.length=vs.length->
  ∃g f:List Addr,yz ((ks.map py).zip (kb.zip vb)) (py k) b c=((o8 ks vs k v).1.map py).zip (g.zip f)/\ak K w (o8 ks vs k v).1 (g.map V.ref)/\ak K w (o8 ks vs k v).2 (f.map V.ref):=λ{ks vs kb vb} i h m=>by
 have n:kb.length=ks.length:=by have:=i.length;simpa using this
 have l:vb.length=vs.length:=by have:=h.length;simpa using this
 have j:(((ks.map py).zip (kb.zip vb)).any λx=>decide (x.1=py k))=gb ks k:=by
  have s:(((ks.map py).zip (kb.zip vb)).any λx=>decide (x.1=py k))=((((ks.map py).zip (kb.zip vb)).map (·.1)).any λz=>decide (z=py k)):=by rw[zcs];rfl
  rw[s,zbB (by rw[zbK,zbU];lia),zcs];rfl
 unfold yz o8;rw[j];by_cases a:gb ks k=true
 ·rw[yIp a,yIp a];refine⟨kb,((ks.map py).zip vb).map (λp=>if p.1=py k then c else p.2),?_,i,?_⟩
  ·clear i h j a
   induction ks generalizing vs kb vb with
   |nil=>rfl
   |cons x ks ih=>
    cases vs with
    |nil=>simp at m
    |cons y vs=>
     cases kb with
     |nil=>simp at n
     |cons b' kb=>
      cases vb with
      |nil=>simp at l
      |cons c' vb=>
       simp only[zch,zaN,zcN.injEq];refine⟨?_,ih (by simpa using m) (by simpa using n) (by simpa using l)⟩;split<;>simp_all
  ·clear i j a n
   induction ks generalizing vs vb with
   |nil=>exact .nil
   |cons x ks ih=>
    cases vs with
    |nil=>simp at m
    |cons y vs=>
     cases vb with
     |nil=>simp at l
     |cons c' vb=>
      simp only[zch,ak] at h;obtain⟨_,_,e,u,t⟩:=h;injection e with j e2;subst j;subst e2;simp only[zch,zaN];refine .cons ?_ (ih t (by simpa using m) (by simpa using l));split
      ·exact o
      ·exact u
 ·rw[yIn a,yIn a];refine⟨kb++[b],vb++[c],?_,?_,?_⟩
  ·rw[zbS,List.zip_append (by lia),List.zip_append (by rw[zbK,zbU];lia)];rfl
  ·rw[zbS];exact i.snoc q
  ·rw[zbS];exact h.snoc o
theorem v_get{w:Wd}{k:D}:∀{ks vs:List D}{kb vb:List Addr},ak K w ks (kb.map V.ref)->ak K w vs (vb.map V.ref)->ks.length=vs.length->
  (∀d,dg ks vs k=some d->∃c,gk ((ks.map py).zip (kb.zip vb)) (py k)=some c/\Rep K w d (.ref c))/\(dg ks vs k=none->gk ((ks.map py).zip (kb.zip vb)) (py k)=none)
 |[],vs,kb,vb,_,_,_=>⟨λd e=>by simp[dg] at e,λ_=>rfl⟩
 |x::ks,[],_,_,_,_,h=>by simp at h
 |x::ks,y::vs,[],vb,h,_,_=>by simp only[zcr,ak] at h;obtain⟨_,_,z,_⟩:=h;cases z
 |x::ks,y::vs,b::kb,[],_,h,_=>by simp only[zcr,ak] at h;obtain⟨_,_,z,_⟩:=h;cases z
 |x::ks,y::vs,b::kb,c::vb,h1,h2,hl=>by
  simp only[zch,ak] at h1 h2;obtain⟨_,_,e,i,g⟩:=h1;injection e with e1 e2;subst e1;subst e2;obtain⟨_,_,e,k1,k2⟩:=h2;injection e with e1 e2;subst e1;subst e2;have a:=v_get (k:=k) g k2 (by simpa using hl);unfold dg gk at a⊢;rw[zch,zaN,zaN,zaN,zbO,zbO];by_cases f:py x=py k
  ·simp only[f,decide_true];exact⟨λd e=>⟨c,rfl,by cases e;exact k1⟩,λe=>by cases e⟩
  ·simp only[f,decide_false];exact a
def CW(W:yak):AE:=λ_ S Q=>Q (.new (vO W none [] [])) S
theorem Ii{W:yak}:∀a H Q,aY K (CW W) a H Q->Gj W a H Q:=by
 rintro a H Q ⟨w,e,S,f,ok,env,q,bk⟩ p c;exact bk (.new (vO W none [] [])) S _ w _ .refl (ok.alloc c) (ok.fresh c (zU (kb:=[]) (vb:=[]) p .nil .nil)) q
def vF(W:yak)(a b c:AE):AE:=λh S Q=>a h S λs o=>∃n j f e,s.d=.loc n/\o[n]? =some (some (vO W j f e))/\f.length=e.length/\b h o λl t=>c h t λq m=>∃po g i,m[n]? =some (some (vO W po g i))/\g.length=i.length/\bS l.d/\(∀k∈g,bS k)/\Q (.dat ((dg g i l.d).getD q.d)) m
theorem Ej{W:yak}{a b c:AE}:∀o H Q,aY K (vF W a b c) o H Q->Ab K W (aY K a) (aY K b) (aY K c) o H Q:=by
 rintro o H Q ⟨w,s,S,Qa,ok,env,q,bk⟩;refine⟨w,s,S,_,ok,env,q,.go λr1 S1 v1 U H1 h l e ⟨n,u,ks0,X,L,O,y,q1⟩=>?_⟩;rw[L] at e;obtain⟨a,a',kb0,Z,rfl,h0,k3,_,_,_,_⟩:=zX l e O y;refine⟨a,a',u,_,rfl,k3,U,s,S1,_,l,env.le h,q1,.go λt S2 v2 P H2 g v j q2=>?_⟩;refine⟨P,s,S2,_,v,(env.le h).le g,q2,.go λr3 S3 v3 w3 H3 f dR i ⟨po,ks,Y,I,F,z,g2,q3⟩=>?_⟩;obtain⟨a1,C,kb,vb,ea,h0',x,G,h2,_,_⟩:=zX dR (e.le (g.trans f)) I F;cases ea;obtain⟨b,rfl,hb⟩:=dP dR (j.le f) z;refine⟨C,b,po,_,py t.d,rfl,x,zV dR G g2,z.2.1,z.2.2.1,hb,?_⟩;have E:=v_get (k:=t.d) G h2 F;cases m:dg ks Y t.d with
 |none=>
  rw[m] at q3;rw[E.2 m];exact bk.dat ((h.trans g).trans f) dR i q3
 |some d=>
  rw[m] at q3;obtain⟨c,e1,e2⟩:=E.1 d m;rw[e1];exact bk.dat ((h.trans g).trans f) dR e2 q3
end
section
variable {X:Cx}{o i e f value:Expr}{pos pos' apos cpos:Pos}{tg:Expr}
theorem qm:GE X (.Dict [] [] pos) (CW X.w):=⟨mE L2.qm Ii⟩
theorem mJ{j:Nat}(c:aQ j X.A){a tb tc:AE}(g:GE X o a)(l:GE X e tb)(h:GE X f tc)(m:M2 X o "get" apos e f cpos):GE X (.Call (.Attribute o "get" apos) [e,f] [] cpos) (vF X.w a tb tc):=⟨mE (L2.mJ (by have:=c.units;lia) g.p l.p h.p m) Ej⟩
end
end M
namespace M14
open PySem PySem.Spec PyProof.Rows M6 M8
abbrev E3:=yam×Addr×yai
noncomputable def oG(ps:List E3):List E3:=ps.foldl (λa p=>storedH a p.1 p.2.1 p.2.2) []
theorem qY(c:List E3)(k:yam)(a:Addr)(v:yai):(storedH c k a v).length<=c.length+1:=by
 unfold storedH;split
 ·rw[zbK];lia
 ·rw[zaL];exact zcH _
theorem zu(ps:List E3)(p:E3):oG (ps++[p])=storedH (oG ps) p.1 p.2.1 p.2.2:=by
 unfold oG;rw[List.foldl_append];rfl
theorem CN(ps:List E3):(oG ps).length<=ps.length:=by
 have:∀(l c:List E3),(l.foldl (λc p=>storedH c p.1 p.2.1 p.2.2) c).length<=c.length+l.length:=by
  intro l
  induction l with
  |nil=>intro c;simp
  |cons a r ih=>intro c;rw[zbQ,zbq];have:=ih (storedH c a.1 a.2.1 a.2.2);have:=qY c a.1 a.2.1 a.2.2;lia
 have:=this ps [];simpa[oG] using this
def n9(h:Heap)(v:yai)(p:E3):Prop:=∃t o n,v=.ref t/\h.get? t=some o/\o.cls=.type "tuple"/\o.data=.seq #[.ref p.2.1,p.2.2] n/\isKey h p.1 p.2.1
theorem n9.at{h h':Heap}{v:yai}{p:E3}(x:n9 h v p)(e:cG h h'):n9 h' v p:=by
 obtain⟨t,o,n,i,g,a,f,c⟩:=x;exact⟨t,o,n,i,e t o a g,a,f,kE e c⟩
section
variable {prog:yaj}{w:yak}{A:yal}{E:yai->yah->Prop}{s:yah}
theorem jm{h h':Heap}{d:Addr}{a:List E3}(x:Heap.DictOfH (aD prog w) h d a)(e:∀o,h.get? d=some o->h'.get? d=some o)(kp:cG h h'):Heap.DictOfH (aD prog w) h' d a:=by
 obtain⟨o,n,q,m,l,j,i,g,f⟩:=x;exact⟨o,n,q,e o m,l,j,i,λx c=>kE kp (g x c),f⟩
theorem yX{h h':Heap}{d:Addr}{a:List E3}(x:Heap.DictOfH (aD prog w) h d a)(f:Heap.SameBut d h h'):cG h h':=by
 obtain⟨o,m,n,j,i,l,_⟩:=x;refine cG.but j (λz=>?_) λc o g e=>(f.2 c g).trans e;rw[i.1] at z;injection z with z;exact absurd z (by decide)
theorem uX{I l d:Addr}{its:Array yai}{ps:List E3}{R:Result->yah->Prop}{St:Nat->Heap->Prop}(W:Walks prog w A.in1 I [I,l] [I] its.size (λi v=>its[i]? =some v) St)(H:∀i h,St i h->∀o,h.get? I=some o->o.cls≠ .type "tuple")(n:d≠I)(Z:d≠l)(F:its.size=ps.length)(hn:ps.length<=1000)(hu:A.units+15<cLine):
  ∀(k i:Nat)(s:yah),its.size - i=k->i<=its.size->St i s.heap->Heap.DictOfH (aD prog w) s.heap d (oG (ps.take i))->(∀(i:Nat)(v:yai)(p:E3),its[i]? =some v->ps[i]? =some p->n9 s.heap v p)->
   (∀(h':Heap)(tk:Nat),Heap.DictOfH (aD prog w) h' d (oG ps)->(∀b o,b≠d->b≠I->s.heap.get? b=some o->h'.get? b=some o)->R (.ok (.ret .none)) {s with heap:=h',toks:=tk})->
   codeAny (model prog w) A (.builtin "dict.update.loop" ⟨[.ref d,.ref I,rawInt i,.none],[]⟩) R s:=by
 intro k
 induction k with
 |zero=>
  intro i s hk hi a S hp hR;obtain rfl:i=its.size:=by lia
  refine codeAny_builtin g9 ?_;rw[Around.under_plainId cT _];show yar _ A.in1 (pyNext (.ref I) >>= _) _ _ s;refine yaa (W.done s _ _ a λh' tk g=>?_);rw[F,zbv] at S;have P:cG s.heap h':=λb o G e=>g b o (by
   intro z;simp only[zaO] at z;subst z;exact H _ _ a o e G) e
  refine yaa (yab ?_);exact yab (hR h' tk (jm S (λo e=>g d o (by simpa using n) e) P) λb o q c e=>g b o (by simpa using c) e)
 |succ k ih=>
  intro i s hk hi a S hp hR;have C:i<its.size:=by lia
  refine codeAny_builtin g9 ?_;rw[Around.under_plainId cT _];show yar _ A.in1 (pyNext (.ref I) >>= _) _ _ s;refine yaa (W.item i s _ _ C a λv h' tk hP u g=>?_);have x:ps[i]? =some ps[i]:=zak (by lia);have P:cG s.heap h':=λb o G e=>g b o (by
   intro z;simp only[zaO] at z;subst z;exact H i _ a o e G) e
  have y:∀(i:Nat)(v:yai)(p:E3),its[i]? =some v->ps[i]? =some p->n9 h' v p:=λj v p q c=>(hp j v p q c).at P;obtain⟨t,o,m,rfl,ho,G,hd,Y⟩:=y i v _ hP x;have L:Heap.DictOfH (aD prog w) h' d (oG (ps.take i)):=jm S (λo e=>g d o (by simpa using n) e) P;dsimp only;refine yaa (yad ?_);refine yaa (wpAny_tryCatch ?_);unfold Builtin.Dict.pairItems;refine yaa (wpAny_typeOf (T:="tuple") ⟨o,ho,G⟩ ?_);rw[yIp (by decide)];refine yaa (wpAny_seqItems ho hd (yab ?_));have c:=CN (ps.take i);rw[zbr] at c;refine yad (wpAny_dictSet_heap (knd:=aD prog w) (show A.units+1+10<cLine by lia) Y L (λf O hs=>?_) (by rw[yaf];lia));have e9:∀b o,b≠d->h'.get? b=some o->f.get? b=some o:=λb o Q e=>(hs.2 b Q).trans e;refine yab ⟨plainId_quiet cT _,?_⟩;rw[show((i:Int)+1)=((i+1:Nat):Int) by lia];refine ih (i+1) {s with heap:=f,toks:=_} (by lia) C (W.frame _ h' f u λb Q o e=>e9 b o ?_ e) ?_ (λj v p q c=>(y j v p q c).at (yX L hs)) λh3 U hD3 X=>?_
  ·simp only[zcg,zbA,or_false] at Q;rcases Q with rfl|rfl
   ·exact Ne.symm n
   ·exact Ne.symm Z
  ·rw[List.take_succ,x];show Heap.DictOfH (aD prog w) f d (oG (ps.take i++[ps[i]]));rw[zu];exact O
  ·exact hR h3 U hD3 λb o q c e=>X b o q c (e9 b o q (g b o (by simpa using c) e))
theorem vp{l:Addr}{its:Array yai}{ps:List E3}{Q:yai->yah->Prop}(U:A.handled=none)(hu:A.units+20<cLine){c:Nat}(S:s.heap.get? l=some {cls:=.type "list",data:=.seq its c})(t:its.size=ps.length)(X:∀(i:Nat)(v:yai)(p:E3),its[i]? =some v->ps[i]? =some p->n9 s.heap v p)(Z:ps.length<=1000)(h:∀(h':Heap)(tk:Nat),Heap.DictOfH (aD prog w) h' s.heap.objs.size (oG ps)->(∀b o,s.heap.get? b=some o->h'.get? b=some o)->Q (.ref s.heap.objs.size) {s with heap:=h',toks:=tk}):
  yar (model prog w) A (call (.type "dict") [.ref l]) Q E s:=by
 refine callType_codes PySem.F.kt_called_dict (PySem.F.kt_typeCall_dict_1 (.ref l)) PySem.F.entry_dict_init (kt_code_dict_new (.ref l) (Q₁:=λu f=>u=.ref s.heap.objs.size/\f={s with heap:=s.heap.push {cls:=.type "dict",data:=.dict #[]}}) ⟨rfl,rfl⟩) λobj f z=>?_;obtain⟨rfl,rfl⟩:=z;have g:Heap.DictOfH (aD prog w) (s.heap.push {cls:=Value.type "dict",data:=Data.dict #[]}) s.heap.objs.size []:=Heap.DictOfH.new s.heap;have j:(s.heap.push {cls:=Value.type "dict",data:=Data.dict #[]}).get? l=some {cls:=.type "list",data:=.seq its c}:=zaq _ S;have n:=Heap.DictOfH.typeIs (s:={s with heap:=s.heap.push {cls:=Value.type "dict",data:=Data.dict #[]}}) g;refine⟨n,PySem.F.args_dict_init_2 _ _,?_⟩;unfold Builtin.«dict.__init__»;refine yaa (yaa (wpAny_notOrdered_dict n (yab ?_)));show yar _ _ (Builtin.Dict.updateFrom "dict.__init__" s.heap.objs.size (.ref l) [] .none) _ _ _;unfold Builtin.Dict.updateFrom;refine yaa (wpAny_typeOf (T:="list") ⟨_,j,rfl⟩ ?_);rw[yIp (by decide)];refine yaa (pK j U λC W a=>?_);rw[yIp (by decide)];refine yaa (wpAny_rule ?_);have x:C.IsList l its:=⟨_,a _ _ j,rfl,c,rfl⟩
 refine yaa (wpAny_pyIter_list x ?_);have y:Heap.DictOfH (aD prog w) C s.heap.objs.size []:=jm g (λo e=>a _ _ e) λb o _ e=>a b o e;refine yab ⟨plainId_quiet cT _,?_⟩;have G:s.heap.objs.size<C.objs.size:=by obtain⟨o,_,_,Y,_⟩:=y;exact zcE Y
 have O:l<s.heap.objs.size:=zcE S;have m:∀b o,s.heap.get? b=some o->C.get? b=some o:=λb o e=>a b o (zaq _ e);refine uX (ps:=ps) (Walks.list (A:=A.in1.in1) U C.objs.size l (zcv (zcy O G)) its) (λi h z o e=>?_) (zcv G) (zcx O) t Z (show A.units+1+15<cLine by lia) its.size 0 _ rfl (zcI _) ?_ ?_ ?_ λh' tk L H=>⟨rfl,h h' tk L λb o e=>?_⟩
 ·obtain⟨o',q,I,_⟩:=z.1;rw[e] at q;cases q;rw[I];intro z;injection z with z;exact absurd z (by decide)
 ·exact⟨⟨_,zaJ _ rfl,rfl,rfl⟩,x.at λo e=>zaq _ e⟩
 ·exact jm y (λo e=>zaq _ e) λb o _ e=>zaq _ e
 ·exact λi v p h2 h3=>(X i v p h2 h3).at λb o _ e=>zaq _ (m b o e)
 ·have P:=zcE e;exact H b o (zcv P) (zcv (zcy P G)) (zaq _ (m b o e))
theorem D7{d a:Addr}{m:List E3}{k:yam}{c:yai}{Q:yai->yah->Prop}(P:A.units+20<cLine)(G:(d==yas)=false)(g:isKey s.heap k a)(C:s.heap.DictOfH (aD prog w) d m)(hsz:m.length<yag)(l:atKey m k=none->∀h' t,h'.DictOfH (aD prog w) d (storedH m k a c)->Heap.SameBut d s.heap h'->Q c {s with heap:=h',toks:=t})(i:∀p,atKey m k=some p->∀t,Q p.2 {s with toks:=t}):
  yar (model prog w) A (call (.builtin "dict.setdefault") [.ref d,.ref a,c]) Q E s:=by
 refine wpAny_call_entry PySem.F.slot_dict_setdefault C.typeIs PySem.F.entry_dict_setdefault ?_ (PySem.F.args_dict_setdefault_3 _ _ _);unfold Builtin.«dict.setdefault»;refine yaa ?_;unfold Builtin.Dict.keyAndDefault;refine yaa (wpAny_notOrdered_dict C.typeIs ?_);show yar _ _ (pure (d,Value.ref a,some c)) _ _ s;refine yab ?_;show yar _ _ (if(d==yas)=true then _ else(dictSetDefault d (.ref a) c >>= _)) _ _ s;rw[yIn (by rw[G];exact zaS)];refine yaa ?_;obtain⟨o,S,O,n,L,hd,v,u,z⟩:=id C;unfold dictSetDefault
 try with_reducible refine yad ?_
 refine yaa ((aD prog w).pyHash (show A.units+1+10<cLine by lia) g (yaa (wpAny_dictFind_heap (knd:=aD prog w) (s:={s with toks:=s.toks+(aD prog w).draws k}) (show A.units+1+10<cLine by lia) g n hd v u z ?_ ?_)))
 ·intro f;have q:k ∉ m.map (·.1):=not_mem_keys_of_get f;refine yaa (wpAny_rule (yaa (wpAny_updateDictKeys (hz:=by have e:=size_of_entries v;lia) (s:={s with toks:=s.toks+(aD prog w).draws k}) n hd (yab (yab ⟨c,rfl,l (atKey_none_of_get f) _ _ ⟨_,_,O+1,zay _ n (Obj.isFreed_of_dict (Obj.data_mapDictKeys hd _)),L.mapDictKeys _,Obj.data_mapDictKeys hd _,?_,?_,?_⟩ (Heap.SameBut.update ..)⟩)))))
  ·rw[storedH_new (atKey_none_of_get f)];simp[v,entryOfKey]
  ·rw[storedH_new (atKey_none_of_get f)];intro x h;rcases zbJ.mp h with h|h
   ·exact(aD prog w).keeps (u x h) n hd (Heap.SameBut.update ..)
   ·simp only[zaO] at h;subst h;exact(aD prog w).keeps g n hd (Heap.SameBut.update ..)
  ·rw[storedH_new (atKey_none_of_get f)];rw[zbS,zbg];refine⟨z,by simp,?_⟩;intro x h y H;simp only[zch,zcr,zaO] at H;subst H;exact λe=>q (e▸h)
 ·intro j p I;refine yaa (wpAny_dictEntries (s:={s with toks:=s.toks+(aD prog w).draws k}) n hd ?_);rw[entry_at v j,I];exact yaa (wpAny_rule (yab (yab ⟨p.2,rfl,i p (atKey_of_get z I) _⟩)))
end
end M14
namespace L2
open PySem PySem.Spec PyProof.Rows M6 M8 M14
def Aa(K:yaI)(W:yak)(n ty m:TE):TE:=λh H Q=>n h H λx l=>∃(a o:Addr)(i:List (yam×Addr×Addr)),x=.ref a/\l a=some (.ext (jM W none o i))/\ty h l λy q=>m h q λz g=>∃(f b c:Addr)(e:List (yam×Addr×Addr))(d:yam),y=.ref b/\z=.ref c/\g a=some (.ext (jM W none f e))/\yl K g e/\bF d=true/\d.depth<=6/\cu K g d (.ref b)/\e.length<1000/\
 (∀j,gk e d=some j->Q (.ref j) g)/\(gk e d=none->f=a->Q (.ref c) (upd g a (.ext (jM W none a (yz e d b c)))))
def Ja(K:yaI)(W:yak):List V->Hp->VK->Prop:=λg H Q=>∃(a:Addr)(f:List Addr)(c:List (yam×Addr)),g=[.ref a]/\H a=some (.lst (f.map V.ref))/\Paired (λt (k:yam×Addr)=>ef K H t [.ref k.2,.bl true]) f c/\gn K H c/\c.length<=1000/\∀p,H p=none->Q (.ref p) (upd H p (.ext (gh W p (c.foldl (λe k=>iZ e k.1 k.2) []))))
def jW(W:yak)(o:Obj)(a:Addr)(c:List (yam×Addr)):Heap->Prop:=λh=>gh W a c h/\h.get? a=some o
theorem jW.ok{P:yaj}{w W:yak}{H:Hp}{h:Heap}{o:Obj}{a:Addr}{c:List (yam×Addr)}(x:jW W o a c h):aJ P w H h a (.ext (jW W o a c)):=⟨x,⟨o,x.2⟩,λg f y e=>⟨y.1.at e,e o y.2⟩⟩
theorem rQ{P:yaj}{w W:yak}{H:Hp}{h:Heap}{o:Obj}{a b:Addr}{i:List (yam×Addr)}(x:aJ P w H h a (.ext (jW W o b i))):b=a:=by
 obtain⟨y,⟨f,e⟩,j⟩:=x;apply Classical.byContradiction;intro c;obtain⟨⟨z,u,F,G,m,E,C,r⟩,_⟩:=id y;have q:(h.update b λ_=>{cls:=.none}).get? a=some f:=(zar _ _ c).trans e;have n:(h.update b λ_=>{cls:=.none}).get? b=some {cls:=.none}:=zay (λ_=>{cls:=.none}) m rfl;obtain⟨⟨_,v,s,t,k1,k2,l,_⟩,_⟩:=j h (h.update b λ_=>{cls:=.none}) y λf g=>by rw[e] at g;cases g;exact q
 rw[n] at k1;cases k1;cases l
def MF(W:yak)(te:TE):TI:=λh H R=>te h H λx g=>∃(a j:Addr)(c:List (yam×Addr)),x=.ref a/\g a=some (.ext (gh W j c))/\∀o e f,(∀b i,Rw a (jW W o b i) e f)->e.size=c.length->R (Pu a e f (c.map λx=>V.ref x.2)) (upd g a (.ext (jW W o a c)))
def OC(K:yaI)(W:yak):R2:=λy x H Q=>∃(a e b:Addr)(o:Obj)(c:List (yam×Addr))(d:yam),x=.ref a/\y=.ref b/\H a=some (.ext (jW W o e c))/\gn K H c/\bF d=true/\d.depth<=6/\cu K H d (.ref b)/\Q (.bl (c.any λx=>decide (x.1=d))) H
section
variable {X:Cx}{o i e f value:Expr}{td ty tv tx te:TE}{pos pos' apos cpos:Pos}{tg:Expr}
theorem mH(hu:X.A.units+30<cLine)(ho:PE X o td)(he:PE X e ty)(hf:PE X f tx)(m:M2 X o "setdefault" apos e f cpos):PE X (.Call (.Attribute o "setdefault" apos) [e,f] [] cpos) (Aa X.K X.w td ty tx):=by
 intro g s O H Q I h;refine wpAny_Call_method m.base m.few m.line PySem.F.plainAttrs_dict PySem.F.slot_dict_setdefault PySem.F.type_dict_setdefault (b6 (ho g s O H _ I h) λu P ⟨x,H1,Z,rx,a,n,v,ex,e1,q1⟩=>?_);subst ex;obtain rfl:u=Value.ref a:=rx;obtain rfl:=vY (show aJ X.prog X.w H1 P.heap a (.ext (jM X.w none n v)) from Z.hok a _ e1);obtain⟨⟨_,_,ob,es,ep,j,h2,h3,_⟩,_,_⟩:=(show aJ X.prog X.w H1 P.heap n (.ext (jM X.w none n v)) from Z.hok n _ e1)
 refine⟨⟨ob,j,h2.1⟩,λb q=>by cases q;exact⟨ob,j,h2.2.1⟩,?_⟩;rw[m.trees];refine zas rfl (Calls.evalArgs_plain (zaW (b6 (he g P O H1 _ Z q1) λiv s2 ⟨y,H2,I2,ry,q2⟩=>zaW (b6 (hf g s2 O H2 _ I2 q2) λfv s3 ⟨z,H3,L,rz,G,b,c,l,d,ey,ez,Y,k1,k2,k3,k4,k5,q3,q4⟩=>zbp ?_))));subst ey ez;obtain rfl:iv=Value.ref b:=ry;obtain rfl:fv=Value.ref c:=rz;obtain rfl:=vY (show aJ X.prog X.w H3 s3.heap n (.ext (jM X.w none G l)) from L.hok n _ Y);obtain⟨lo,dd⟩:=zW L Y k1;refine D7 (k:=d) (by lia) lo (L.key k2 k3 k4) dd (by rw[zbK,yaf];lia) (λhn h' t E hs=>?_) λp hp t=>?_
 ·have S:gk l d=none:=by
   have:=(lH l d).1;rw[hn] at this;cases C:gk l d with
   |none=>rfl
   |some c=>rw[C] at this;cases this
  rw[rN] at E;obtain⟨q,U,W,hq,x1,x2,x3,_,x5⟩:=E;have nn:jM X.w none G (yz l d b c) h':=⟨lo,(λo q=>by cases q),q,U,W,hq,x1,x2,by rw[x3,zct];rfl,by rw[zct] at x5;exact x5⟩
  exact⟨.ref c,_,lE (t':=t) L (by rw[Y];exact True.intro) hs ⟨q,hq⟩ nn.ok,rfl,q4 S rfl⟩
 ·have j:=(lH l d).1;rw[hp] at j;cases C:gk l d with
  |none=>rw[C] at j;cases j
  |some c'=>
   rw[C] at j;simp only[Option.map_some,zcJ.injEq] at j;rw[j];exact⟨.ref c',H3,L.tok _,rfl,q3 c' C⟩
theorem tD:∀(ks a:List (yam×Addr)),(ks.map λk:yam×Addr=>((k.1,k.2,Value.bool true):E3)).foldl (λa p=>storedH a p.1 p.2.1 p.2.2) (a.map λx=>(x.1,x.2,Value.bool true))=(ks.foldl (λa k=>iZ a k.1 k.2) a).map λx=>(x.1,x.2,Value.bool true)
 |[],a=>rfl
 |k::ks,a=>by
  rw[zch,zbQ,zbQ];dsimp only;rw[ko];exact tD ks _
theorem BF{c:List (Addr×Obj)}{m:St}{H:Hp}{s:yah}(I:Inv X c m H s):∀{ts:List Addr}{ks:List (yam×Addr)},Paired (λt (k:yam×Addr)=>ef X.K H t [.ref k.2,.bl true]) ts ks->gn X.K H ks->ts.length=ks.length/\∀(i:Nat)(v:yai)(p:E3),(ts.map Value.ref)[i]? =some v->(ks.map λk:yam×Addr=>((k.1,k.2,Value.bool true):E3))[i]? =some p->n9 s.heap v p
 |[],_,h,_=>by cases h;exact⟨rfl,λi v p h=>by simp at h⟩
 |t::ts,_,h,hk=>by
  cases h with
  |@cons _ q _ ks r g=>
   obtain⟨L,G⟩:=BF I g λx C=>hk x (zaz _ C);obtain⟨z,a,⟨o,E,F,n,hd⟩,_⟩:=I.tuple r;cases a with
   |@cons _ ku _ its' g1 a=>
    cases a with
    |@cons _ u _ its'' g2 a=>
     cases a;obtain rfl:ku=Value.ref q.2:=g1;obtain rfl:u=Value.bool true:=g2;refine⟨by simp[L],λi v p l j=>?_⟩;cases i with
     |zero=>
      simp only[zch,zam,zcJ.injEq] at l j;subst l;subst j;obtain⟨k1,k2,y⟩:=hk q (by simp);exact⟨t,o,n,rfl,E,F,hd,I.key k1 k2 y⟩
     |succ i=>
      simp only[zch,zan] at l j;exact G i v p l j
theorem vo{k:Nat}(C:aQ k X.A):bW X (.type "dict") (Ja X.K X.w):=by
 intro z s σ H xs us Q I r h;obtain⟨a,P,l,rfl,e,Z,hk,hl,q⟩:=h;obtain⟨u,rfl,ru⟩:=vals1 r;cases ru;obtain⟨hz,its,c,S,g⟩:=(show aJ X.prog X.w H s.heap a (.lst (P.map V.ref)) from I.hok a _ e)
 have F:=jQ S;obtain⟨W,p3⟩:=BF I Z hk;have hu:=C.units;refine vp (its:=its.toArray) (ps:=l.map λk:yam×Addr=>((k.1,k.2,Value.bool true):E3)) C.hd (by lia) g (by rw[zaX,F,zbK,zbK];exact W) (λi v p h1 h2=>p3 i v p (by rw[<-F];simpa using h1) h2) (by rw[zbK];exact hl) λE tk dd kp=>?_;have e9:=tD l [];have t:E.DictOfH (aD X.prog X.w) s.heap.objs.size ((l.foldl (λj k=>iZ j k.1 k.2) []).map λx=>(x.1,x.2,Value.bool true)):=by rw[<-e9];exact dd
 obtain⟨U,m,n,Y,O,L,G,_,y⟩:=t;have nn:gh X.w s.heap.objs.size (l.foldl (λj k=>iZ j k.1 k.2) []) E:=⟨beq_eq_false_iff_ne.mpr (Ne.symm (zcv I.big)),U,m,n,Y,O,L,by rw[G,zct];rfl,by rw[zct] at y;exact y⟩
 exact⟨.ref s.heap.objs.size,_,I.laid (a:=s.heap.objs.size) (t':=tk) (o:=.ext (gh X.w s.heap.objs.size (l.foldl (λj k=>iZ j k.1 k.2) []))) kp (zcH _) nn.ok,rfl,q _ (I.hok.fresh (zcH _))⟩
theorem Je(Y:PE X e te):PI X tg e (MF X.w te):=by
 intro c s S H R I h;refine b6 (Y c s S H _ I h) λu v ⟨x,H1,Q,W,a,n,g,ex,P,q⟩=>?_;subst ex;obtain rfl:u=Value.ref a:=W;have z:=(show aJ X.prog X.w H1 v.heap a (.ext (gh X.w n g)) from Q.hok a _ P)
 obtain rfl:=fc z;obtain⟨⟨C,o,j,m,l,O,L,G,Z⟩,_,_⟩:=z;have E:∀b t,Rw n (jW X.w o b t) j m:=λb t P' w' H' h' y=>by
  obtain rfl:=rQ y;exact⟨o,y.1.2,O,L⟩
 have U:jW X.w o n g v.heap:=⟨⟨C,o,j,m,l,O,L,G,Z⟩,l⟩
 have F:Vals (g.map λx=>V.ref x.2) (j.toList.map (·.key)):=by
  rw[G,zct];exact dF (λx:yam×Addr=>x.2) g
 refine Fx (Q.as (by rw[P];exact True.intro) ⟨o,l⟩ U.ok) bx (E _ _) C F (q o j m E ?_);have:=F.length;simpa using this.symm
theorem Jp{k:Nat}(O:aQ k X.A):fG X (yan .In) (OC X.K X.w):=by
 intro l s σ H y x v u Q I t C h;obtain⟨a,n,b,E,c,d,rfl,rfl,e,U,Z,Y,W,q⟩:=h;obtain rfl:u=Value.ref a:=C;obtain rfl:v=Value.ref b:=t;have m:=(show aJ X.prog X.w H s.heap a (.ext (jW X.w E n c)) from I.hok a _ e)
 obtain rfl:=rQ m;obtain⟨⟨⟨z,o,es,ep,P,L,hd,j,S⟩,_⟩,_,_⟩:=m;have dd:Heap.DictOfH (aD X.prog X.w) s.heap n (c.map λx=>(x.1,x.2,Value.bool true)):=by
  refine⟨o,es,ep,P,L,hd,?_,λx g=>?_,?_⟩
  ·rw[j,zct];rfl
  ·obtain⟨y,G,rfl⟩:=zcu.mp g;obtain⟨k1,k2,F⟩:=U y G;exact I.key k1 k2 F
  ·rw[zct];exact S
 have hu:=O.units;refine wpAny_in_heap (knd:=aD X.prog X.w) (show X.A.units+1+10<cLine by lia) (I.key Z Y W) z dd ?_;rw[ie d c];exact⟨.bl (c.any λx=>decide (x.1=d)),H,I.tok _,rfl,q⟩
end
end L2
namespace M
open PySem PySem.Spec PyProof.Rows L2 M6
noncomputable def GZ(W:yak)(o:Obj)(ks:List D):MO:=.zM (λa bs=>jW W o a ((ks.map py).zip bs)) ks
section
variable {K:yaI}
theorem Ff{ks vs:List D}{k:D}(c:ks.length=vs.length):dg ks vs k=none->gb ks k=false:=by
 induction ks generalizing vs with
 |nil=>exact λ_=>rfl
 |cons a r ih=>
  cases vs with
  |nil=>cases c
  |cons b vs=>
   unfold dg gb at ih⊢;rw[zaN,zbO,zci];by_cases h:py a=py k
   ·simp[h]
   ·simp only[h,decide_false,zcn];exact λz=>ih (vs:=vs) (by simpa using c) z
def nP(W:yak)(a b c:AE):AE:=λl S Q=>a l S λs o=>∃n h f,s.d=.loc n/\o[n]? =some (some (vO W none h f))/\h.length=f.length/\b l o λj t=>c l t λq i=>∃e g m,q=.new (.lst m)/\i[n]? =some (some (vO W none e g))/\e.length=g.length/\bS j.d/\(∀k∈e,bS k)/\e.length<1000/\
 (∀d,dg e g j.d=some d->Q (.dat d) i)/\(dg e g j.d=none->Q (.dat (.loc i.length)) (List.set (i++[some (MO.lst m)]) n (some (vO W none (e++[j.d]) (g++[D.loc i.length])))))
theorem Ei{W:yak}{a b c:AE}:∀L H Q,aY K (nP W a b c) L H Q->Aa K W (aY K a) (aY K b) (aY K c) L H Q:=by
 rintro L H Q ⟨w,O,S,Qa,ok,env,q,bk⟩;refine⟨w,O,S,_,ok,env,q,.go λr1 S1 v1 w1 H1 i x e ⟨n,ks0,vs0,z1,z0,hl0,q1⟩=>?_⟩;rw[z1] at e;obtain⟨a,a',kb0,vb0,rfl,h0,k3,_,_,_,_⟩:=zX x e z0 hl0;refine⟨a,a',_,rfl,k3,w1,O,S1,_,x,env.le i,q1,.go λs S2 v2 w2 H2 h Y o q2=>?_⟩;refine⟨w2,O,S2,_,Y,(env.le i).le h,q2,λr3 F v3 w3 H3 g dR m ⟨v,u,es,er,G,I,g1,g2,hz,q3,q4⟩=>?_⟩;subst er;obtain⟨a1,E,kb,vb,ea,h0',Z,h1,h2,_,_⟩:=zX dR (e.le (h.trans g)) G I;cases ea;obtain⟨b,rfl,hb⟩:=dP dR (o.le g) g1;obtain⟨c,uu,rfl,_⟩:=id m;have U:=v_get (k:=s.d) h1 h2 I;refine⟨E,b,c,_,py s.d,rfl,rfl,Z,zV dR h1 g2,g1.2.1,g1.2.2.1,hb,?_,λc' t=>?_,λt ea=>?_⟩
 ·rw[zbU,zbK];lia
 ·cases j:dg v u s.d with
  |none=>rw[U.2 j] at t;cases t
  |some d=>
   obtain⟨c2,C,y⟩:=U.1 d j;rw[C] at t;cases t;exact bk.dat ((i.trans h).trans g) dR y (q3 d j)
 ·subst ea;have j:dg v u s.d=none:=by
   cases j:dg v u s.d with
   |none=>rfl
   |some d=>
    obtain⟨c2,C,y⟩:=U.1 d j;rw[C] at t;cases t
  obtain⟨w4,f,X,l⟩:=store dR m;obtain⟨kb',vb',C,y,e3⟩:=La (o.le (g.trans f)) l (h1.le f) (h2.le f) I;rw[C];have ep:o8 v u s.d (.loc F.length)=(v++[s.d],u++[.loc F.length]):=by
   unfold o8;rw[Ff I j,yIn (by decide)]
  rw[ep] at y e3⊢;have hlt:n<F.length:=by
   rcases zcz n F.length with z|z
   ·exact z
   ·rw[zau z] at G;cases G
  have P:(F++[some (.lst es)])[n]? =some (some (vO W none v u)):=by rw[zaf hlt];exact G
  exact bk.dat (((i.trans h).trans g).trans f) (X.put P (f.r _ _ h0') (zU E y e3)) (l) (q4 j)
inductive vS(W:yak)(p:Nat)(ks:List D):List D->aA->List D->aA->Prop
 |nil {vs:List D}{S:aA}:vS W p ks vs S vs S
 |step {vs vs' es:List D}{S S':aA}{m:Nat} (h:S[m]? =some (some (.lst es))) (hm:m≠p) (t:vS W p ks (vs.map (sb m (.lst es))) ((S.set m none).set p (some (vO W none ks (vs.map (sb m (.lst es)))))) vs' S'):vS W p ks vs S vs' S'
theorem Fj{W:yak}{p:Nat}{ks vs g:List D}{S S':aA}(h:vS W p ks vs S g S'):∀{w:Wd}{H:Hp},ks.length=vs.length->S[p]? =some (some (vO W none ks vs))->Ok K w H S->∃s,w.le s/\Ok K s H S':=by
 induction h with
 |nil=>exact λ_ _ ok=>⟨_,.refl,ok⟩
 |@step vs g es S S' m hS hm t ih=>
  intro w H e j ok;obtain⟨L,c,l,f⟩:=MS ok hS;have C:p<S.length:=by
   rcases zcz p S.length with z|z
   ·exact z
   ·rw[zau z] at j;cases j
  have q:(S.set m none)[p]? =some (some (vO W none ks vs)):=by rw[zaB hm];exact j
  obtain⟨v,u,k1,k2,X,U⟩:=ok.live p _ j;have y:Rep K w (.loc p) (.ref v):=by simp only[Rep];exact⟨v,k1,rfl⟩
  obtain⟨a,I,kb,O,G,Y,o,F,E,Q,P⟩:=zX ok y j e;cases G;have i:=l.put (o':=vO W none ks (vs.map (sb m (.lst es)))) q (c.r _ _ k1) (zU (W:=W) (po:=none) I (F.le c) (ur c f E));rw[qV o] at i;obtain⟨x,n,dR⟩:=ih (by rw[zbK];exact e) (by rw[zbc,yIp rfl,yIp (by simpa using C)]) i;exact⟨x,c.trans n,dR⟩
def xW(W:yak)(a:AE):AE:=λi S Q=>a i S λr h=>∃p f e c g,r=.dat (.loc p)/\f.length=e.length/\h[p]? =some (some (vO W none f e))/\vS W p f e h c g/\Q (.dat (.loc p)) g
theorem Iu{W:yak}{a:AE}:∀f H Q,aY K (xW W a) f H Q->aY K a f H Q:=by
 rintro f H Q ⟨w,j,S,F,ok,env,q,bk⟩;refine⟨w,j,S,_,ok,env,q,λr E v l G i h c ⟨p,z,y,m,C,u,o,t,s,n⟩=>?_⟩;subst u;have c:Rep K l (.loc p) v:=c;obtain⟨x,e,g⟩:=Fj s o t h;exact bk.dat (i.trans e) g (c.le e) n
def vK(W:yak):AN:=λc S Q=>∃(d:D)(a:List D),c=[d]/\bz S d=.lst (a.map λk=>D.tup [k,.bl true])/\(∀k∈a,bS k)/\a.length<=1000/\Q (.new (nO W (a.foldl putN []))) S
theorem sE{w:Wd}:∀{ks js:List D}{f bs:List Addr},ak K w ks (f.map V.ref)->ks.length=f.length->ak K w js (bs.map V.ref)->js.length=bs.length->∃a,((ks.map py).zip f).foldl (λi k=>iZ i k.1 k.2) ((js.map py).zip bs)=((ks.foldl putN js).map py).zip a/\ak K w (ks.foldl putN js) (a.map V.ref)
 |[],js,f,bs,_,_,h2,_=>⟨bs,rfl,h2⟩
 |k::ks,js,[],bs,_,hl,_,_=>by cases hl
 |k::ks,js,c::f,bs,h1,hl,h2,hb=>by
  simp only[zch,ak] at h1;obtain⟨x,r,e,l,j⟩:=h1;injection e with h g;subst h;subst g;obtain⟨a,h,g⟩:=rO (k:=k) (b:=c) hb;rw[zch,zaN,zbQ,zbQ];dsimp only;rw[h];refine sE j (by simpa using hl) ?_ ?_
  ·rcases g with⟨rfl,e⟩|⟨rfl,e⟩
   ·rw[e];exact h2
   ·rw[e,zbS];exact h2.snoc l
  ·rcases g with⟨rfl,e⟩|⟨rfl,e⟩
   ·rw[e];exact hb
   ·rw[e,zaL,zaL,hb];rfl
theorem oQ{w:Wd}{H:Hp}{S:aA}(ok:Ok K w H S):∀{ks:List D}{vs:List V},ak K w (ks.map λk=>.tup [k,.bl true]) vs->(∀k∈ks,bS k)->∃(ts a:List Addr),vs=ts.map V.ref/\ak K w ks (a.map V.ref)/\ks.length=a.length/\Paired (λt (k:yam×Addr)=>ef K H t [.ref k.2,.bl true]) ts ((ks.map py).zip a)
 |[],vs,h,_=>by simp only[zcr,ak] at h;subst h;exact⟨[],[],rfl,.nil,rfl,.nil⟩
 |k::ks,vs,h,g=>by
  simp only[zch,ak] at h;obtain⟨x,r,rfl,f,q⟩:=h;obtain⟨ts,a,rfl,o,n,m⟩:=oQ ok q λj l=>g j (zaz _ l);simp only[Rep,ak] at f;obtain⟨t,s,rfl,i,v,z,rfl,e,u,y,rfl,q2,rfl⟩:=f;obtain⟨c,rfl,_⟩:=dP ok e (g k (by simp));subst q2;exact⟨t::ts,c::a,rfl,by rw[zch];exact .cons e o,by simp[n],by rw[zch,zaN];exact .cons (ef.same ok.base i) m⟩
theorem Mr{w:Wd}{H:Hp}{S:aA}{n:Nat}{v:V}{W:yak}{o:Obj}{ks:List D}(ok:Ok K w H S)(r:Rep K w (.loc n) v)(z:S[n]? =some (some (GZ W o ks))):
  ∃(a c:Addr)(bs:List Addr),v=.ref a/\H a=some (.ext (jW W o c ((ks.map py).zip bs)))/\ak K w ks (bs.map V.ref)/\ks.length=bs.length:=by
 simp only[Rep] at r;obtain⟨a,g,rfl⟩:=r;obtain⟨h,u,k1,k2,f,c,bs,rfl,e⟩:=ok.live n _ z;rw[g] at k1;cases k1;exact⟨a,c,bs,rfl,f,e,by have:=e.length;rw[zbK] at this;exact this.symm⟩
def PL(W:yak)(a:AE):AI:=λf S Q=>a f S λr e=>∃n c,r.d=.loc n/\e[n]? =some (some (nO W c))/\∀o,Q c (λS=>S[n]? =some (some (GZ W o c))) (e.set n (some (GZ W o c)))
theorem LN{W:yak}{a:AE}:∀E H R,ve K (PL W a) E H R->MF W (aY K a) E H R:=by
 rintro E H R ⟨w,X,S,Qa,ok,env,q,bk⟩;refine⟨w,X,S,_,ok,env,q,.go λr1 S1 v1 F H1 I h f ⟨n,t,hd,z,Y⟩=>?_⟩;rw[hd] at f;obtain⟨a,U,bs,rfl,O,L,l⟩:=yN h f z;have C:F.r n=some a:=by
  simp only[Rep] at f;obtain⟨a2,C,e⟩:=f;cases e;exact C
 obtain⟨_,_,e1,_⟩:=cS l;refine⟨a,U,_,rfl,O,λo Q ep Z j=>?_⟩;rw[e1];have j:Q.size=t.length:=by rw[j,zbU,zbK];lia
 have G:=h.put (o':=GZ W o t) z C (u':=.ext (jW W o a ((t.map py).zip bs))) ⟨a,bs,rfl,L⟩;have at_:∀{s:Hp}{m:aA}{g:Wd},F.le g->Ok K g s m->m[n]? =some (some (GZ W o t))->∃P,s a=some (.ext P)/\Rw a P Q ep:=λle c e=>by
  obtain⟨a1,u,k1,k2,O,U,bs',rfl,L⟩:=c.live n _ e;rw[le.r _ _ C] at k1;cases k1;exact⟨_,O,Z _ _⟩
 refine bk _ _ _ _ F _ I G ⟨λi s m g d le c x e=>⟨?_,at_ le c x⟩,λi s m g d v H2 le c x e y=>?_,λi s m g le c x e=>⟨?_,at_ le c x⟩⟩ (Y o)
 ·have:=(zae.mp e).1;lia
 ·obtain⟨rfl,y⟩:=y;obtain⟨v',g1,g2⟩:=L.get e;rw[g1] at y;cases y;exact⟨g,.refl,c,g2.le le⟩
 ·lia
def Nx(W:yak):A2:=λx y S Q=>∃n o a,y=.loc n/\S[n]? =some (some (GZ W o a))/\bS x/\(∀k∈a,bS k)/\Q (.dat (.bl (gb a x))) S
end
section
variable {X:Cx}{o i e f value:Expr}{pos pos' apos cpos:Pos}{tg:Expr}
theorem L1{a:AE}(c:GE X e a):GI X tg e (PL X.w a):=⟨mI (L2.Je c.p) LN⟩
theorem Mg{j:Nat}{W:yak}(C:aQ j X.A)(F:X.w=W:=by rfl):kX X (yan .In) (Nx W):=by
 subst F;exact⟨m2 (Jp C) λx y H Q h=>by
 obtain⟨w,d,e,S,Z,ok,s,m,⟨n,t,g,rfl,z,l,I,q⟩,bk⟩:=h;obtain⟨a,O,bs,rfl,v,u,c⟩:=Mr ok m z;obtain⟨b,rfl,E⟩:=dP ok s l;obtain⟨P,U,Y,L⟩:=cS c;refine⟨a,O,b,t,_,py d,rfl,rfl,v,cD ok u I,l.2.1,l.2.2.1,E,bk.dat .refl ok .bl ?_⟩;have:(((g.map py).zip bs).any λx=>decide (x.1=py d))=gb g d:=by
  have G:(((g.map py).zip bs).any λx=>decide (x.1=py d))=((((g.map py).zip bs).map (·.1)).any λz=>decide (z=py d)):=by rw[zcs];rfl
  rw[G,L,zcs];rfl
 rw[this];exact q⟩
theorem xj{k:Nat}(x:aQ k X.A):ua X (.type "dict") (vK X.w):=⟨mC (vo x) λs H Q h=>by
 obtain⟨w,O,S,P,ok,rep,⟨d,c,rfl,z,g,L,q⟩,bk⟩:=h;obtain⟨v,rfl,u⟩:=eF rep;obtain⟨a,s,rfl,F,E⟩:=bG ok u z;obtain⟨t,I,rfl,n,C,y⟩:=oQ ok E g;obtain⟨bs,j,G⟩:=sE n C (js:=[]) (bs:=[]) .nil rfl;refine⟨a,t,_,rfl,F,y,cD ok n g,by rw[zbU,zbK];lia,λp m=>?_⟩;have j:((c.map py).zip I).foldl (λl k=>iZ l k.1 k.2) []=((c.foldl putN []).map py).zip bs:=j;rw[j];exact bk (.new (nO X.w (c.foldl putN []))) S _ w _ .refl (ok.alloc m) (ok.fresh m ⟨p,bs,rfl,G⟩) q⟩
theorem mH{j:Nat}(c:aQ j X.A){a tb tc:AE}(g:GE X o a)(l:GE X e tb)(h:GE X f tc)(m:M2 X o "setdefault" apos e f cpos):GE X (.Call (.Attribute o "setdefault" apos) [e,f] [] cpos) (nP X.w a tb tc):=⟨mE (L2.mH (by have:=c.units;lia) g.p l.p h.p m) Ei⟩
theorem OX{t:AE}(h:GE X e t):GE X e (xW X.w t):=⟨mE h.p Iu⟩
end
end M
namespace M8
open PySem PySem.Spec PyProof.Rows M5 M6 M7
theorem qD{α:Type}[DecidableEq α]:∀{l m:List α},l.Nodup->(∀x∈l,x∈m)->l.length<=m.length
 |[],_,_,_=>zcI _
 |a::l,m,hn,h=>by
  rw[zbM] at hn;have f:=h a (by simp);have:=qD (l:=l) (m:=m.erase a) hn.2 λx c=>(List.mem_erase_of_ne (show x≠a from λe=>hn.1 (e▸c))).mpr (h x (by simp[c]));rw[zal f] at this;have:0<m.length:=List.length_pos_of_mem f;simp only[zbq];lia
section
variable {prog:yaj}{w:yak}{A:yal}{R:Result->yah->Prop}{I:Addr}{fp wr:List Addr}{G:Array yaw->Array yaw->Prop}{n:Nat}{P:Nat->yai->Prop}{St:Nat->yah->Prop}
theorem yR{h0:Heap}{B:List (yam×Addr)}(W:WalksS prog w A.in1 I fp wr G n P St)(a:Addr)(ha:a ∉ fp)(val:Nat->yam×Addr)(m:∀i v,P i v->v=.ref (val i).2)(hB:∀i,i<n->val i∈B)(O:∀i,i<n->isKey h0 (val i).1 (val i).2)(hI:∀i s,St i s->∃o,s.heap.get? I=some o/\o.cls≠ .type "tuple")(hw:∀b∈wr,b=I)(hu:A.units+11<cLine)(hn:∀i,i<n->(nM (λi=>(val i).1) i).length<63):
  ∀(k i:Nat)(s:yah),n - i=k->i<=n->St i s->zG w B s.heap a (nM (λi=>(val i).1) i)->cG h0 s.heap->
   (∀s',Moved (a::wr) G s s'->cG h0 s'.heap->zG w B s'.heap a (nM (λi=>(val i).1) n)->R (.ok (.ret .none)) s')->
   codeAny (model prog w) A (.builtin "set.update.loop" ⟨[.ref a,.ref I],[]⟩) R s:=by
 have x:a ∉ wr:=λz=>ha (W.sub _ z);have l:∀b∈wr,b∈a::wr:=λb z=>zaz _ z;have kt:∀{i:Nat}{s s':yah},St i s->Moved wr G s s'->cG s.heap s'.heap:=λ{i s s'} f h=>by
  obtain⟨o,ho,hc⟩:=hI _ _ f;exact cG.but ho hc λc o Q e=>h.heap c o (λz=>Q (hw c z)) e
 intro k
 induction k with
 |zero=>
  intro i s hk hi f Z U hR;obtain rfl:i=n:=by lia
  refine codeAny_builtin PyProof.Rows.F.entry_set_update_loop ?_;rw[Around.under_plainId PyProof.Rows.F.plain_set_update_loop _];show yar _ A.in1 (pyNext (.ref I) >>= _) _ _ s;refine yaa (W.done s _ _ f λs' h=>?_);have k1:=kt f h;exact yab (hR s' (h.mono l) (U.trans k1) (Z.keep (λo e=>h.heap a o x e) k1))
 |succ k ih=>
  intro i s hk hi f Z U hR;have g:i<n:=by lia
  refine codeAny_builtin PyProof.Rows.F.entry_set_update_loop ?_;rw[Around.under_plainId PyProof.Rows.F.plain_set_update_loop _];show yar _ A.in1 (pyNext (.ref I) >>= _) _ _ s;refine yaa (W.item i s _ _ g f λv s' hP q h=>?_);have k1:=kt f h;obtain rfl:=m i v hP;have Y:=Z.keep (λo e=>h.heap a o x e) k1;have C:=U.trans k1;have j:isKey s'.heap (val i).1 (val i).2:=kE C (O i g);show yar _ A.in1 (holding [Value.ref (val i).2] (setAdd a (.ref (val i).2)) >>= _) _ _ s';refine yaa (yad ?_);unfold setAdd;refine yad (yaa ((aD prog w).pyHash (by show A.units+1+10<cLine;lia) j ?_));refine F3 (s:={s' with toks:=s'.toks+NW (val i).1}) Y (hB i g) j (by show A.units+1+10<cLine;lia) (by have:=hn i g;lia) λb h' t L X=>?_;refine yab ⟨plainId_quiet PyProof.Rows.F.plain_set_update_loop _,ih (i+1) _ (by lia) g (W.frame _ s' _ _ q (Nat.le_add_right _ _) λb S o e=>?_) X (C.trans L) λH u y E=>?_⟩
  ·rw[t.2 b λz:b=a=>ha (z▸S)];exact e
  ·refine hR H (Moved.trans W.gtrans ((h.mono l).then_heap (Nat.le_add_right _ _) λb o S e=>?_) u) y E;rw[t.2 b λz:b=a=>S (z▸zaK)];exact e
end
section
variable {prog:yaj}{w:yak}{A:yal}{E:yai->yah->Prop}{s:yah}
theorem AF{l:Addr}{T:String}{ob:Obj}{its:Array yai}{ks:List (yam×Addr)}{Q:yai->yah->Prop}{St:Addr->Nat->Heap->Prop}(hh:A.handled=none)(hT:s.TypeIs (.ref l) T)(h1:isSubtype (.type T) (.type "set")=pure false)(h2:isSubtype (.type T) (.type "frozenset")=pure false)(h3:(Value.type T==Value.type "dict")=false)(it:∀{A':yal}{s':yah}{Q':yai->yah->Prop}{E':yai->yah->Prop},(∀b o,s.heap.get? b=some o->s'.heap.get? b=some o)->Q' (.ref s'.heap.objs.size) {s' with heap:=s'.heap.push ob}->yar (model prog w) A' (pyIter (.ref l)) Q' E' s')(F:ob.isFreed=false)(W:∀{A':yal}(I:Addr),A'.handled=none->l≠I->Walks prog w A' I [I,l] [I] its.size (λi v=>its[i]? =some v) (St I))(u:∀I h',(∀b o,s.heap.get? b=some o->h'.get? b=some o)->h'.get? I=some ob->St I 0 h')(t:∀I i h',St I i h'->∃o,h'.get? I=some o/\o.cls≠ .type "tuple")(Y:its.toList=ks.map λk=>.ref k.2)(hk:∀k∈ks,isKey s.heap k.1 k.2)(hu:A.units+13<cLine)(U:List yam)(hU:U.length<63)(hn:∀k∈ks,k.1∈U)(h:∀(h':Heap)(tk:Nat)(S:List yam),S.Nodup->(∀y,y∈S↔y∈ks.map (·.1))->S.length<63->zG w ks h' s.heap.objs.size S->(∀b o,b<s.heap.objs.size->s.heap.get? b=some o->h'.get? b=some o)->Q (.ref s.heap.objs.size) {s with heap:=h',toks:=tk}):
  yar (model prog w) A (call (.type "set") [.ref l]) Q E s:=by
 have el:its.size=ks.length:=by rw[<-zaI,Y,zbK]
 have a:∀i (g:i<ks.length),ks.getD i (.none,0)=ks[i]:=λi g=>by simp[zcO,g]
 have j:∀n,n<=ks.length->(nM (λi=>(ks.getD i (.none,0)).1) n).length<63:=λn hn'=>by
  refine Nat.lt_of_le_of_lt (qD (iL _ _) λy hy=>?_) hU;obtain⟨i,g,e⟩:=(mY _ _ _).mp hy;rw[a i (by lia)] at e;rw[<-e];exact hn _ (zby _)
 refine zl (Z:=λh'=>zG w ks h' s.heap.objs.size (nM (λi=>(ks.getD i (.none,0)).1) its.size)) hT h1 h2 h3 it F (λI h0 R kp gS gI G O hR=>?_)
  λh' tk hZ kp=>h h' tk _ (iL _ _) (λy=>?_) (j _ (by lia)) hZ kp
 ·refine yR (h0:=h0) (B:=ks) (St:=λi s=>St I i s.heap) (P:=λi v=>its[i]? =some v) (W (A':=A.in1.in1.in1) I hh G).toS s.heap.objs.size O (λi=>ks.getD i (.none,0)) (λi v f=>?_) (λi g=>?_) (λi g=>?_) (λi s' C=>t I i _ C) (λb L=>by simpa using L) (by show A.units+1+1+11<cLine;lia) (λi g=>j i (by lia)) (its.size - 0) 0 _ rfl (zcI _) (u I h0 kp gI) (zF gS) (λc o _ z=>z) λs' m _ X=>?_
  ·rw[<-zax,Y,zaZ] at f;cases e:ks[i]? with
   |none=>rw[e] at f;cases f
   |some k=>
    rw[e] at f;have:ks.getD i (.none,0)=k:=by rw[zcO,e];rfl
    rw[this];exact(zcJ.inj f).symm
  ·rw[a i (by lia)];exact zby _
  ·rw[a i (by lia)];obtain⟨k1,k2,as,k3⟩:=hk _ (zby (by lia:i<ks.length));exact⟨k1,k2,as,Reads.keeps kp k3⟩
  ·obtain⟨h',g',d',q,x⟩:=s';obtain rfl:g'=s.gens:=m.gens;obtain rfl:d'=s.drawn:=m.drawn;obtain rfl:x=s.os:=m.os;exact hR h' q X λb o L e=>m.heap b o L e
 ·rw[mY,zcu];constructor
  ·rintro⟨i,g,e⟩;rw[a i (by lia)] at e;exact⟨_,zby (by lia),e⟩
  ·rintro⟨k,H,e⟩;obtain⟨i,g,rfl⟩:=zaG H;exact⟨i,by lia,by rw[a i g];exact e⟩
theorem yw{l:Addr}{its:Array yai}{ks:List (yam×Addr)}{Q:yai->yah->Prop}(n:A.handled=none)(a:s.heap.IsList l its)(c:its.toList=ks.map λk=>.ref k.2)(m:∀k∈ks,isKey s.heap k.1 k.2)(f:A.units+13<cLine)(U:List yam)(u:U.length<63)(j:∀k∈ks,k.1∈U)(h:∀(h':Heap)(tk:Nat)(S:List yam),S.Nodup->(∀y,y∈S↔y∈ks.map (·.1))->S.length<63->zG w ks h' s.heap.objs.size S->(∀b o,b<s.heap.objs.size->s.heap.get? b=some o->h'.get? b=some o)->Q (.ref s.heap.objs.size) {s with heap:=h',toks:=tk}):
  yar (model prog w) A (call (.type "set") [.ref l]) Q E s:=
 AF (T:="list") (ob:={cls:=.type "list_iterator",data:=.fields #[.ref l,.int 0 0]}) (St:=λI i h=>h.IsListIter I l i/\h.IsList l its) n a.typeIs PySem.F.sub_list_set PySem.F.sub_list_frozenset (by decide) (λkp q=>wpAny_pyIter_list (a.at (kp l)) q) rfl (λI x v=>Walks.list x I l v its) (λI h' kp e=>⟨⟨_,e,rfl,rfl⟩,a.at (kp l)⟩)
  (λI i h' ⟨⟨o,g,t,_⟩,_⟩=>⟨o,g,by rw[t];intro z;injection z with z;exact absurd z (by decide)⟩) c m f U u j h
theorem rg{a:Addr}{B:List (yam×Addr)}{S:List yam}{Q:yai->yah->Prop}(Z:A.handled=none)(hS:zG w B s.heap a S)(h0:∀d∈S,∃p r,d=.tuple (.str p::r))(hc:∀x∈S,∀y∈S,aE x y=true)(hn:S.length<64)(U:A.units+20<cLine)(h:∀(s1:yah)(q:Heap)(out:List (yam×Addr))(c:Nat),s1.gens=s.gens->s1.os=s.os->(∀b o,s.heap.get? b=some o->s1.heap.get? b=some o)->(∀b o,s1.heap.get? b=some o->q.get? b=some o)->q.get? s1.heap.objs.size=some (seqObj "list" (out.map λk=>Value.ref k.2).toArray c)->(∀k∈out,k∈B)->(out.map (·.1)).Perm S->out.Pairwise (λx y=>fF y.1 x.1=false)->Q (.ref s1.heap.objs.size) {s1 with heap:=q}):
  yar (model prog w) A (call (.builtin "sorted") [.ref a]) Q E s:=by
 obtain⟨o,es,ep,t,l,ks,X,F,hd,T,j,m,n,v⟩:=hS;have z:∀k∈ks,k.1∈S:=λk f=>v.mem_iff.mp (zcu.mpr ⟨k,f,rfl⟩);have H:ks.length=S.length:=by rw[<-v.length_eq,zbK]
 have W:es.size=ks.length:=by rw[<-zaI,m,zbK]
 refine gD (ks:=ks) (R:=λs1=>s1.gens=s.gens/\s1.os=s.os) Z (λk f=>⟨(n k f).2,h0 _ (z k f)⟩) (λk f l Y=>hc _ (z k f) _ (z l Y)) (by lia) U (λC hQ=>sS (es:=es) (ep:=ep) (t:=t) C ⟨o,X,F,hd,T.fits,j,λ_=>T.rise⟩ (by lia) λs1 O kp e1 e2 le G=>?_) λs1 q out c I k1 k2 g i u=>?_
 ·have e:es.toList.map (·.2)=ks.map λk=>Value.ref k.2:=by rw[m,zct];rfl
  rw[e] at G;obtain⟨P,L,rfl⟩:=eO G;exact hQ s1 P kp ⟨e1,e2⟩ L
 ·exact h s1 q out c I.1 I.2 k1 k2 g (λk f=>(n k (i.mem_iff.mp f)).1) ((i.map _).trans v) u
end
end M8
namespace L2
open PySem PySem.Spec PyProof.Rows M6 M8
def oS(K:yaI)(f:TE):TE:=λe H Q=>f e H λx c=>∃(p:Addr)(a:List (yam×Addr)),x=.ref p/\cV K c p (a.map λk=>V.ref k.2)/\gn K c a/\(∀k∈a,∃q r,k.1=.tuple (.str q::r))/\(∀k∈a,∀l∈a,aE k.1 l.1=true)/\(∃U:List yam,U.length<63/\∀k∈a,k.1∈U)/\
 ∀(l:Addr)(out:List (yam×Addr)),c l=none->(∀k∈out,k∈a)->(∀y,y∈out.map (·.1)↔y∈a.map (·.1))->(out.map (·.1)).Nodup->out.Pairwise (λx y=>fF y.1 x.1=false)->Q (.ref l) (upd c l (.lst (out.map λk=>V.ref k.2)))
section
variable {X:Cx}{e:Expr}{ta:TE}{p p2 pos pos2:Pos}
theorem gF{k:Nat}(hr:aQ k X.A)(hc:X.calm=true)(hg:Gl X "sorted")(hm:X.mg "sorted"=none)(hg2:Gl X "set")(W:X.mg "set"=none)(he:PE X e ta)(hs:notStar e=true:=by rfl):
  PE X (.Call (.Name "sorted" p) [.Call (.Name "set" p2) [e] [] pos2] [] pos) (oS X.K ta):=by
 intro j s σ H Q I h;have hk:=I.ok.hd hc;refine wpAny_Call_Name_kw (iM I hg hm (u:=.builtin "sorted") (by decide+kernel) ?_ (by decide+kernel) (by decide+kernel));refine PyProof.Rows.callWith_builtin1 (E:=X.xe) ?_ (bA [] X.env rfl) rfl;rw[bA [] X.env rfl];refine zaW ?_;refine wpAny_Call_Name_kw (iM I hg2 W (u:=.type "set") (by decide+kernel) ?_ (by decide+kernel) (by decide+kernel));refine PyProof.Rows.callWith_type1 (E:=X.xe) ?_ (bA [] X.env hs) rfl;rw[bA [] X.env hs];refine zaW (b6 (he j s σ H _ I h) λu f ⟨x,H1,G,rx,a,F,ex,hq,Z,h0,hcm,⟨U,hU1,hU2⟩,q⟩=>?_);subst ex;obtain rfl:u=Value.ref a:=rx;refine zbp ?_;have hun:=hr.units;have ky:∀k∈F,isKey f.heap k.1 k.2:=λk hk1=>by
  obtain⟨k1,k2,k3⟩:=Z k hk1;exact G.key k1 k2 k3
 have go:∀{Q':yai->yah->Prop},(∀(C:Heap)(tk:Nat)(S:List yam),S.Nodup->(∀y,y∈S↔y∈F.map (·.1))->S.length<63->zG X.w F C f.heap.objs.size S->(∀b o,b<f.heap.objs.size->f.heap.get? b=some o->C.get? b=some o)->Q' (.ref f.heap.objs.size) {f with heap:=C,toks:=tk})->yar (model X.prog X.w) X.A (call (.type "set") [.ref a]) Q' X.xe f:=λq'=>by
  obtain⟨its,r',pl,hz⟩:=G.list hq;exact yw (its:=its.toArray) hk pl.isList (by simpa using fj (λk:yam×Addr=>k.2) r') ky (by lia) U hU1 hU2 q'
 refine go λC tk S n1 n2 n3 tS kp=>?_
 ·refine zbp ?_;have mS:∀d∈S,∃k∈F,k.1=d:=λd hd=>zcu.mp ((n2 d).mp hd);refine rg (s:={f with heap:=C,toks:=tk}) hk tS (λd hd=>?_) (λx hx y hy=>?_) (by lia) (by lia) λs2 h2 out c e1 e2 n O g hB P v=>?_
  ·obtain⟨k,k1,rfl⟩:=mS d hd;exact h0 k k1
  ·obtain⟨k,k1,rfl⟩:=mS x hx;obtain⟨k',k2,rfl⟩:=mS y hy;exact hcm k k1 k' k2
  ·obtain⟨i,g2,d2,t2,o2⟩:=s2;obtain rfl:g2=f.gens:=e1;obtain rfl:o2=f.os:=e2;have L:∀b o,f.heap.get? b=some o->h2.get? b=some o:=λb o z=>O b o (n b o (kp b o (zcE z) z));have m:f.heap.objs.size<=i.objs.size:=by
    obtain⟨o,es,ep,t,l,ks',ho,_⟩:=tS;exact Nat.le_of_lt (zcE (n _ _ ho))
   have Y:out.length<64:=by have:=P.length_eq;rw[zbK] at this;lia
   refine⟨.ref i.objs.size,_,(G.laid (a:=i.objs.size) (t':=t2) (o:=.lst (out.map λk=>V.ref k.2)) L m ⟨by rw[zbK,yaf];lia,_,c,dF (λk=>k.2) out,g⟩).drw d2,rfl,q _ out (G.hok.fresh m) hB (λy=>(P.mem_iff).trans (n2 y)) (P.nodup_iff.mpr n1) v⟩
end
end L2
namespace M
open PySem PySem.Spec PyProof.Rows L2 M6
section
variable {K:yaI}
def kg(a:AE):AE:=λg S Q=>a g S λr f=>∃e:List D,bz f r.d=.lst e/\(∀k∈e,bS k/\∃q r,py k=PyData.tuple (.str q::r))/\(∀k∈e,∀l∈e,aE (py k) (py l)=true)/\(∃U:List yam,U.length<63/\∀k∈e,py k∈U)/\
 ∀c:List D,(∀k∈c,k∈e)->(∀y,y∈c.map py↔y∈e.map py)->(c.map py).Nodup->c.Pairwise (λx y=>fF (py y) (py x)=false)->Q (.new (.lst c)) f
theorem uv{a:AE}:∀v H Q,aY K (kg a) v H Q->oS K (aY K a) v H Q:=by
 rintro v H Q ⟨w,X,S,Qa,ok,env,q,bk⟩;refine⟨w,X,S,_,ok,env,q,.go λr1 S1 v1 Z H1 C g j ⟨f,z,I,g2,hl,q1⟩=>?_⟩;obtain⟨U,G,F⟩:=hl;obtain⟨a,xs,rfl,h1,t⟩:=bG g j z;obtain⟨bs,rfl⟩:=jO t λk c=>(I k c).1.2.2.2;have P:f.length=bs.length:=by have:=t.length;rw[zbK] at this;exact this.symm
 have u:∀x∈(f.map py).zip bs,∃k∈f,x.1=py k:=λx h=>by
  obtain⟨k,c,e⟩:=zcu.mp (zbN h).1;exact⟨k,c,e.symm⟩
 have ez:(f.map py).zip bs=(f.zip bs).map λx=>(py x.1,x.2):=by rw[List.zip_map_left];rfl
 have e1:((f.map py).zip bs).map (λk=>V.ref k.2)=bs.map V.ref:=by
  have:((f.map py).zip bs).map (·.2)=bs:=List.map_snd_zip (by rw[zbK];lia);rw[<-this,zct,this];rfl
 have e2:((f.map py).zip bs).map (·.1)=f.map py:=zbB (by rw[zbK];lia);refine⟨a,(f.map py).zip bs,rfl,by rw[e1];exact cV.of h1,cD g t (λk c=>(I k c).1),λx h=>?_,λx h y hy=>?_,⟨U,G,λx h=>by obtain⟨k,c,e⟩:=u x h;rw[e];exact F k c⟩,λl out O s i o n=>?_⟩
 ·obtain⟨k,c,e⟩:=u x h;rw[e];exact(I k c).2
 ·obtain⟨k,c,e⟩:=u x h;obtain⟨k',E,e'⟩:=u y hy;rw[e,e'];exact g2 k c k' E
 ·rw[ez] at s;obtain⟨m,L,rfl⟩:=mw s;have e3:(zcP (λk:yam×Addr=>V.ref k.2) (m.map λx=>(py x.1,x.2)))=m.map λx=>V.ref x.2:=by rw[zct];rfl
  have W:zcP (λx:yam×Addr=>x.1) (m.map λx=>(py x.1,x.2))=(m.map (·.1)).map py:=by rw[zct,zct];rfl
  rw[e3];rw[W] at o;rw[e2,W] at i;refine bk (.new (.lst (m.map (·.1)))) S1 _ Z _ C (g.alloc O) (g.fresh O ⟨_,rfl,dM λx h=>kZ t x (L x h)⟩) (q1 _ (λk c=>?_) i o ?_)
  ·obtain⟨x,Y,rfl⟩:=zcu.mp c;exact(zbN (L x Y)).1
  ·rw[zbf] at n⊢;exact n
end
section
variable {X:Cx}{e:Expr}{p p2 pos pos2:Pos}
theorem gF{f:AE}{k:Nat}(h:aQ k X.A)(m:X.calm=true)(j:Gl X "sorted")(i:X.mg "sorted"=none)(c:Gl X "set")(a:X.mg "set"=none)(l:GE X e f)(g:notStar e=true:=by rfl):
  GE X (.Call (.Name "sorted" p) [.Call (.Name "set" p2) [e] [] pos2] [] pos) (kg f):=⟨mE (L2.gF h m j i c a l.p g) uv⟩
theorem BP{j:Nat}{W:yak}(a:aQ j X.A)(c:X.w=W:=by rfl):kX X (yan .NotIn) (KO W true):=by
 subst c;exact BQ a
end
end M
namespace L2
open PySem PySem.Spec PyProof.Rows
theorem EL{X:Cx}:fG X (yan .IsNot) (λx y H Q=>∃i j,x=.bl i/\y=.bl j/\Q (.bl (!decide (i=j))) H):=by
 intro a s f H x y v u Q I e c h;obtain⟨i,j,rfl,rfl,q⟩:=h;obtain rfl:v=.bool i:=e;obtain rfl:u=.bool j:=c;exact wpAny_isNot_plain (by cases i<;>cases j<;>rfl) (aX I q (by cases i<;>cases j<;>rfl))
end L2
namespace M
open PySem PySem.Spec PyProof.Rows L2
def Hu:A2:=λx y S Q=>∃i j,x=.bl i/\y=.bl j/\Q (.dat (.bl (!decide (i=j)))) S
theorem Jx{X:Cx}:kX X (yan .IsNot) Hu:=⟨m2 L2.EL λx y H Q h=>by
 obtain⟨w,d,e,S,f,ok,c,a,⟨i,j,rfl,rfl,q⟩,bk⟩:=h;exact⟨i,j,iI c rfl,iI a rfl,bk.dat .refl ok .bl q⟩⟩
end M
namespace L2
open PySem
section
variable {K:yaI}{mg:Str->Option yai}{C:Addr}
structure lJ(K:yaI)(x:Str)(st:Stmt):Prop where
 ex:∃f oc od kV doc pm an cdv ct osl,zcD K yaq x=some (some (.ref f))/\K.lookup f=some ⟨oc,od,.func (zcC x x (cO st) (bw st) (ai st) .none kV doc pm an cdv ct),osl⟩/\zce K cdv x=true/\zcd K (.ref f)=true
structure pZ(K:yaI)(C:Addr)(m q:Str)(st:Stmt):Prop where
 ex:∃f oc od kV doc pm an cdv ct osl,zcc K (.ref C) m=some (some (.ref f))/\K.lookup f=some ⟨oc,od,.func (zcC m q (cO st) (bw st) (ai st) .none kV doc pm an cdv ct),osl⟩/\zce K cdv q=true/\zcd K (.ref f)=true/\zcB K (.ref f)=true
theorem lJ.of{x:Str}{st:Stmt}{f:Addr}{m:yai}{j n:Option Addr}{g:Array (Option yai)}{kV h i e ct:yai}(a:zcD K yaq x=some (some (.ref f)))(l:K.lookup f=some ⟨m,j,.func (zcC x x (cO st) (bw st) (ai st) .none kV h i n e ct),g⟩)(c:zce K e x=true)(k:zcd K (.ref f)=true):lJ K x st:=⟨_,_,_,_,_,_,_,_,_,_,a,l,c,k⟩
theorem pZ.of{m q:Str}{st:Stmt}{f:Addr}{o:yai}{n s:Option Addr}{g:Array (Option yai)}{kV h j e ct:yai}(a:zcc K (.ref C) m=some (some (.ref f)))(l:K.lookup f=some ⟨o,n,.func (zcC m q (cO st) (bw st) (ai st) .none kV h j s e ct),g⟩)(c:zce K e q=true)(k:zcd K (.ref f)=true)(i:zcB K (.ref f)=true):pZ K C m q st:=⟨_,_,_,_,_,_,_,_,_,_,a,l,c,k,i⟩
theorem lJ.src{x:Str}{st:Stmt}{ps:List Str}{h:Heap}(e:lJ K x st)(X:K.In h)(G:h.Ns yaq mg)(b:∀(kV g j:yai)(m:Option Addr)(i ct:yai)(us:List yai),us.length=ps.length->yaA (zcC x x (cO st) (bw st) (ai st) .none kV g j m i ct) ⟨us,[]⟩=pure (ps.zip us)):Src K mg x ps st:=by
 obtain⟨f,q,o,kV,g,j,m,i,ct,n,a,l,c,k⟩:=e.ex;exact J.HQ X G a l c k b
theorem pZ.src{m q:Str}{st:Stmt}{ps:List Str}(e:pZ K C m q st)(b:∀(kV g j:yai)(n:Option Addr)(h ct:yai)(us:List yai),us.length=ps.length->yaA (zcC m q (cO st) (bw st) (ai st) .none kV g j n h ct) ⟨us,[]⟩=pure (ps.zip us)):M.iz K C m q ps st:=by
 obtain⟨f,t,s,kV,g,j,n,h,ct,o,a,l,c,k,i⟩:=e.ex;exact⟨f,_,gc (st:=st) l c k,⟨a,i,k⟩,(gc (st:=st) l c k).binds b⟩
end
end L2
theorem L2.cM{N P:List PySem.Str}{a:PySem.Scope}(h1:a.kind=.function:=by rfl)(i:a.isCoroutine=false:=by rfl)(h:a.isGenerator=false:=by rfl)(g:N.Nodup:=by decide+kernel)(f:N.take P.length=P:=by rfl)(e:∀x∈P,a.names.lookup x=some .local∨a.names.lookup x=some .cell:=by decide+kernel)(c:∀y∈a.names,y.2≠ .free:=by decide+kernel):L2.az N P a:=⟨h1,i,h,g,f,e,c⟩
namespace M
open PySem L2
theorem ow{X:Cx}{e:Expr}{es:List Expr}{a p:Pos}{k j:Nat}{ps:List Str}{sp:AN}{t:AA}{x:Str}(D:Def X.prog X.w X.K X.mg X.base k x ps (aM X.K sp))(g:aQ j X.A)(l:GA X (e::es) t)(h:k<=j:=by decide)(i:Gl X x:=by rfl)(c:(x==("__debug__":Str))=false:=by decide+kernel)(f:(e::es).all notStar=true:=by rfl):GE X (.Call (.Name x p) (e::es) [] a) (aCall sp t):=M.uI D (g.mono h) i l c f
end M
namespace K38
open PySem L2
noncomputable def top(i:Nat):Stmt:=PySem.Challenge.pw_pathask_k38_what_is_closed.main.body.getD i (.Pass ⟨0,0,0,0⟩)
noncomputable abbrev Bd:Stmt:=top 23
noncomputable abbrev yj:List Str:=["_law_script","_law_k"]
noncomputable abbrev jJ:List Str:=["_law_script","_law_k"]
theorem Ih:az yj jJ (ai Bd):=L2.cM
noncomputable abbrev uw:Stmt:=top 26
noncomputable abbrev tQ:List Str:=[]
noncomputable abbrev fP:List Str:=[]
theorem Eb:az tQ fP (ai uw):=L2.cM
noncomputable abbrev uy:Stmt:=top 27
noncomputable abbrev tT:List Str:=[]
noncomputable abbrev fQ:List Str:=[]
theorem Ec:az tT fQ (ai uy):=L2.cM
noncomputable abbrev A7:Stmt:=top 31
noncomputable abbrev yd:List Str:=["_law_way","_law_number"]
noncomputable abbrev jD:List Str:=["_law_way","_law_number"]
theorem Ia:az yd jD (ai A7):=L2.cM
noncomputable abbrev uD:Stmt:=top 24
noncomputable abbrev tX:List Str:=["_law_cell","_law_sizes","_law_found","_law_figures","_law_k","_law_mixed"]
noncomputable abbrev eW:List Str:=["_law_cell","_law_sizes"]
theorem eY:az tX eW (ai uD):=L2.cM
structure Txt(K:yaI)(mg:Str->Option yai)(C fi G gi:Addr):Prop where
 isinstance:mg "isinstance"=none
 dict:mg "dict"=none
 reversed:mg "reversed"=none
 len:mg "len"=none
 tuple:mg "tuple"=none
 list:mg "list"=none
 range:mg "range"=none
 sorted:mg "sorted"=none
 set:mg "set"=none
 all:mg "all"=none
 bool:mg "bool"=none
 any:∃t,mg "ANY"=some (.str "*" t)
 My:∃t,mg "MOST_KNOTS"=some (.int 40 t)
 HL:∃t,mg "MOST_TIES"=some (.int 300 t)
 JG:mg "Web"=some (.ref C)
 cl:ud K C
 E1:Mk K C fi
 eT:dw K C "marked"
 n_tied:dw K C "tied"
 n_near:dw K C "near"
 mg_Ground:mg "Ground"=some (.ref G)
 clG:ud K G
 mksG:Mk K G gi
 n_nearG:dw K G "near"
 n_markedG:dw K G "marked"
 n_pathsG:dw K G "paths"
section
variable {X:Cx}{pos:Pos}{mg:Str->Option yai}{K:yaI}{C fi G gi:Addr}
theorem G9{x:Str}{i:Int}(e:∃t,mg x=some (.int i t))(c:Gl X x)(a:X.mg=mg)(hd:(x==("__debug__":Str))=false):M.GE X (.Name x pos) (M.aC (.int i)):=by
 obtain⟨t,e⟩:=e;exact M.k9 (v:=.int i) c (by rw[a];exact e) ⟨t,rfl⟩ (λ_=>.int) hd
theorem MM{x y:Str}(e:∃t,mg x=some (.str y t))(c:Gl X x)(a:X.mg=mg)(hd:(x==("__debug__":Str))=false):M.GE X (.Name x pos) (M.aC (.str y)):=by
 obtain⟨t,e⟩:=e;exact M.k9 (v:=.str y) c (by rw[a];exact e) ⟨t,rfl⟩ (λ_=>.str) hd
theorem Txt.Jh(T:Txt K mg C fi G gi)(c:Gl X "ANY":=by rfl)(a:X.mg=mg:=by rfl):M.GE X (.Name "ANY" pos) (M.aC (.str "*")):=MM T.any c a (by decide+kernel)
theorem Txt.oz(T:Txt K mg C fi G gi)(c:Gl X "MOST_KNOTS":=by rfl)(a:X.mg=mg:=by rfl):M.GE X (.Name "MOST_KNOTS" pos) (M.aC (.int 40)):=G9 T.My c a (by decide+kernel)
theorem Txt.qp(T:Txt K mg C fi G gi)(c:Gl X "MOST_TIES":=by rfl)(a:X.mg=mg:=by rfl):M.GE X (.Name "MOST_TIES" pos) (M.aC (.int 300)):=G9 T.HL c a (by decide+kernel)
end
open M
theorem sz{n:Nat}(h:decide (n<=100)=true):n<=yag:=by rw[yaf];have:=of_decide_eq_true h;lia
theorem aS{ds:List D}{i:Int}{S:aA}{Q:AK}:vJ (.tup ds) (.int i) S Q=∃e,fS ds i=some e/\Q (.dat e) S:=rfl
theorem bI{ds:List D}{i:Int}{S:aA}{Q:AK}:vJ (.lst ds) (.int i) S Q=∃e,fS ds i=some e/\Q (.dat e) S:=rfl
theorem gf{α:Type}{a:α}{r:List α}:fS (a::r) (0:Int)=some a:=(dj (j:=0) rfl:fS (a::r) ((0:Nat):Int)=some a)
theorem kJ{α:Type}{a b:α}{r:List α}:fS (a::b::r) (1:Int)=some b:=(dj (j:=1) rfl:fS (a::b::r) ((1:Nat):Int)=some b)
theorem at2{α:Type}{a b c:α}{r:List α}:fS (a::b::c::r) (2:Int)=some c:=(dj (j:=2) rfl:fS (a::b::c::r) ((2:Nat):Int)=some c)
theorem PR{α:Type}{a b c d:α}{r:List α}:fS (a::b::c::d::r) (3:Int)=some d:=(dj (j:=3) rfl:fS (a::b::c::d::r) ((3:Nat):Int)=some d)
theorem Hr{ds:List D}{z:Nat}(h:z<ds.length):∃e,fS ds (z:Int)=some e/\e∈ds:=⟨ds[z],dj (zak h),zby h⟩
theorem pick{ds:List D}{z:Nat}{S:aA}{Q:AK}(h:z<ds.length)(k:∀e∈ds,Q (.dat e) S):vJ (.lst ds) (.int z) S Q:=by
 obtain⟨e,c,a⟩:=Hr h;exact⟨e,c,k e a⟩
inductive Lf where
 |stay|step (b:Bool) (x:Str)|mk (b:Bool) (m:Str)
noncomputable def side(b:Bool):Str:=if b then "on" else "back"
noncomputable def Ms(b:Bool):Str:=if b then "at" else "off"
noncomputable def lD:Lf->D
 |.stay=>.tup [.str "stay"]
 |.step b x=>.tup [.str "step",.str (side b),.str x]
 |.mk b m=>.tup [.str (Ms b),.str m]
noncomputable def WD:List Str:=["a","ab","stay","*"]
noncomputable def MK:List Str:=["a","many"]
def NY:Lf->Prop
 |.stay=>True
 |.step _ x=>x∈WD
 |.mk _ m=>m∈MK
theorem zR{x:Str}(h:x∈WD):cP x=true:=by
 simp only[WD,zcg,zbA,or_false] at h;rcases h with rfl|rfl|rfl|rfl<;>decide+kernel
theorem mV{x:Str}(h:x∈MK):cP x=true:=by
 simp only[MK,zcg,zbA,or_false] at h;rcases h with rfl|rfl<;>decide+kernel
theorem lz{m:Str}:∀{mg:List Str},K7 (.str m) mg=decide (m∈mg)
 |[]=>rfl
 |a::r=>by
  have c:=lz (m:=m) (mg:=r);unfold K7 at c⊢;rw[zci,c];simp only[MC];by_cases f:m=a<;>by_cases e:m∈r<;>simp[f,e]
noncomputable def hold(l:Lf)(a:List Str):Bool:=match l with
 |.stay=>true
 |.step _ _=>false
 |.mk b m=>decide (m∈a)==b
def texts(ss:List Str):Prop:=ss.length<=50/\∀x∈ss,cP x=true
local macro_rules
 | `(tactic| push_cast [$xs,*]) => `(tactic| simp only [$xs,*,KG,Nt,C7,Pd,Nu,aCall,ju,gy,fN,aC,Ht,Pb,aB,CY,aIf,tG,kW,C0,Pf,Hs,C6,bZ,C1,vN,Pc,CZ,qL,C5,zv,nQ,fy,fu,EZ,E6,E4,KP,CU,CT,Fw,Fv,HJ,DV,DT,true_and,KL,vI,AR,AJ,Ea,AQ,rq,eB,AL,zam,zan,zaP,List.set_cons_succ,zcJ.injEq,exists_eq_left',zcN.injEq,and_true,D.ty.injEq,D.bl.injEq,D.int.injEq,D.str.injEq,and_assoc,exists_and_left,exists_eq_left,exists_and_right,IS,Ey,zaT,if_true,if_false,Bool.not_true,Bool.not_false])
section
variable {P:yaj}{w:yak}{K:yaI}{mg:Str->Option yai}{base:Heap}{C fi G gi:Addr}
def AB:AN:=λa S Q=>∃(ns:List Int)(k:Nat),a=[.k8 ns,.int k]/\∀z:Int,Q (.dat (.int z)) S
theorem Ku(T:Txt K mg C fi G gi)(F:Src K mg "_law_cell_at" jJ Bd):Def P w K mg base 1 "_law_cell_at" jJ (aM K AB):=by
 refine iu F Ih (λc S Q h=>?_) (λf e A outer s H E g=>?_)
 ·obtain⟨ns,k,rfl,_⟩:=h;rfl
 ·refine⟨_,(M.ah (M.bR (M.aH M.EX (M.pv 1) (M.mL M.fK (by rfl) T.len (by decide+kernel) (M.au (M.pv 0) M.af)) (bf _)) (M.aj (M.aK (M.ao M.aF (M.pv 0) (M.pv 1) (λ_ _=>rfl)))) M.aV) (M.aj (M.aK M.aa))),λc S Q h=>?_⟩;obtain⟨ns,k,rfl,q⟩:=h;have a:aG yj [.k8 ns,.int k]=[some (.k8 ns),some (.int k)]:=rfl;rw[a];push_cast[true_and];refine⟨ns.length,rfl,nh (λh=>?_) (λh=>q _)⟩;have h:k<ns.length:=by have:=of_decide_eq_true h;lia
  exact⟨ns[k],dj (zak h),eZ rfl (q _)⟩
def p7:AN:=λa S Q=>a=[]/\Q (.new (.lst [.str "a",.str "ab",.str "stay"])) S
theorem Fz(T:Txt K mg C fi G gi)(F:Src K mg "_law_words" fP uw):Def P w K mg base 1 "_law_words" fP (aM K p7):=by
 refine iu F Eb (λc S Q h=>?_) (λf e A outer s H E g=>?_)
 ·obtain⟨rfl,_⟩:=h;rfl
 ·refine⟨_,(M.aj (M.aK (M.aZ (M.au M.aW (M.au M.aW (M.au M.aW M.af)))))),λc S Q h=>?_⟩;obtain⟨rfl,q⟩:=h;have a:aG tQ []=[]:=rfl;rw[a];push_cast[true_and];exact⟨sz rfl,qg rfl q⟩
def p9:AN:=λa S Q=>a=[]/\Q (.new (.lst [.str "a",.str "many"])) S
theorem FD(T:Txt K mg C fi G gi)(F:Src K mg "_law_marks" fQ uy):Def P w K mg base 1 "_law_marks" fQ (aM K p9):=by
 refine iu F Ec (λc S Q h=>?_) (λf e A outer s H E g=>?_)
 ·obtain⟨rfl,_⟩:=h;rfl
 ·refine⟨_,(M.aj (M.aK (M.aZ (M.au M.aW (M.au M.aW M.af))))),λc S Q h=>?_⟩;obtain⟨rfl,q⟩:=h;have a:aG tT []=[]:=rfl;rw[a];push_cast[true_and];exact⟨sz rfl,qg rfl q⟩
def Ar:AN:=λc S Q=>∃(a b:Nat),c=[.int a,.int b]/\a<5/\∀l:Lf,NY l->Q (.dat (lD l)) S
theorem Kh(T:Txt K mg C fi G gi)(F:Src K mg "_law_leaf" jD A7)(g:Def P w K mg base 1 "_law_words" fP (aM K p7))(i:Def P w K mg base 1 "_law_marks" fQ (aM K p9)):Def P w K mg base 2 "_law_leaf" jD (aM K Ar):=by
 refine iu F Ia (λt S Q h=>?_) (λf u A outer s H E m=>?_)
 ·obtain⟨a,b,rfl,_⟩:=h;rfl
 ·refine⟨_,(M.ah (M.bR (M.aH (M.fB m) (M.pv 0) M.aa (bf _)) (M.aj (M.aK (M.aP (M.au M.aW M.af)))) M.aV) (M.ah (M.bR (M.aH M.EX (M.pv 0) M.aa (bf _)) (M.aj (M.aK (M.aP (M.au M.aW (M.au (M.ao M.aF (M.aZ (M.au M.aW (M.au M.aW M.af))) (M.av M.b7 (M.pv 1) M.aa) (λ_ _=>rfl)) (M.au (M.ao M.aF (M.av M.bB (M.i6 g (m.mono (by decide)) (by rfl)) (M.aZ (M.au M.aW M.af))) (M.av M.b7 (M.av M.qt (M.pv 1) M.aa) M.aa) (λ_ _=>rfl)) M.af)))))) M.aV) (M.aj (M.aK (M.aP (M.au (M.ao M.aF (M.aZ (M.au M.aW (M.au M.aW M.af))) (M.av M.GU (M.pv 0) M.aa) (λ_ _=>rfl)) (M.au (M.ao M.aF (M.i6 i (m.mono (by decide)) (by rfl)) (M.av M.b7 (M.pv 1) M.aa) (λ_ _=>rfl)) M.af))))))),λt S Q h=>?_⟩;obtain⟨a,b,rfl,v,q⟩:=h;have o:aG yd [.int a,.int b]=[some (.int a),some (.int b)]:=rfl;rw[o];push_cast[true_and];refine nh (λh=>⟨sz rfl,eZ rfl (q .stay trivial)⟩) (λh=>?_);have z:¬((a:Int)=0):=by simpa using h
  refine nh (λn=>?_) (λn=>?_)
  ·refine⟨sz rfl,by decide,?_⟩;rw[show((b:Int) % 2)=((b % 2:Nat):Int) by lia,show((b:Int) / 2 % 4)=((b / 2 % 4:Nat):Int) by lia];refine pick (by show b % 2<2;lia) λe j=>?_;obtain⟨c,rfl⟩:∃c,e=.str (side c):=by
    simp only[zcg,zbA,or_false] at j;rcases j with rfl|rfl
    ·exact⟨true,rfl⟩
    ·exact⟨false,rfl⟩
   refine⟨rfl,sz rfl,sz rfl,⟨by decide,by decide⟩,by decide,?_⟩;refine pick (by show b / 2 % 4<4;lia) λe j=>?_;obtain⟨x,rfl,l⟩:∃x,e=.str x/\x∈WD:=by
    simp only[zbw,zbR,zcg,zbA,or_false] at j;rcases j with rfl|rfl|rfl|rfl<;>exact⟨_,rfl,by simp[WD]⟩
   exact⟨sz rfl,eZ rfl (q (.step c x) l)⟩
  ·have y:¬((a:Int)<3):=by simpa using n
   refine⟨sz rfl,?_⟩;rw[show((b:Int) % 2)=((b % 2:Nat):Int) by lia,show((a:Int) - 3)=((a - 3:Nat):Int) by lia];refine pick (by show a - 3<2;lia) λe j=>?_;obtain⟨c,rfl⟩:∃c,e=.str (Ms c):=by
    simp only[zcg,zbA,or_false] at j;rcases j with rfl|rfl
    ·exact⟨true,rfl⟩
    ·exact⟨false,rfl⟩
   refine⟨rfl,by decide,?_⟩;refine pick (by show b % 2<2;lia) λe j=>?_;obtain⟨x,rfl,l⟩:∃x,e=.str x/\x∈MK:=by
    simp only[zcg,zbA,or_false] at j;rcases j with rfl|rfl<;>exact⟨_,rfl,by simp[MK]⟩
   exact⟨sz rfl,eZ rfl (q (.mk c x) l)⟩
noncomputable def nL(ns:List Nat):List D:=ns.map λn:Nat=>D.int n
theorem qj:∀ns:List Nat,ck (nL ns)=true
 |[]=>rfl
 |n::ns=>by
  have:=qj ns;unfold nL at this⊢;simp only[zch,ck,dz,this,zco]
theorem mU{i j:Int}{S:aA}{Q:AK}:vG (.int i) (.int j) S Q=(zJ i j/\Q (.dat (.int (i*j))) S):=rfl
def k7:AN:=λf S Q=>∃(z:Int)(c:List Nat),f=[.int z,.lst (nL c)]/\(∀n∈c,0<n/\n<1000)/\c.length<=100/\∀e:List Nat,e.length=c.length->(∀(i:Nat)(a b:Nat),e[i]? =some a->c[i]? =some b->a<b)->Q (.new (.lst (nL e))) S
theorem FH(T:Txt K mg C fi G gi)(F:Src K mg "_law_draws" eW uD):Def P w K mg base 1 "_law_draws" eW (aM K k7):=by
 refine iu F eY (λds S Q h=>?_) (λf cdv A outer s H E l=>?_)
 ·obtain⟨z,g,rfl,_⟩:=h;rfl
 ·refine⟨_,(M.ah (M.aO (i:=2) eY.nd rfl (Or.inl rfl) (M.nK (M.aZ M.af))) (M.ah (M.aO (i:=3) eY.nd rfl (Or.inl rfl) (M.av M.GU (M.pv 0) (M.av M.BO M.aa M.aa))) (M.ah (M.cA PassesOwn.never rfl (M.bN (by rfl) T.range (M.au (M.mL M.fK (by rfl) T.len (by decide+kernel) (M.au (M.pv 1) M.af)) M.af)) (M.aq (i:=4) eY.nd rfl (Or.inl rfl)) (M.ah (M.aO (i:=5) eY.nd rfl (Or.inl rfl) (M.av M.b7 (M.av M.dB (M.av M.bB (M.av M.b7 (M.pv 0) M.aa) M.aa) (M.av M.bB (M.av M.dB (M.pv 4) (M.pv 4)) M.aa)) M.aa)) (M.ah (M.aO (i:=5) eY.nd rfl (Or.inl rfl) (M.av M.b7 (M.av M.dB (M.av M.bB (M.av M.bB (M.av M.dB (M.pv 5) (M.pv 5)) (M.av M.dB M.aa (M.pv 4))) M.aa) M.aa) M.aa)) (M.ah (M.bR (M.aH M.JB (M.pv 0) (M.av M.BO M.aa M.aa) (bf _)) (M.aj (M.aO (i:=5) eY.nd rfl (Or.inl rfl) (M.pv 3))) M.aV) (M.ah (M.bL (M.iD PySem.F.plainAttrs_list PySem.F.slot_list_append PySem.F.type_list_append M.jd (M.pv 2) (M.au (M.av M.b7 (M.pv 5) (M.ao M.aF (M.pv 1) (M.pv 4) (λ_ _=>rfl))) M.af))) (M.aj (M.aO (i:=3) eY.nd rfl (Or.inl rfl) (M.av M.qt (M.pv 3) (M.ao M.aF (M.pv 1) (M.pv 4) (λ_ _=>rfl)))))))))) (M.aj (M.aK (M.pv 2)))))),λds S Q h=>?_⟩;obtain⟨z,g,rfl,hs,hl,q⟩:=h;have e0:aG tX [.int z,.lst (nL g)]=[some (.int z),some (.lst (nL g)),none,none,none,none]:=rfl;rw[e0];push_cast[cF,nQ,gy,iy,kO];refine⟨zcI _,⟨by decide,by decide,by decide⟩,g.length,by simp[gq,nL],by lia,by lia,?_⟩;refine bY (λrest δ S'=>∃(e:List Nat)(Z:Int)(v4 v5:Option D),δ=[some (.int z),some (.lst (nL g)),some (.loc S.length),some (.int Z),v4,v5]/\S'=S++[some (.lst (nL e))]/\rest=((zcK g.length).drop e.length).map (λa:Nat=>D.int a)/\e.length<=g.length/\∀(i a b:Nat),e[i]? =some a->g[i]? =some b->a<b) ?_ ?_ _ _ _ ⟨[],_,none,none,rfl,rfl,by simp[b9],zcI _,λi a b h=>by simp at h⟩
  ·rintro δ S' ⟨e,Z,v4,v5,rfl,rfl,l,hle,m⟩;have L:e.length=g.length:=by
    have:=congrArg zcG l;simp at this;lia
   refine⟨trivial,_,rfl,?_⟩;exact qh (n:=S.length) (zcH _) (qj e) (by simp) (by simp) (q e L m)
  ·rintro t rest δ S' N' ⟨e,Z,v4,v5,rfl,rfl,l,hle,m⟩ hN';have Y:e.length<g.length:=by
    rcases zcz e.length g.length with h|h
    ·exact h
    ·rw[List.drop_of_length_le (by simpa using h)] at l;simp at l
   rw[zag (by simpa using Y),zch,List.getElem_range] at l;injection l with e1 e2;subst e1;subst e2;have hb:g[e.length]? =some g[e.length]:=zak Y;obtain⟨b0,b1⟩:=hs _ (zby Y);generalize g[e.length]=b at hb b0 b1;have O:fS (nL g) ((e.length:Nat):Int)=some (.int (b:Int)):=dj (by rw[nL,zaZ,hb];rfl);have es:bz (S++[some (.lst (nL e))]) (.loc S.length)=.lst (nL e):=by simp[bz,MO.d]
   have W:∀(o:Int)(I:Option D),JX "list" (bz (S++[some (.lst (nL e))]) (.loc S.length))/\vJ (.lst (nL g)) (.int ((e.length:Nat):Int)) (S++[some (.lst (nL e))]) (λy S2=>aI (λx j=>0<j) (λi j=>D.int (i % j)) (.int o) y.d S2 λx X=>qN (.loc S.length) [x.d] X λx X=>vJ (.lst (nL g)) (.int ((e.length:Nat):Int)) X λy S2=>aI K0 (λi j=>D.int (i / j)) (.int Z) y.d S2 λr X=>N' [some (.int z),some (.lst (nL g)),some (.loc S.length),some r.d,some (.int ((e.length:Nat):Int)),I] X):=λo I=>by
    rw[es];refine⟨rfl,?_⟩;push_cast[bI,O,zcJ.injEq,exists_eq_left'];have h0:=Int.emod_nonneg o (show(b:Int)≠0 by lia);have h1:=zaR o (show(0:Int)<b by lia);obtain⟨c,hc⟩:∃c:Nat,o % (b:Int)=c:=⟨(o % b).toNat,by lia⟩
    rw[hc] at h1⊢;refine⟨by lia,S.length,nL e,_,rfl,rfl,by simp,by rw[nL,zbK,yaf];lia,?_⟩;rw[zav _ _ (zcH _),zcA];push_cast[bI,O,zcJ.injEq,exists_eq_left'];refine⟨⟨by lia,by lia⟩,hN' _ _ ⟨e++[c],_,_,_,rfl,by simp[nL],by rw[zaL];rfl,by rw[zaL];exact Y,λi x y U h3=>?_⟩⟩;rcases zcz i e.length with h|h
    ·rw[zaf h] at U;exact m i x y U h3
    ·rw[zab h] at U;obtain rfl:i=e.length:=by
      have:=(zae.mp U).1;simp at this;lia
     rw[hb] at h3;cases h3;simp at U;lia
   refine⟨trivial,?_⟩;push_cast[mU];have b0:=Int.emod_nonneg z (show(1000003:Int)≠0 by decide);have b1:=zaR z (show(0:Int)<1000003 by decide);refine⟨by decide,.inl ⟨by lia,by lia⟩,.inl ⟨by lia,by lia⟩,by decide,?_⟩;generalize (z % 1000003+1)*((e.length:Int)*(e.length:Int)+48271)=u;have c0:=Int.emod_nonneg u (show(65537:Int)≠0 by decide);have c1:=zaR u (show(0:Int)<65537 by decide);generalize u % 65537=v at c0 c1⊢;refine⟨.inl ⟨by lia,by lia⟩,.inl ⟨by decide,by decide⟩,.inr ⟨by decide,by decide⟩,by decide,⟨by decide,by decide,by decide⟩,nh (λ_=>?_) (λ_=>?_)⟩
   ·push_cast[xX];exact W _ _
   ·push_cast[xX];exact W _ _
end
section
open M6
noncomputable abbrev T3(t:Str×Str×Str):D:=.tup [.str t.1,.str t.2.1,.str t.2.2]
theorem o7(t:Str×Str×Str):py (T3 t)=.tuple [.str t.1,.str t.2.1,.str t.2.2]:=by simp[T3,py,gp]
theorem By{a b:Str×Str×Str}(h:py (T3 a)=py (T3 b)):a=b:=by
 obtain⟨j,i,g⟩:=a;obtain⟨f,e,c⟩:=b;simp only[o7,PyData.tuple.injEq,zcN.injEq,PyData.str.injEq] at h;rw[h.1,h.2.1,h.2.2.1]
noncomputable def gH(t:Str×Str×Str):Bool:=cP t.1&&cP t.2.1&&cP t.2.2
theorem good3{t:Str×Str×Str}(h:gH t=true):bS (T3 t):=by
 unfold gH at h;rw[zbG,zbG] at h;refine⟨by simp[T3,dz,ck],?_,?_,_,rfl⟩
 ·rw[o7];simp[bF,cL,PyData.canLay0,gJ h.1.1,gJ h.1.2,gJ h.2]
 ·rw[o7];simp[PyData.depth,PyData.depthAll]
theorem O5(a b:Str×Str×Str):aE (py (T3 a)) (py (T3 b))=true:=by
 rw[o7,o7];simp[aE,dh]
theorem oX{ts:List (Str×Str×Str)}(h:∀t∈ts,gH t=true):Ds (ts.map T3):=
 ⟨λk a=>by obtain⟨t,c,rfl⟩:=zcu.mp a;exact good3 (h t c),λk a=>by obtain⟨t,_,rfl⟩:=zcu.mp a;exact⟨_,_,o7 t⟩,λk a l e=>by obtain⟨t,_,rfl⟩:=zcu.mp a;obtain⟨u,_,rfl⟩:=zcu.mp e;exact O5 t u⟩
theorem JZ(ts:List (Str×Str×Str))(t:Str×Str×Str):gb (ts.map T3) (T3 t)=decide (t∈ts):=by
 unfold gb;rw[zcs];by_cases h:t∈ts
 ·rw[yDt h];exact zbC.mpr ⟨t,h,by simp⟩
 ·rw[yDf h];refine zaY.mpr λx a z=>h ?_;have:py (T3 x)=py (T3 t):=of_decide_eq_true z;rw[<-By this];exact a
theorem put3{ts:List (Str×Str×Str)}{t:Str×Str×Str}(h:t ∉ ts):putN (ts.map T3) (T3 t)=(ts++[t]).map T3:=by
 have:=JZ ts t;rw[yDf h] at this;unfold putN;unfold gb at this;rw[this,yIn (by decide),zbS];rfl
theorem zY{ts:List (Str×Str×Str)}{ks:List D}(a:ks.Perm (ts.map T3)):∃us:List (Str×Str×Str),us.Perm ts/\ks=us.map T3:=eO a
end
open PySem PySem.Spec L2 M M6 PyProof.Rows
abbrev Kn:=Str×List Str
abbrev Ti:=Str×Str×Str
noncomputable abbrev fl:List Str:=["marked","tied","near"]
structure Kc where
 nm:Str
 ml:List Str
 mc:Nat
 nc:Nat
noncomputable def Kc.kn(c:Kc):Kn:=(c.nm,c.ml)
noncomputable def mR(a:List Kc):List Str:=a.map (·.nm)
noncomputable def kk(a:List Kc):List Key:=a.map λc=>.inr c.nm
noncomputable def mO(a:List Str):MO:=.dct (a.map Sum.inr) (a.map λ_=>.bl true)
def stp(ts:List Ti)(x:Str)(j:Ti):Prop:=(j.1="on"/\(x,j.2.1,j.2.2)∈ts)∨(j.1="back"/\(j.2.2,j.2.1,x)∈ts)
noncomputable def cells(n m t e:Nat)(a:List Kc):List Nat:=n::m::t::e::(a.map (·.mc)++a.map (·.nc))
structure cg(C:Addr)(W:yak)(S:aA)(n m t e:Nat)(cs:List Kc)(ts:List Ti)(N:Str->Ti->Prop):Prop where
 at_:S[n]? =some (some (.ins C fl [.loc m,.loc t,.loc e]))
 BW:S[m]? =some (some (.dct (kk cs) (cs.map λc=>.loc c.mc)))
 ti:S[t]? =some (some (nO W (ts.map T3)))
 ne:S[e]? =some (some (.dct (kk cs) (cs.map λc=>.loc c.nc)))
 E1:∀c∈cs,S[c.mc]? =some (some (mO c.ml))
 DL:∀c∈cs,∃js:List Ti,S[c.nc]? =some (some (nO W (js.map T3)))/\js.Nodup/\js.length<=900/\(∀j∈js,gH j=true)/\∀j,j∈js↔N c.nm j
 nd:(cells n m t e cs).Nodup
 kn:(mR cs).Nodup
 tn:ts.Nodup
 mn:∀c∈cs,c.ml.Nodup
 okn:∀c∈cs,cP c.nm=true/\∀m∈c.ml,cP m=true
 qq:∀t∈ts,gH t=true
 tk:∀t∈ts,t.1∈mR cs/\t.2.2∈mR cs
 kb:cs.length<64
 mb:∀c∈cs,c.ml.length<64
 tb:ts.length<=302
def cj(C:Addr)(W:yak)(S:aA)(n:Nat)(own:List Nat)(ks:List Kn)(ts:List Ti):Prop:=∃m t e a,own=cells n m t e a/\a.map Kc.kn=ks/\cg C W S n m t e a ts (stp ts)
noncomputable abbrev nms(ks:List Kn):List Str:=ks.map (·.1)
theorem fZ(a:List Kc):nms (a.map Kc.kn)=mR a:=by unfold nms mR Kc.kn;rw[zct];rfl
structure Fr(S S':aA)(own own':List Nat):Prop where
 out:∀k,k<S.length->k ∉ own->S'[k]? =S[k]?
 len:S.length<=S'.length
 new:∀c∈own',c∈own∨S.length<=c
theorem e7{S:aA}{n:Nat}{o:Option MO}(h:S[n]? =some o):n<S.length:=by
 rcases zcz n S.length with z|z
 ·exact z
 ·rw[zau z] at h;cases h
theorem fk{S:aA}{n:Nat}{o o':Option MO}(h:S[n]? =some o):(S.set n o')[n]? =some o':=by
 rw[zbc,yIp rfl,yIp (e7 h)]
theorem aU{S:aA}{n k:Nat}{o':Option MO}(h:k≠n):(S.set n o')[k]? =S[k]?:=zaB (Ne.symm h)
theorem bu{S:aA}{n:Nat}{o:Option MO}{X:aA}(h:S[n]? =some o):(S++X)[n]? =some o:=by
 rw[zaf (e7 h)];exact h
theorem bD{S:aA}{n:Nat}{X:aA}(h:n<S.length):(S++X)[n]? =S[n]?:=zaf h
theorem aR{S:aA}{o:Option MO}:(S++[o])[S.length]? =some o:=by
 rw[zab (zcH _),zcA];rfl
theorem aT{S:aA}{n:Nat}{o:MO}(h:S[n]? =some (some o)):bz S (.loc n)=o.d:=by simp only[bz,h]
theorem qB{C:Addr}{n i:Nat}{ks a:List Str}{ds c:List D}{f:Str}{o:MO}{v:AE}{δ:bE}{S:aA}{g:gX}(e:δ[i]? =some (some (.loc n)))(m:S[n]? =some (some (.ins C ks ds)))(l:ks.length<1000)(h:∀Q:AK,Q (.dat (.loc S.length)) (S++[some o])->v δ S Q)(j:putD f (.loc S.length) ks ds=(a,c))(nx:g.nx δ ((S++[some o]).set n (some (.ins C a c)))):wL C (fN i) v f g δ S:=by
 refine h _ ⟨_,e,n,ks,ds,rfl,bu m,l,?_⟩;show g.nx δ ((S++[some o]).set n (some (.ins C (putD f (.loc S.length) ks ds).1 (putD f (.loc S.length) ks ds).2)));rw[j];exact nx
section
variable {n m t e:Nat}{cs:List Kc}
theorem PM:n∈cells n m t e cs:=by simp[cells]
theorem O8:m∈cells n m t e cs:=by simp[cells]
theorem O7:t∈cells n m t e cs:=by simp[cells]
theorem O9:e∈cells n m t e cs:=by simp[cells]
theorem Nm{c:Kc}(h:c∈cs):c.mc∈cells n m t e cs:=by
 simp only[cells,zcg,zbJ,zcu];exact .inr (.inr (.inr (.inr (.inl ⟨c,h,rfl⟩))))
theorem FO{c:Kc}(h:c∈cs):c.nc∈cells n m t e cs:=by
 simp only[cells,zcg,zbJ,zcu];exact .inr (.inr (.inr (.inr (.inr ⟨c,h,rfl⟩))))
structure Apart(n m t e:Nat)(cs:List Kc):Prop where
 nm:n≠m
 nt:n≠t
 ne:n≠e
 mt:m≠t
 me:m≠e
 te:t≠e
 nc:∀c∈cs,n≠c.mc/\n≠c.nc
 mc:∀c∈cs,m≠c.mc/\m≠c.nc
 tc:∀c∈cs,t≠c.mc/\t≠c.nc
 ec:∀c∈cs,e≠c.mc/\e≠c.nc
 cc:∀c∈cs,∀c'∈cs,c.mc≠c'.nc
 mm:(cs.map (·.mc)).Nodup
 nn:(cs.map (·.nc)).Nodup
theorem apart(h:(cells n m t e cs).Nodup):Apart n m t e cs:=by
 unfold cells at h;rw[zbM,zbM,zbM,zbM,zbg] at h;obtain⟨f,i,l,u,s,q,o⟩:=h;have P:∀{a:Nat},a ∉ (cs.map (·.mc)++cs.map (·.nc))->∀c∈cs,a≠c.mc/\a≠c.nc:=λ{a} h c g=>
  ⟨λz=>h (by rw[z];exact zaA _ (zcu.mpr ⟨c,g,rfl⟩)),λz=>h (by rw[z];exact zat _ (zcu.mpr ⟨c,g,rfl⟩))⟩
 simp only[zcg,not_or] at f i l;exact⟨f.1,f.2.1,f.2.2.1,i.1,i.2.1,l.1,P f.2.2.2,P i.2.2,P l.2,P u,λc g v j z=>o _ (zcu.mpr ⟨c,g,rfl⟩) _ (zcu.mpr ⟨v,j,rfl⟩) z,s,q⟩
theorem j6{α o:Type}{f:α->o}:∀{l:List α},(l.map f).Nodup->∀a∈l,∀b∈l,f a=f b->a=b
 |[],_,a,h,_,_,_=>by simp at h
 |x::l,hn,a,g,b,c,e=>by
  rw[zch,zbM] at hn;rcases zcg.mp g with j|g
  ·rcases zcg.mp c with i|c
   ·rw[j,i]
   ·exact absurd (show f x∈l.map f from zcu.mpr ⟨b,c,by rw[<-e,j]⟩) hn.1
  ·rcases zcg.mp c with i|c
   ·exact absurd (show f x∈l.map f from zcu.mpr ⟨a,g,by rw[e,i]⟩) hn.1
   ·exact j6 hn.2 a g b c e
end
theorem Cf(c:List Kc)(x:Str):gu (kk c) (.inr x)=decide (x∈mR c):=by
 unfold gu kk;rw[zcs];by_cases h:x∈mR c
 ·rw[yDt h];obtain⟨k,a,rfl⟩:=zcu.mp h;exact zbC.mpr ⟨k,a,by simp⟩
 ·rw[yDf h];refine zaY.mpr λk a z=>h ?_;have z:(Sum.inr k.nm:Key)=.inr x:=of_decide_eq_true z;injection z with z;exact zcu.mpr ⟨k,a,z⟩
theorem Cj:∀{a:List Kc}{x:Str},x∈mR a->∃c∈a,c.nm=x/\∀f:Kc->D,gv (kk a) (a.map f) (.inr x)=some (f c)
 |[],x,h=>by simp[mR] at h
 |k::ks,x,h=>by
  by_cases e:k.nm=x
  ·refine⟨k,zaK ..,e,λf=>?_⟩;unfold gv kk;rw[zch,zch,zaN,zbO,yDt (show(Sum.inr k.nm:Key)=.inr x by rw[e])];rfl
  ·have g:x∈mR ks:=by
    rcases zcg.mp (show x∈k.nm::mR ks from h) with z|z
    ·exact absurd z.symm e
    ·exact z
   obtain⟨c,i,l,j⟩:=Cj g;refine⟨c,zaz _ i,l,λf=>?_⟩;have:=j f;unfold gv kk at this⊢;rw[zch,zch,zaN,zbO,yDf (λz=>e (by injection z))];exact this
theorem BB{a:List Kc}{c:Kc}{f:Kc->D}(h:c.nm ∉ mR a):kR (kk a) (a.map f) (.inr c.nm) (f c)=.dct (kk (a++[c])) ((a++[c]).map f):=by
 have:=Cf a c.nm;rw[yDf h] at this;unfold gu at this;unfold kR;rw[this,yIn (by decide)];unfold kk;rw[zbS,zbS];rfl
theorem sM(a:List Str)(m:Str):gu (a.map Sum.inr) (.inr m)=decide (m∈a):=by
 unfold gu;rw[zcs];by_cases h:m∈a
 ·rw[yDt h];exact zbC.mpr ⟨m,h,by simp⟩
 ·rw[yDf h];refine zaY.mpr λk c z=>h ?_;have z:(Sum.inr k:Key)=.inr m:=of_decide_eq_true z;injection z with z;rw[<-z];exact c
theorem GQ(js:List Ti)(j:Ti)(c:js.Nodup):∃a:List Ti,putN (js.map T3) (T3 j)=a.map T3/\a.Nodup/\a.length<=js.length+1/\∀i,i∈a↔i∈js∨i=j:=by
 by_cases h:j∈js
 ·refine⟨js,?_,c,by lia,λi=>⟨.inl,λz=>z.elim id λe=>e▸h⟩⟩;have:=JZ js j;rw[yDt h] at this;unfold putN;unfold gb at this;rw[this,yIp rfl]
 ·refine⟨js++[j],put3 h,?_,by simp,λi=>by simp⟩;refine zbg.mpr ⟨c,by simp,λx g y f z=>h ?_⟩;have:y=j:=by simpa using f
  rw[<-this,<-z];exact g
theorem iR{ts js:List Ti}{x:Str}(f:js.Nodup)(h:∀j∈js,stp ts x j):js.length<=2*ts.length:=by
 have:=L2.jU (l:=js) (m:=(ts.map λt=>(("on",t.2.1,t.2.2):Ti))++(ts.map λt=>(("back",t.2.1,t.1):Ti))) f λj i=>by
  obtain⟨a,b,c⟩:=j;rcases h _ i with⟨e,g⟩|⟨e,g⟩
  ·have e:a="on":=e;subst e;exact zaA _ (zcu.mpr ⟨_,g,rfl⟩)
  ·have e:a="back":=e;subst e;exact zat _ (zcu.mpr ⟨_,g,rfl⟩)
 rw[zaL,zbK,zbK] at this;lia
section
variable {C:Addr}{W:yak}{S S':aA}{n m t e:Nat}{cs:List Kc}{ts:List Ti}{N N':Str->Ti->Prop}
theorem cg.frame(X:cg C W S n m t e cs ts N)(h:∀c∈cells n m t e cs,S'[c]? =S[c]?):cg C W S' n m t e cs ts N:=
 ⟨by rw[h _ PM];exact X.at_,by rw[h _ O8];exact X.BW,by rw[h _ O7];exact X.ti,by rw[h _ O9];exact X.ne,λc a=>by rw[h _ (Nm a)];exact X.E1 c a,λc a=>by rw[h _ (FO a)];exact X.DL c a,X.nd,X.kn,X.tn,X.mn,X.okn,X.qq,X.tk,X.kb,X.mb,X.tb⟩
theorem cg.near(X:cg C W S n m t e cs ts N){c:Kc}(g:c∈cs){js:List Ti}(h1:js.Nodup)(E:js.length<=900)(v:∀j∈js,gH j=true)(u:∀j,j∈js↔N' c.nm j)(s:∀x,x≠c.nm->∀j,N x j↔N' x j):
  cg C W (S.set c.nc (some (nO W (js.map T3)))) n m t e cs ts N':=by
 have A:=apart X.nd;obtain⟨q,F,_⟩:=X.DL c g;refine⟨by rw[aU (A.nc c g).2];exact X.at_,by rw[aU (A.mc c g).2];exact X.BW,by rw[aU (A.tc c g).2];exact X.ti,by rw[aU (A.ec c g).2];exact X.ne,λf a=>by rw[aU (A.cc f a c g)];exact X.E1 f a,λf a=>?_,X.nd,X.kn,X.tn,X.mn,X.okn,X.qq,X.tk,X.kb,X.mb,X.tb⟩;by_cases z:f.nc=c.nc
 ·have:f=c:=j6 A.nn f a c g z;subst this;exact⟨js,fk F,h1,E,v,u⟩
 ·obtain⟨h,k1,k2,o,l,i⟩:=X.DL f a;refine⟨h,by rw[aU z];exact k1,k2,o,l,λj=>(i j).trans (s f.nm (λy=>z ?_) j)⟩;rw[j6 X.kn f a c g y]
theorem cg.HL(X:cg C W S n m t e cs ts N){ts':List Ti}(h1:ts'.Nodup)(h:∀t∈ts',gH t=true)(g:∀t∈ts',t.1∈mR cs/\t.2.2∈mR cs)(f:ts'.length<=302):
  cg C W (S.set t (some (nO W (ts'.map T3)))) n m t e cs ts' N:=by
 have A:=apart X.nd;exact⟨by rw[aU A.nt];exact X.at_,by rw[aU A.mt];exact X.BW,fk X.ti,by rw[aU (Ne.symm A.te)];exact X.ne,λc a=>by rw[aU (Ne.symm (A.tc c a).1)];exact X.E1 c a,
  λc a=>by rw[aU (Ne.symm (A.tc c a).2)];exact X.DL c a,X.nd,X.kn,h1,X.mn,X.okn,h,g,X.kb,X.mb,f⟩
theorem Fr.set{own:List Nat}{k:Nat}{o:Option MO}(h:k∈own):Fr S (S.set k o) own own:=
 ⟨λi _ a=>aU λz=>a (z▸h),by rw[zbT];exact zcH _,λc h=>.inl h⟩
theorem Fr.trans{q o:aA}{i g f:List Nat}(a:Fr S q i g)(b:Fr q o g f):Fr S o i f:=by
 refine⟨λk l j=>?_,zcw a.len b.len,λc s=>?_⟩
 ·rw[b.out k (zaQ l a.len) λz=>?_,a.out k l j];rcases a.new k z with h|h
  ·exact j h
  ·lia
 ·rcases b.new c s with h|h
  ·exact a.new c h
  ·exact .inr (zcw a.len h)
end
open PySem PySem.Spec L2 M M6 PyProof.Rows
noncomputable abbrev rB:Stmt:=inClass (top 21) 0
noncomputable abbrev yh:List Str:=["self"]
noncomputable abbrev ig:List Str:=["self"]
theorem Ie:az yh ig (ai rB):=L2.cM
noncomputable abbrev A3:Stmt:=inClass (top 21) 1
noncomputable abbrev x8:List Str:=["self","name","marks"]
noncomputable abbrev jz:List Str:=["self","name","marks"]
theorem HY:az x8 jz (ai A3):=L2.cM
noncomputable abbrev AZ:Stmt:=inClass (top 21) 3
noncomputable abbrev x6:List Str:=["self","one","word","other"]
noncomputable abbrev jy:List Str:=["self","one","word","other"]
theorem HX:az x6 jy (ai AZ):=L2.cM
noncomputable abbrev II:Stmt:=inClass (top 21) 9
noncomputable abbrev DA:List Str:=["self","one","word","other"]
noncomputable abbrev nW:List Str:=["self","one","word","other"]
theorem Ly:az DA nW (ai II):=L2.cM
noncomputable abbrev A4:Stmt:=inClass (top 21) 13
noncomputable abbrev x9:List Str:=["self","name"]
noncomputable abbrev gg:List Str:=["self","name"]
theorem HZ:az x9 gg (ai A4):=L2.cM
noncomputable abbrev A8:Stmt:=inClass (top 21) 14
noncomputable abbrev ye:List Str:=["self","name","marks"]
noncomputable abbrev jF:List Str:=["self","name","marks"]
theorem Ic:az ye jF (ai A8):=L2.cM
noncomputable abbrev wK:Stmt:=inClass (top 21) 15
noncomputable abbrev qQ:List Str:=["self","one","word","other"]
noncomputable abbrev jE:List Str:=["self","one","word","other"]
theorem Ib:az qQ jE (ai wK):=L2.cM
section
variable {C:Addr}{W:yak}{S S':aA}{n m t e:Nat}{cs:List Kc}{ts:List Ti}{N N':Str->Ti->Prop}
theorem cg.lt(X:cg C W S n m t e cs ts N):∀c∈cells n m t e cs,c<S.length:=λc a=>by
 simp only[cells,zcg,zbJ,zcu] at a;rcases a with rfl|rfl|rfl|rfl|⟨d,hd,rfl⟩|⟨d,hd,rfl⟩
 ·exact e7 X.at_
 ·exact e7 X.BW
 ·exact e7 X.ti
 ·exact e7 X.ne
 ·exact e7 (X.E1 d hd)
 ·obtain⟨f,h,_⟩:=X.DL d hd;exact e7 h
theorem cg.app(X:cg C W S n m t e cs ts N){Y:aA}:cg C W (S++Y) n m t e cs ts N:=X.frame λc a=>bD (X.lt c a)
theorem cg.Mn(X:cg C W S n m t e cs ts N)(h:∀x j,N x j↔N' x j):cg C W S n m t e cs ts N':=
 ⟨X.at_,X.BW,X.ti,X.ne,X.E1,λc l=>by
  obtain⟨i,k1,k2,g,f,a⟩:=X.DL c l;exact⟨i,k1,k2,g,f,λj=>(a j).trans (h _ _)⟩,X.nd,X.kn,X.tn,X.mn,X.okn,X.qq,X.tk,X.kb,X.mb,X.tb⟩
theorem cj.lt{own:List Nat}{ks:List Kn}(h:cj C W S n own ks ts):∀c∈own,c<S.length:=by
 obtain⟨m,t,e,cs,rfl,rfl,X⟩:=h;exact X.lt
theorem cj.frame{own:List Nat}{ks:List Kn}(h:cj C W S n own ks ts)(a:∀c∈own,S'[c]? =S[c]?):cj C W S' n own ks ts:=by
 obtain⟨m,t,e,cs,rfl,rfl,X⟩:=h;exact⟨m,t,e,cs,rfl,rfl,X.frame a⟩
theorem pQ(X:cg C W S n m t e cs ts N){i:Nat}{δ:bE}{Q:AK}(a:δ[i]? =some (some (.loc n)))(q:Q (.dat (.loc m)) S):tM C (fN i) "marked" δ S Q:=⟨_,a,n,_,_,_,rfl,X.at_,rfl,q⟩
theorem Co(X:cg C W S n m t e cs ts N){i:Nat}{δ:bE}{Q:AK}(a:δ[i]? =some (some (.loc n)))(q:Q (.dat (.loc t)) S):tM C (fN i) "tied" δ S Q:=⟨_,a,n,_,_,_,rfl,X.at_,rfl,q⟩
theorem Cp(X:cg C W S n m t e cs ts N){i:Nat}{δ:bE}{Q:AK}(a:δ[i]? =some (some (.loc n)))(q:Q (.dat (.loc e)) S):tM C (fN i) "near" δ S Q:=⟨_,a,n,_,_,_,rfl,X.at_,rfl,q⟩
theorem MD(X:cg C W S n m t e cs ts N){a:Bool}{x:Str}{Q:AK}(q:Q (.dat (.bl (a != decide (x∈mR cs)))) S):tL a (.str x) (.loc m) S Q:=by
 unfold tL;rw[aT X.BW];refine⟨.inr x,rfl,?_⟩;rw[Cf];exact q
theorem jn{a b:AE}{Q:AK}{δ:bE}{S:aA}(h:a δ S λg i=>b δ i λf c=>∃ks ds k d,bz c g.d=.dct ks ds/\keyOf f.d=some k/\gv ks ds k=some d/\Q (.dat d) c):fE a b δ S Q:=h
theorem qu{W:yak}{a b:AE}{o:gX}{δ:bE}{S:aA}(h:a δ S λl j=>b δ j λc i=>∃n ks,l.d=.loc n/\i[n]? =some (some (nO W ks))/\bS c.d/\(∀k∈ks,bS k)/\ks.length<1000/\o.nx δ (i.set n (some (nO W (putN ks c.d))))):
  tH W a b (aC (.bl true)) o δ S:=by
 refine cast (congrArg (λz=>a δ S z) ?_) h;funext l j;refine congrArg (λz=>b δ j z) ?_;funext c i;refine propext ⟨?_,?_⟩
 ·rintro⟨n,ks,g,f⟩;exact⟨n,ks,rfl,g,f⟩
 ·rintro⟨n,ks,_,g,f⟩;exact⟨n,ks,g,f⟩
theorem nH(c:Kc):(cells n m t e (cs++[c])).Perm (c.mc::c.nc::cells n m t e cs):=by
 refine List.perm_iff_count.mpr λz=>?_;simp only[cells,zbS,zch,zcr,List.count_append,List.count_cons,List.count_nil];lia
noncomputable def DM(a:List Str):List (Key×D):=a.map λm=>(.inr m,.bl true)
theorem xN:∀(c a:List Str),(a++c).Nodup->(DM c).foldl qU (a.map Sum.inr,a.map λ_=>.bl true)=((a++c).map Sum.inr,(a++c).map λ_=>.bl true)
 |[],a,_=>by rw[zbL];rfl
 |m::c,a,h=>by
  show(DM c).foldl qU (qU (a.map Sum.inr,a.map λ_=>.bl true) (.inr m,.bl true))=_;have f:m ∉ a:=λz=>by
   rw[zbg] at h;exact h.2.2 m z m (by simp) rfl
  have e:qU (a.map Sum.inr,a.map λ_=>D.bl true) (.inr m,.bl true)=((a++[m]).map Sum.inr,(a++[m]).map λ_=>.bl true):=by
   unfold qU;rw[sM,yDf f,yIn (by decide),zbS,zbS];rfl
  rw[e,xN c (a++[m]) (by simpa using h)];simp
theorem FI{a:List Str}(h:a.Nodup):MO.dct (kT (DM a)).1 (kT (DM a)).2=mO a:=by
 have:=xN a [] (by simpa using h);unfold kT mO;have this:(DM a).foldl qU ([],[])=_:=this;rw[this];rfl
end
section
variable {P:yaj}{w:yak}{K:yaI}{mg:Str->Option yai}{base:Heap}{C fi G gi:Addr}
theorem cN{m:Str}{sp:AN}{t:AA}{δ:bE}{S:aA}{Q:AK}{n i:Nat}{ds:List D}(a:δ[i]? =some (some (.loc n)))(e:S[n]? =some (some (.ins C fl ds)))(c:m ∉ fl)(h:t δ S λes f=>sp (.loc n::es) f Q):tK C m sp (fN i) t δ S Q:=⟨_,a,n,_,_,rfl,e,c,h⟩
def p8(C:Addr)(W:yak):AN:=λe S Q=>∃n x own a c,e=[.loc n,.str x]/\cj C W S n own a c/\x∈nms a/\Q (.dat .bq) S
theorem Kd(T:Txt K mg C fi G gi)(F:iz K C "need_knot" "Web.need_knot" gg A4):cQ P w K mg base 1 C "need_knot" gg (p8 C w):=by
 refine gm F HZ (λl S Q h=>?_) (λf o A outer s H E i=>?_)
 ·obtain⟨n,x,own,g,c,rfl,_⟩:=h;rfl
 ·refine⟨_,(M.aj (M.bR (M.aH (M.rW i) (M.pv 1) (M.bQ (M.pv 0) T.cl T.eT) rfl) (M.aj M.eK) M.aV)),λl S Q h=>?_⟩;obtain⟨n,x,own,g,c,rfl,⟨m,t,e,u,rfl,rfl,X⟩,a,q⟩:=h;have j:aG x9 [.loc n,.str x]=[some (.loc n),some (.str x)]:=rfl;rw[j];push_cast[true_and];rw[fZ] at a;refine pQ X rfl (MD X ⟨_,rfl,?_⟩);rw[yDt a,yIn (by decide)];exact q
def Gz(C:Addr)(W:yak):AN:=λe S Q=>∃n x own c a,e=[.loc n,.str x.1,.str x.2.1,.str x.2.2]/\cj C W S n own c a/\gH x=true/\Q (.dat (.bl (decide (x∈a)))) S
theorem Nb(T:Txt K mg C fi G gi)(F:iz K C "has_tie" "Web.has_tie" nW II):cQ P w K mg base 1 C "has_tie" nW (Gz C w):=by
 refine gm F Ly (λl S Q h=>?_) (λf o A outer s H E i=>?_)
 ·obtain⟨n,x,own,c,a,rfl,_⟩:=h;rfl
 ·refine⟨_,(M.aj (M.aK (M.cZ (M.Mh i) (M.aP (M.au (M.pv 1) (M.au (M.pv 2) (M.au (M.pv 3) M.af)))) (M.bQ (M.pv 0) T.cl T.n_tied) rfl))),λl S Q h=>?_⟩;obtain⟨n,x,own,c,a,rfl,⟨m,t,e,u,rfl,rfl,X⟩,g,q⟩:=h;have j:aG DA [.loc n,.str x.1,.str x.2.1,.str x.2.2]=[some (.loc n),some (.str x.1),some (.str x.2.1),some (.str x.2.2)]:=rfl;rw[j];push_cast[true_and];refine⟨ySz 3,Co X rfl ⟨t,_,rfl,X.ti,good3 g,(oX X.qq).good,?_⟩⟩;rw[JZ,show(false != decide (x∈a))=decide (x∈a) by cases decide (x∈a)<;>rfl];exact q
def Ax(C:Addr)(W:yak):AN:=λc S Q=>∃n,c=[.loc n]/\S.length=n+1/\S[n]? =some (some (.ins C [] []))/\∀a,cj C W a n [n,n+1,n+2,n+3] [] []->(∀k,k<n->a[k]? =S[k]?)->a.length=n+4->Q (.dat .bq) a
theorem Kr{f:Addr}{fd:yap}(T:Txt K mg C fi G gi)(F:zP K "__init__" "Web.__init__" rB f fd):cW P w K mg base jL 1 f fd ig (aM K (Ax C w)):=by
 refine OH F Ie (λI S Q h=>?_) (λf L A outer s H E O=>?_)
 ·obtain⟨n,rfl,_⟩:=h;rfl
 ·refine⟨_,(M.ah (M.gE (M.pv 0) (M.nK M.gG) T.cl T.eT) (M.ah (M.gE (M.pv 0) (M.nK M.fJ) T.cl T.n_tied) (M.aj (M.gE (M.pv 0) (M.nK M.gG) T.cl T.n_near)))),λI S Q h=>?_⟩;obtain⟨n,rfl,y,j,q⟩:=h;have z:aG yh [.loc n]=[some (.loc n)]:=rfl;rw[z];push_cast[true_and];have t:∀a c:D,putD "tied" c ["marked"] [a]=((["marked","tied"]:List Str),[a,c]):=λa c=>by
   unfold putD;rw[yIn (by decide+kernel)];rfl
  have p3:∀a c d:D,putD "near" d ["marked","tied"] [a,c]=((["marked","tied","near"]:List Str),[a,c,d]):=λa c d=>by
   unfold putD;rw[yIn (by decide+kernel)];unfold putD;rw[yIn (by decide+kernel)];rfl
  refine qB (o:=.dct [] []) rfl j (by decide) (λ_ q=>q) rfl ?_;generalize i:(S++[some (MO.dct [] [])]).set n _=S1;have x:S1.length=n+2:=by rw[<-i,zbT,zaL];simp;lia
  have m:S1[n]? =some (some (.ins C ["marked"] [.loc S.length])):=by rw[<-i];exact fk (bu j)
  simp only[tG];refine qB (o:=nO w []) rfl m (by decide) (λ_ q=>q) (t _ _) ?_;generalize g:(S1++[some (nO w [])]).set n _=S2;have v:S2.length=n+3:=by rw[<-g,zbT,zaL];simp;lia
  have l:S2[n]? =some (some (.ins C ["marked","tied"] [.loc S.length,.loc S1.length])):=by rw[<-g];exact fk (bu m)
  try simp only[tG]
  refine qB (o:=.dct [] []) rfl l (by decide) (λ_ q=>q) (p3 _ _ _) ?_;generalize e:(S2++[some (MO.dct [] [])]).set n _=S3;have u:S3.length=n+4:=by rw[<-e,zbT,zaL];simp;lia
  refine q S3 ⟨n+1,n+2,n+3,[],rfl,rfl,⟨?_,?_,?_,?_,by simp,by simp,?_,.nil,.nil,by simp,by simp,by simp,by simp,by decide,by simp,by decide⟩⟩ (λk U=>?_) u
  ·rw[<-e];have:=fk (o':=some (.ins C ["marked","tied","near"] [.loc S.length,.loc S1.length,.loc S2.length])) (bu (X:=[some (.dct [] [])]) l);rw[this,y,x,v]
  ·rw[<-e,aU (by lia),bD (by lia),<-g,aU (by lia),bD (by lia),<-i,aU (by lia),show n+1=S.length by lia];exact aR
  ·rw[<-e,aU (by lia),bD (by lia),<-g,aU (by lia),show n+2=S1.length by lia];exact aR
  ·rw[<-e,aU (by lia),show n+3=S2.length by lia];exact aR
  ·simp only[cells,zcr,zbL,zbM,zcg,zbA,or_false];refine⟨by lia,by lia,by lia,by simp,.nil⟩
  ·rw[<-e,aU (by lia),bD (by lia),<-g,aU (by lia),bD (by lia),<-i,aU (by lia),bD (by lia)]
def wY(C:Addr)(W:yak)(S:aA)(n:Nat)(own:List Nat)(ks:List Kn)(ts:List Ti)(Q:AK):Prop:=∀c a,cj C W c n a ks ts->Fr S c own a->Q (.dat .bq) c
def Gi(mk:D)(a:List Str):Prop:=mk=.lst (a.map D.str)∨mk=.tup (a.map D.str)
theorem Gi.walk{mk:D}{a:List Str}(h:Gi mk a){S:aA}{Q:List D->(aA->Prop)->aA->Prop}(q:Q (a.map D.str) (λ_=>True) S):dU S Q mk:=by
 rcases h with rfl|rfl<;>exact q
def Au(C:Addr)(W:yak):AN:=λf S Q=>∃n x mk a own c e,f=[.loc n,.str x,mk]/\Gi mk a/\cj C W S n own c e/\x ∉ nms c/\c.length<63/\a.length<64/\a.Nodup/\cP x=true/\(∀m∈a,cP m=true)/\
 wY C W S n own (c++[(x,a)]) e Q
theorem Km(T:Txt K mg C fi G gi)(F:iz K C "lay_knot" "Web.lay_knot" jF A8):cQ P w K mg base 1 C "lay_knot" jF (Au C w):=by
 refine gm F Ic (λds S Q h=>?_) (λf cdv A outer s H E hr=>?_)
 ·obtain⟨n,x,mk,u,own,ks,ts,rfl,_⟩:=h;rfl
 ·refine⟨_,(M.ah (M.mq (dW hr) (M.bQ (M.pv 0) T.cl T.eT) (M.pv 1) (M.nK (M.uM (M.lg hr) (by rfl) T.dict (by decide+kernel) (M.au (M.bH (N:=["mark"]) (caps:=[none]) (cU (by decide+kernel)) (by rfl) (by rfl) rfl (M.bK (M.pv 2)) (λ_ _ _ _=>(M.aq (i:=0) (by decide+kernel:List.Nodup (["mark"]:List Str)) rfl (Or.inl rfl))) (λ_ _ _ _=>M.cJ) (λ_ _ _ _=>(M.aP (M.au (M.pv 0) (M.au M.c9 M.af))))) M.af))) rfl) (M.aj (M.mq (dW hr) (M.bQ (M.pv 0) T.cl T.n_near) (M.pv 1) (M.nK M.fJ) rfl))),λds S Q h=>?_⟩;obtain⟨n,x,mk,u,own,ks,ts,rfl,hmk,⟨m,t,e,l,rfl,rfl,X⟩,I,hkl,hml,hmn,ox,oms,q⟩:=h;have e0:aG ye [.loc n,.str x,mk]=[some (.loc n),some (.str x),some mk]:=rfl;rw[e0];rw[fZ] at I;rw[zbK] at hkl;push_cast[true_and];have v:=apart X.nd;refine⟨_,rfl,hmk.walk ?_⟩;show ff (λ_=>True) (bZ 0) oH _ (u.map D.str) [] _ S _;refine comp_map (δ:=nI [none] [some (.loc n),some (.str x),some mk]) (λd=>.tup [d,.bl true]) trivial (u.map D.str) [] _ rfl (λy hy Q' q'=>⟨_,rfl,ySz 2,q'⟩) (by rw[zbK,yaf];simp;lia) ?_;refine⟨_,DM u,rfl,?_,by unfold DM;rw[zbK];lia,?_⟩
  ·show D.lst _=D.lst _;rw[zbR,zct];unfold DM;rw[zct];rfl
  show tM _ _ _ _ (S++[some (MO.dct (kT (DM u)).1 (kT (DM u)).2)]) _;rw[FI hmn];have O:=X.app (Y:=[some (mO u)]);have lS:(S++[some (mO u)]).length=S.length+1:=by simp
  let c:Kc:=⟨x,u,S.length,S.length+1⟩
  refine pQ O rfl ⟨_,rfl,m,_,_,.inr x,rfl,rfl,O.BW,by rw[zbK];lia,?_⟩;have p1:kR (kk l) (l.map λc=>D.loc c.mc) (.inr x) (.loc S.length)=.dct (kk (l++[c])) ((l++[c]).map λc=>.loc c.mc):=BB (c:=c) (f:=λc=>.loc c.mc) I;have p2:kR (kk l) (l.map λc=>D.loc c.nc) (.inr x) (.loc (S.length+1))=.dct (kk (l++[c])) ((l++[c]).map λc=>.loc c.nc):=BB (c:=c) (f:=λc=>.loc c.nc) I;dsimp only;rw[show(R.dat (D.loc S.length)).d=D.loc S.length from rfl,p1];generalize e1:(S++[some (mO u)]).set m _=S1;have l1:S1.length=S.length+1:=by rw[<-e1,zbT,lS]
  have W:∀k,k≠m->S1[k]? =(S++[some (mO u)])[k]?:=λk hk=>by rw[<-e1,aU hk]
  have m1:S1[m]? =some (some (.dct (kk (l++[c])) ((l++[c]).map λc=>.loc c.mc))):=by rw[<-e1];exact fk O.BW
  refine⟨_,rfl,n,_,_,_,rfl,bu (by rw[W n v.nm];exact O.at_),rfl,_,rfl,e,_,_,.inr x,rfl,rfl,bu (by rw[W e (Ne.symm v.me)];exact O.ne),by rw[zbK];lia,?_⟩;show Q (.dat .bq) ((S1++[some (nO w [])]).set e (some (kR (kk l) (l.map λc=>D.loc c.nc) (.inr x) (.loc S1.length))));rw[l1,p2];generalize L:(S1++[some (nO w [])]).set e _=S2;have l2:S2.length=S.length+2:=by rw[<-L,zbT,zaL,l1];rfl
  have el:=X.lt e O9;have ml:=X.lt m O8;have U:∀k,k<S.length->k≠m->k≠e->S2[k]? =S[k]?:=λk hk h1 h2=>by rw[<-L,aU h2,bD (by lia),W k h1,bD hk]
  have m2:S2[m]? =some (some (.dct (kk (l++[c])) ((l++[c]).map λc=>.loc c.mc))):=by rw[<-L,aU v.me];exact bu m1
  have n2:S2[e]? =some (some (.dct (kk (l++[c])) ((l++[c]).map λc=>.loc c.nc))):=by rw[<-L];exact fk (bu (by rw[W e (Ne.symm v.me)];exact O.ne))
  have c1:S2[S.length]? =some (some (mO u)):=by rw[<-L,aU (by lia),bD (by lia),W _ (by lia)];exact aR
  have c2:S2[S.length+1]? =some (some (nO w [])):=by rw[<-L,aU (by lia),<-l1];exact aR
  have hxx:∀j,¬stp ts x j:=λj z=>by
   rcases z with⟨_,z⟩|⟨_,z⟩
   ·exact I (X.tk _ z).1
   ·exact I (X.tk _ z).2
  have mem:∀o∈l++[c],o∈l∨o=c:=λo h=>by simpa using h
  have Mm:mR (l++[c])=mR l++[x]:=by unfold mR;rw[zbS];rfl
  refine q S2 _ ⟨m,t,e,l++[c],rfl,by rw[zbS];rfl,⟨?_,m2,?_,n2,λo g=>?_,λo g=>?_,?_,?_,X.tn,λo g=>?_,λo g=>?_,X.qq,λt' Z=>?_,by rw[zaL];simp;lia,λo g=>?_,X.tb⟩⟩ ⟨λk hk hn=>?_,by lia,λo g=>?_⟩
  ·rw[U n (X.lt n PM) v.nm v.ne];exact X.at_
  ·rw[U t (X.lt t O7) (Ne.symm v.mt) v.te];exact X.ti
  ·rcases mem o g with h|rfl
   ·rw[U _ (X.lt _ (Nm h)) (Ne.symm (v.mc o h).1) (Ne.symm (v.ec o h).1)];exact X.E1 o h
   ·exact c1
  ·rcases mem o g with h|rfl
   ·rw[U _ (X.lt _ (FO h)) (Ne.symm (v.mc o h).2) (Ne.symm (v.ec o h).2)];exact X.DL o h
   ·exact⟨[],c2,.nil,by simp,by simp,λj=>⟨λz=>by simp at z,λz=>(hxx j z).elim⟩⟩
  ·refine(nH c).nodup_iff.mpr ?_;have b1:S.length ∉ cells n m t e l:=λz=>by have:=X.lt _ z;lia
   have b2:S.length+1 ∉ cells n m t e l:=λz=>by have:=X.lt _ z;lia
   refine zbM.mpr ⟨λz=>?_,zbM.mpr ⟨b2,X.nd⟩⟩;rcases zcg.mp z with z|z
   ·have z:S.length=S.length+1:=z;lia
   ·exact b1 z
  ·rw[Mm];refine zbg.mpr ⟨X.kn,by simp,λa ha b hb z=>I ?_⟩;have:b=x:=by simpa using hb
   rw[<-this,<-z];exact ha
  ·rcases mem o g with h|rfl
   ·exact X.mn o h
   ·exact hmn
  ·rcases mem o g with h|rfl
   ·exact X.okn o h
   ·exact⟨ox,oms⟩
  ·rw[Mm];exact⟨zaA _ (X.tk t' Z).1,zaA _ (X.tk t' Z).2⟩
  ·rcases mem o g with h|rfl
   ·exact X.mb o h
   ·exact hml
  ·exact U k hk (λz=>hn (z▸O8)) λz=>hn (z▸O9)
  ·have:=(nH c).mem_iff.mp g;rcases zcg.mp this with z|z
   ·exact .inr (by rw[z];exact zcH _)
   ·rcases zcg.mp z with z|z
    ·exact .inr (by rw[z];exact Nat.le_succ _)
    ·exact .inl z
def Al(C:Addr)(W:yak):AN:=λf S Q=>∃n x mk a own c e,f=[.loc n,.str x,mk]/\Gi mk a/\cj C W S n own c e/\x ∉ nms c/\c.length<40/\a.length<64/\a.Nodup/\cP x=true/\(∀m∈a,cP m=true)/\
 wY C W S n own (c++[(x,a)]) e Q
theorem Ka(T:Txt K mg C fi G gi)(F:iz K C "put_knot" "Web.put_knot" jz A3)(a:cQ P w K mg base 1 C "lay_knot" jF (Au C w)):cQ P w K mg base 2 C "put_knot" jz (Al C w):=by
 refine gm F HY (λW S Q h=>?_) (λf Y A outer s H E I=>?_)
 ·obtain⟨n,x,mk,y,own,O,v,rfl,_⟩:=h;rfl
 ·refine⟨_,(M.ah (M.bR (M.aH (M.BR I) (M.pv 1) (M.bQ (M.pv 0) T.cl T.eT) rfl) (M.aj M.eK) M.aV) (M.ah (M.bR (M.aH M.JB (M.mL M.fK (by rfl) T.len (by decide+kernel) (M.au (M.bQ (M.pv 0) T.cl T.eT) M.af)) T.oz (bf _)) (M.aj M.eK) M.aV) (M.aj (M.bL (M.bP (M.pv 0) T.cl a (I.mono (by decide)) (M.au (M.pv 1) (M.au (M.pv 2) M.af))))))),λW S Q h=>?_⟩;obtain⟨n,x,mk,y,own,O,v,rfl,l,⟨m,t,e,u,rfl,rfl,X⟩,z,o,j,i,L,g,q⟩:=h;have U:aG x8 [.loc n,.str x,mk]=[some (.loc n),some (.str x),some mk]:=rfl;rw[U];have c:=z;rw[fZ] at c;rw[zbK] at o;push_cast[true_and];refine pQ X rfl (MD X ⟨_,rfl,?_⟩);rw[yDf c,yIn (by decide)];refine pQ X rfl ⟨u.length,?_,?_⟩
  ·rw[fy,aT X.BW];show some (kk u).length=_;unfold kk;rw[zbK]
  rw[yDf (by lia),yIn (by decide)];exact cN rfl X.at_ (by decide+kernel) ⟨_,rfl,_,rfl,n,x,mk,y,_,_,v,rfl,l,⟨m,t,e,u,rfl,rfl,X⟩,z,by rw[zbK];lia,j,i,L,g,q⟩
theorem dR{x:Ti}(h:gH x=true):cP x.1=true/\cP x.2.1=true/\cP x.2.2=true:=by
 unfold gH at h;rw[zbG,zbG] at h;exact⟨h.1.1,h.1.2,h.2⟩
theorem cg.xA{W:yak}{S:aA}{n m t e:Nat}{a:List Kc}{ts:List Ti}{N:Str->Ti->Prop}(X:cg C W S n m t e a ts N){x:Str}(g:x∈mR a):∃c∈a,c.nm=x/\gv (kk a) (a.map λc=>D.loc c.nc) (.inr x)=some (.loc c.nc)/\gv (kk a) (a.map λc=>D.loc c.mc) (.inr x)=some (.loc c.mc):=by
 obtain⟨c,h,i,f⟩:=Cj g;exact⟨c,h,i,f _,f _⟩
def As(C:Addr)(W:yak):AN:=λe S Q=>∃n x own c a,e=[.loc n,.str x.1,.str x.2.1,.str x.2.2]/\cj C W S n own c a/\x.1∈nms c/\x.2.2∈nms c/\x ∉ a/\a.length<302/\gH x=true/\wY C W S n own c (a++[x]) Q
noncomputable abbrev K5(b c:Str):Ti:=("on",b,c)
noncomputable abbrev s9(b c:Str):Ti:=("back",b,c)
theorem DY{ts:List Ti}{f e c y:Str}{j:Ti}:((stp ts y j∨(y=f/\j=K5 e c))∨(y=c/\j=s9 e f))↔stp (ts++[(f,e,c)]) y j:=by
 obtain⟨a,b,g⟩:=j;simp only[stp,zbJ,zaO,Prod.mk.injEq];constructor
 ·rintro(((⟨rfl,h⟩|⟨rfl,h⟩)|⟨rfl,rfl,rfl,rfl⟩)|⟨rfl,rfl,rfl,rfl⟩)
  ·exact .inl ⟨rfl,.inl h⟩
  ·exact .inr ⟨rfl,.inl h⟩
  ·exact .inl ⟨rfl,.inr ⟨rfl,rfl,rfl⟩⟩
  ·exact .inr ⟨rfl,.inr ⟨rfl,rfl,rfl⟩⟩
 ·rintro(⟨rfl,h|⟨rfl,rfl,rfl⟩⟩|⟨rfl,h|⟨rfl,rfl,rfl⟩⟩)
  ·exact .inl (.inl (.inl ⟨rfl,h⟩))
  ·exact .inl (.inr ⟨rfl,rfl,rfl,rfl⟩)
  ·exact .inl (.inl (.inr ⟨rfl,h⟩))
  ·exact .inr ⟨rfl,rfl,rfl,rfl⟩
theorem BL{a b c:Str}(e:cP a=true)(h1:cP b=true)(f:cP c=true):gH (a,b,c)=true:=by unfold gH;rw[e,h1,f];rfl
theorem Kl(T:Txt K mg C fi G gi)(F:iz K C "lay_tie" "Web.lay_tie" jE wK):cQ P w K mg base 1 C "lay_tie" jE (As C w):=by
 refine gm F Ib (λds S Q h=>?_) (λf cdv A outer s H E hr=>?_)
 ·obtain⟨n,x,own,ks,ts,rfl,_⟩:=h;rfl
 ·refine⟨_,(M.ah (M.fX hr (M.bQ (M.pv 0) T.cl T.n_tied) (M.aP (M.au (M.pv 1) (M.au (M.pv 2) (M.au (M.pv 3) M.af)))) M.c9 rfl) (M.ah (M.fX hr (M.cC (dW hr) (M.bQ (M.pv 0) T.cl T.n_near) (M.pv 1) (λ_ _=>rfl)) (M.aP (M.au M.aW (M.au (M.pv 2) (M.au (M.pv 3) M.af)))) M.c9 rfl) (M.aj (M.fX hr (M.cC (dW hr) (M.bQ (M.pv 0) T.cl T.n_near) (M.pv 3) (λ_ _=>rfl)) (M.aP (M.au M.aW (M.au (M.pv 2) (M.au (M.pv 1) M.af)))) M.c9 rfl)))),λds S Q h=>?_⟩;obtain⟨n,x,own,ks,ts,rfl,⟨m,t,e,cs,rfl,rfl,X⟩,L,I,hx,hkl,ox,q⟩:=h;have e0:aG qQ [.loc n,.str x.1,.str x.2.1,.str x.2.2]=[some (.loc n),some (.str x.1),some (.str x.2.1),some (.str x.2.2)]:=rfl;rw[e0];rw[fZ] at L I;push_cast[true_and];obtain⟨o,g,i⟩:=x;obtain⟨k1,k2,k3⟩:=dR ox;have hw:(iO jL P w K mg base qQ "Web.lay_tie" (ai wK) f cdv A outer s H E).w=w:=rfl;simp only[hw];refine qu (Co X rfl ⟨_,rfl,_,rfl,_,rfl,ySz 3,t,ts.map T3,rfl,X.ti,good3 ox,(oX X.qq).good,by rw[zbK];lia,?_⟩);show gX.nx _ _ (S.set t (some (nO w (putN (ts.map T3) (T3 (o,g,i))))));rw[put3 hx];have W:=X.HL (ts':=ts++[(o,g,i)]) (by
   refine zbg.mpr ⟨X.tn,by simp,λa ha b hb z=>hx ?_⟩;have:b=(o,g,i):=by simpa using hb
   rw[<-this,<-z];exact ha) (λY O=>by
   rcases zbJ.mp O with h|h
   ·exact X.qq Y h
   ·have:Y=(o,g,i):=by simpa using h
    rw[this];exact ox) (λY O=>by
   rcases zbJ.mp O with h|h
   ·exact X.tk Y h
   ·have:Y=(o,g,i):=by simpa using h
    rw[this];exact⟨L,I⟩) (by rw[zaL];simp;lia)
  generalize e1:S.set t _=S1 at W;have f1:Fr S S1 (cells n m t e cs) (cells n m t e cs):=by rw[<-e1];exact .set O7
  obtain⟨c,hc,l,g1,_⟩:=W.xA L;have l:c.nm=o:=l;obtain⟨js,j1,j2,j3,j4,j5⟩:=W.DL c hc;have jl:=iR j2 λj v=>l▸(j5 j).mp v;have Z:gH (K5 g i)=true:=BL (by decide+kernel) k2 k3;have Ho:gH (s9 g o)=true:=BL (by decide+kernel) k2 k1;simp only[tG];refine qu (jn (Cp W rfl ⟨_,rfl,_,_,_,_,aT W.ne,rfl,g1,_,rfl,_,rfl,ySz 3,c.nc,js.map T3,rfl,j1,good3 Z,(oX j4).good,by rw[zbK];lia,?_⟩));show gX.nx _ _ (S1.set c.nc (some (nO w (putN (js.map T3) (T3 (K5 g i))))));obtain⟨js',p1,p2,p3,p4⟩:=GQ js (K5 g i) j2;rw[p1];have U:=W.near (N':=λy j=>stp ts y j∨(y=o/\j=(K5 g i))) hc p2 (by lia) (λj v=>by
   rcases(p4 j).mp v with h|h
   ·exact j4 j h
   ·rw[h];exact Z) (λj=>(p4 j).trans ⟨λh=>h.imp (j5 j).mp λh=>⟨l,h⟩,λh=>h.imp (j5 j).mpr λh=>h.2⟩) (λy hy j=>⟨.inl,λh=>h.elim id λh=>absurd (h.1.trans l.symm) hy⟩)
  generalize e2:S1.set c.nc _=S2 at U;have f2:Fr S S2 (cells n m t e cs) (cells n m t e cs):=by rw[<-e2];exact f1.trans (.set (FO hc))
  obtain⟨d,hd,u,g2,_⟩:=U.xA I;have u:d.nm=i:=u;obtain⟨is,i1,i2,i3,i4,i5⟩:=U.DL d hd;have il:is.length<=899:=by
   by_cases hcd:d.nc=c.nc
   ·have hdc:d=c:=j6 (apart X.nd).nn d hd c hc hcd;subst hdc;have:is.length<=js'.length:=L2.jU i2 λj v=>by
     rcases(i5 j).mp v with h|h
     ·exact(p4 j).mpr (.inl ((j5 j).mpr h))
     ·exact(p4 j).mpr (.inr h.2)
    lia
   ·have:=iR (ts:=ts) (x:=i) (js:=is) i2 λj v=>by
     rcases(i5 j).mp v with h|h
     ·exact u▸h
     ·exact absurd (by rw[j6 X.kn d hd c hc (h.1.trans l.symm)]) hcd
    lia
  try simp only[tG]
  refine qu (jn (Cp U rfl ⟨_,rfl,_,_,_,_,aT U.ne,rfl,g2,_,rfl,_,rfl,ySz 3,d.nc,is.map T3,rfl,i1,good3 Ho,(oX i4).good,by rw[zbK];lia,?_⟩));show gX.nx _ _ (S2.set d.nc (some (nO w (putN (is.map T3) (T3 (s9 g o))))));obtain⟨is',r1,r2,r3,r4⟩:=GQ is (s9 g o) i2;rw[r1];have X3:=U.near (N':=λy j=>(stp ts y j∨(y=o/\j=(K5 g i)))∨(y=i/\j=(s9 g o))) hd r2 (by lia) (λj v=>by
   rcases(r4 j).mp v with h|h
   ·exact i4 j h
   ·rw[h];exact Ho) (λj=>(r4 j).trans ⟨λh=>h.imp (i5 j).mp λh=>⟨u,h⟩,λh=>h.imp (i5 j).mpr λh=>h.2⟩) (λy hy j=>⟨.inl,λh=>h.elim id λh=>absurd (h.1.trans u.symm) hy⟩)
  refine q _ _ ⟨m,t,e,cs,rfl,rfl,X3.Mn λy j=>?_⟩ (f2.trans (.set (FO hd)));exact DY
def Ak(C:Addr)(W:yak):AN:=λe S Q=>∃n x own c a,e=[.loc n,.str x.1,.str x.2.1,.str x.2.2]/\cj C W S n own c a/\x.1∈nms c/\x.2.2∈nms c/\x ∉ a/\a.length<300/\gH x=true/\wY C W S n own c (a++[x]) Q
theorem J9(T:Txt K mg C fi G gi)(F:iz K C "put_tie" "Web.put_tie" jy AZ)(a:cQ P w K mg base 1 C "need_knot" gg (p8 C w))(g:cQ P w K mg base 1 C "has_tie" nW (Gz C w))(c:cQ P w K mg base 1 C "lay_tie" jE (As C w)):cQ P w K mg base 2 C "put_tie" jy (Ak C w):=by
 refine gm F HX (λO S Q h=>?_) (λf U A outer s H E u=>?_)
 ·obtain⟨n,x,own,z,i,rfl,_⟩:=h;rfl
 ·refine⟨_,(M.ah (M.bL (M.bP (M.pv 0) T.cl a (u.mono (by decide)) (M.au (M.pv 1) M.af))) (M.ah (M.bL (M.bP (M.pv 0) T.cl a (u.mono (by decide)) (M.au (M.pv 3) M.af))) (M.ah (M.bR (M.l9 (M.bP (M.pv 0) T.cl g (u.mono (by decide)) (M.au (M.pv 1) (M.au (M.pv 2) (M.au (M.pv 3) M.af))))) (M.aj M.eK) M.aV) (M.ah (M.bR (M.aH M.JB (M.mL M.Jz (by rfl) T.len (by decide+kernel) (M.au (M.bQ (M.pv 0) T.cl T.n_tied) M.af)) T.qp (bf _)) (M.aj M.eK) M.aV) (M.aj (M.bL (M.bP (M.pv 0) T.cl c (u.mono (by decide)) (M.au (M.pv 1) (M.au (M.pv 2) (M.au (M.pv 3) M.af)))))))))),λO S Q h=>?_⟩;obtain⟨n,x,own,z,i,rfl,o,l,j,y,I,v,q⟩:=h;obtain⟨m,t,e,W,rfl,rfl,X⟩:=id o;have L:aG x6 [.loc n,.str x.1,.str x.2.1,.str x.2.2]=[some (.loc n),some (.str x.1),some (.str x.2.1),some (.str x.2.2)]:=rfl;rw[L];push_cast[true_and];refine cN rfl X.at_ (by decide+kernel) ⟨_,rfl,n,x.1,_,_,i,rfl,o,l,?_⟩;refine cN rfl X.at_ (by decide+kernel) ⟨_,rfl,n,x.2.2,_,_,i,rfl,o,j,?_⟩;refine cN rfl X.at_ (by decide+kernel) ⟨_,rfl,_,rfl,_,rfl,n,x,_,_,i,rfl,o,v,?_⟩;refine⟨false,by rw[yDf y];rfl,?_⟩;rw[yIn (by decide)];refine Co X rfl ⟨t,i.map T3,rfl,X.ti,by rw[zbK];lia,?_⟩;refine⟨_,_,rfl,rfl,trivial,_,rfl,?_⟩;rw[zbK,yDf (by lia),yIn (by decide)];exact cN rfl X.at_ (by decide+kernel) ⟨_,rfl,_,rfl,_,rfl,n,x,_,_,i,rfl,o,l,j,y,by lia,v,q⟩
theorem E7{a:List Kc}(f:(mR a).Nodup){c:Kc}(h:c∈a){k:Kn}(g:k∈a.map Kc.kn)(e:k.1=c.nm):k=c.kn:=by
 obtain⟨d,hd,rfl⟩:=zcu.mp g;rw[j6 f d hd c h e]
end
open PySem PySem.Spec L2 M M6 PyProof.Rows
noncomputable abbrev IE:Stmt:=inClass (top 21) 7
noncomputable abbrev Dw:List Str:=["self"]
noncomputable abbrev nV:List Str:=["self"]
theorem Lx:az Dw nV (ai IE):=L2.cM
noncomputable abbrev ID:Stmt:=inClass (top 21) 8
noncomputable abbrev Dv:List Str:=["self","knot"]
noncomputable abbrev nU:List Str:=["self","knot"]
theorem Lw:az Dv nU (ai ID):=L2.cM
noncomputable abbrev IC:Stmt:=inClass (top 21) 10
noncomputable abbrev Du:List Str:=["self","knot"]
noncomputable abbrev nT:List Str:=["self","knot"]
theorem Lv:az Du nT (ai IC):=L2.cM
theorem lF{caps:List (Option Nat)}{i:AI}{g:AG}{t:AT}{e:AE}{δ:bE}{S:aA}{Q:AK}(h:i δ S λds P f=>ff P g t e ds [] (nI caps δ) f λa c=>Q (.new (.lst a)) c):dD caps i g t e δ S Q:=h
theorem qI{t:AE}{δ:bE}{S:aA}{Q:List D->(aA->Prop)->aA->Prop}(h:t δ S λr a=>dU a Q r.d):fM t δ S Q:=h
section
variable {P:yaj}{w:yak}{K:yaI}{mg:Str->Option yai}{base:Heap}{C fi G gi:Addr}
def Gy(C:Addr)(W:yak):AN:=λf S Q=>∃n own c e,f=[.loc n]/\cj C W S n own c e/\∀a:List Str,a.Perm (nms c)->Q (.new (.lst (a.map D.str))) S
theorem M4(T:Txt K mg C fi G gi)(F:iz K C "knots" "Web.knots" nV IE):cQ P w K mg base 1 C "knots" nV (Gy C w):=by
 refine gm F Lx (λv S Q h=>?_) (λf x A outer s H E l=>?_)
 ·obtain⟨n,own,j,g,rfl,_⟩:=h;rfl
 ·refine⟨_,(M.aj (M.aK (M.mL (M.rV l) (by rfl) T.sorted (by decide+kernel) (M.au (M.bQ (M.pv 0) T.cl T.eT) M.af)))),λv S Q h=>?_⟩;obtain⟨n,own,j,g,rfl,⟨m,t,e,a,rfl,rfl,X⟩,q⟩:=h;have u:aG Dw [.loc n]=[some (.loc n)]:=rfl;rw[u];rw[fZ] at q;push_cast[true_and];refine pQ X rfl ⟨_,a.map (λc=>.loc c.mc),mR a,rfl,?_,by unfold mR;rw[zbK];exact X.kb,λi o y=>?_⟩
  ·rw[fy,aT X.BW];show D.dct _ _=_;unfold kk mR;rw[zct];rfl
  ·exact q i o
def Gx(C:Addr)(W:yak):AN:=λf S Q=>∃n own c e k,f=[.loc n,.str k.1]/\cj C W S n own c e/\k∈c/\∀a:List Str,a.Perm k.2->Q (.new (.lst (a.map D.str))) S
theorem M3(T:Txt K mg C fi G gi)(F:iz K C "marks" "Web.marks" nU ID)(a:cQ P w K mg base 1 C "need_knot" gg (p8 C w)):cQ P w K mg base 2 C "marks" nU (Gx C w):=by
 refine gm F Lw (λY S Q h=>?_) (λf cdv A outer s H E j=>?_)
 ·obtain⟨n,own,I,u,k,rfl,_⟩:=h;rfl
 ·refine⟨_,(M.ah (M.bL (M.bP (M.pv 0) T.cl a (j.mono (by decide)) (M.au (M.pv 1) M.af))) (M.aj (M.aK (M.mL (M.rV j) (by rfl) T.sorted (by decide+kernel) (M.au (M.cC (dW j) (M.bQ (M.pv 0) T.cl T.eT) (M.pv 1) (λ_ _=>rfl)) M.af))))),λY S Q h=>?_⟩;obtain⟨n,own,I,u,x,rfl,y,v,q⟩:=h;obtain⟨m,t,e,Z,rfl,rfl,X⟩:=id y;have W:aG Dv [.loc n,.str x.1]=[some (.loc n),some (.str x.1)]:=rfl;rw[W];push_cast[true_and];have i:x.1∈nms (Z.map Kc.kn):=zcu.mpr ⟨x,v,rfl⟩;have g:=i;rw[fZ] at g;obtain⟨c,o,l,_,U⟩:=X.xA g;have ex:=E7 X.kn o v l.symm;subst ex;have O:=X.E1 c o;refine cN rfl X.at_ (by decide+kernel) ⟨_,rfl,n,c.nm,_,_,u,rfl,y,i,?_⟩;refine jn (pQ X rfl ⟨_,rfl,_,_,_,_,aT X.BW,rfl,U,⟨_,c.ml.map (λ_=>.bl true),c.ml,rfl,by rw[fy,aT O];rfl,X.mb c o,λz L hs=>?_⟩⟩);exact q z L
def Gw(C:Addr)(W:yak):AN:=λf S Q=>∃n own e c x,f=[.loc n,.str x]/\cj C W S n own e c/\x∈nms e/\c.length<32/\
 ∀a:List Ti,a.Nodup->(∀j,j∈a↔stp c x j)->(∀j∈a,gH j=true)->Q (.new (.lst (a.map T3))) S
theorem M0(T:Txt K mg C fi G gi)(F:iz K C "steps" "Web.steps" nT IC)(a:cQ P w K mg base 1 C "need_knot" gg (p8 C w)):cQ P w K mg base 2 C "steps" nT (Gw C w):=by
 refine gm F Lv (λds S Q h=>?_) (λf cdv A outer s H E l=>?_)
 ·obtain⟨n,own,Y,v,x,rfl,_⟩:=h;rfl
 ·refine⟨_,(M.ah (M.bL (M.bP (M.pv 0) T.cl a (l.mono (by decide)) (M.au (M.pv 1) M.af))) (M.aj (M.aK (M.mL (M.BN l) (by rfl) T.sorted (by decide+kernel) (M.au (M.cC (dW l) (M.bQ (M.pv 0) T.cl T.n_near) (M.pv 1) (λ_ _=>rfl)) M.af))))),λds S Q h=>?_⟩;obtain⟨n,own,Y,v,x,rfl,O,L,hts,q⟩:=h;obtain⟨m,t,e,cs,rfl,rfl,X⟩:=id O;have e0:aG Du [.loc n,.str x]=[some (.loc n),some (.str x)]:=rfl;rw[e0];push_cast[true_and];have i:=L;rw[fZ] at i;obtain⟨c,hc,u,g1,_⟩:=X.xA i;subst u;obtain⟨Z,j1,I,j3,z,y⟩:=X.DL c hc;refine cN rfl X.at_ (by decide+kernel) ⟨_,rfl,n,c.nm,_,_,v,rfl,O,L,?_⟩;refine jn (Cp X rfl ⟨_,rfl,_,_,_,_,aT X.ne,rfl,g1,⟨c.nc,Z.map T3,rfl,j1,oX z,by rw[zbK];have:=iR I (λj o=>(y j).mp o);lia,λW hp hu=>?_⟩⟩);obtain⟨U,g,rfl⟩:=zY hp;exact q U (g.nodup_iff.mpr I) (λj=>g.mem_iff.trans (y j)) (λj o=>z j (g.mem_iff.mp o))
end
open PySem L2 M M6
noncomputable abbrev uC:Stmt:=top 3
noncomputable abbrev tW:List Str:=["leaf","marks"]
noncomputable abbrev gW:List Str:=["leaf","marks"]
theorem Ef:az tW gW (ai uC):=L2.cM
noncomputable abbrev Oo:Stmt:=top 5
noncomputable abbrev Hx:List Str:=["many","moves","near","one","leaf","other"]
noncomputable abbrev tO:List Str:=["many","moves"]
theorem AU:az Hx tO (ai Oo):=L2.cM
noncomputable abbrev A5:Stmt:=top 7
noncomputable abbrev yb:List Str:=["machine"]
noncomputable abbrev jA:List Str:=["machine"]
theorem H9:az yb jA (ai A5):=L2.cM
abbrev Mv:=Nat×Lf×Nat
def qR(n:Nat)(m:Mv):Prop:=m.1<n/\NY m.2.1/\m.2.2<n
noncomputable def vD(m:Mv):D:=.tup [.int m.1,lD m.2.1,.int m.2.2]
noncomputable def mD(n b:Nat)(es:List Nat)(a:List Mv):D:=.tup [.int n,.int b,.tup (nL es),.tup (a.map vD)]
theorem iH{x:Str}(h:cP x=true):(PyData.str x).canLay0=true:=by
 have:=lP (n:=0) (d:=.str x) h (by decide);unfold fit PySem.SeqAt.shaped at this;simp only[zbG] at this;exact this.2.1
theorem G2{l:Lf}(h:NY l):bF (py (lD l))=true/\(py (lD l)).depth<=1/\dz (lD l)=true:=by
 cases l with
 |stay=>exact⟨by simp only[lD,py,gp,bF,cL,zcp];exact iH (by decide+kernel),by decide,rfl⟩
 |step b x=>
  refine⟨?_,by simp[lD,py,gp,PyData.depth,PyData.depthAll],rfl⟩;simp only[lD,py,gp,bF,cL,zcp,zbG];exact⟨iH (by decide+kernel),iH (by cases b<;>decide+kernel),iH (zR h)⟩
 |mk b m=>
  refine⟨?_,by simp[lD,py,gp,PyData.depth,PyData.depthAll],rfl⟩;simp only[lD,py,gp,bF,cL,zcp,zbG];exact⟨iH (by cases b<;>decide+kernel),iH (mV h)⟩
noncomputable def oj(S:aA)(n:Nat)(g:Nat->Option MO)(d:Option MO):aA:=S++((zcK n).map g++[d])
section
variable {S:aA}{n:Nat}{g g':Nat->Option MO}{d d' x:Option MO}
theorem vt{i:Nat}(h:i<n):(oj S n g d)[S.length+i]? =some (g i):=by
 unfold oj;rw[zab (by lia),zao,zaf (by simpa using h)];simp[h]
theorem CK:(oj S n g d)[S.length+n]? =some d:=by
 unfold oj;rw[zab (by lia),zao,zab (by simp)];simp
theorem xP{i:Nat}(h:i<n):(oj S n g d).set (S.length+i) x=oj S n (λj=>if j=i then x else g j) d:=by
 unfold oj;rw[zav _ _ (by lia),zao,List.set_append_left _ _ (by simpa using h)];congr 2;refine zbx (by simp) λj c a=>?_;rw[zbD];simp only[zbz,List.getElem_range];by_cases e:i=j
 ·rw[yIp e,yIp e.symm]
 ·rw[yIn e,yIn (Ne.symm e)]
theorem CJ:(oj S n g d).set (S.length+n) x=oj S n g x:=by
 unfold oj;rw[zav _ _ (by lia),zao,zav _ _ (by simp)];simp
theorem CI:(oj S n g d).take S.length=S:=by unfold oj;rw[List.take_left]
theorem j8(h:∀i,i<n->g i=g' i):oj S n g d=oj S n g' d:=by
 unfold oj;congr 2;exact zaF λi a=>h i (by simpa using a)
end
theorem lY{S S':aA}{o:MO}{m:Nat}{Q:AK}(i:S.length<=m)(e:S'[m]? =some (some o))(a:S'.take S.length=S)(h:j9 S.length o=true)(q:Q (.new o) S):M.ret S S' (.dat (.loc m)) Q:=by
 refine⟨.new o,?_,λk g c f=>.inl ?_,by rw[a];exact q⟩
 ·simp only[out];rw[yIn (by lia),e];show(if _ then _ else _)=_;rw[yIp h]
 ·rw[<-a,zaM,yIp c];exact f
noncomputable def kN(n:Nat):List Key:=(zcK n).map λi:Nat=>Sum.inl (i:Int)
noncomputable def pD(m:Mv):D:=.tup [lD m.2.1,.int m.2.2]
noncomputable def dS(a:List Mv)(i:Nat):List D:=(a.filter λm=>decide (m.1=i)).map pD
noncomputable def i9(n:Nat)(a:List Mv):MO:=.dct (kN n) ((zcK n).map λi=>.lst (dS a i))
theorem xM{n i:Nat}:gu (kN n) (.inl (i:Int))=decide (i<n):=by
 unfold gu kN;rw[zcs];by_cases h:i<n
 ·rw[yDt h,zbC];exact⟨i,by simpa using h,by simp⟩
 ·rw[yDf h,zaY];intro j a;simp only[zca] at a;simp;lia
theorem qE{n i:Nat}{f:Nat->D}(h:i<n):gv (kN n) ((zcK n).map f) (.inl (i:Int))=some (f i):=by
 unfold gv kN;have e:((zcK n).map (λi:Nat=>(Sum.inl (i:Int):Key))).zip ((zcK n).map f)=(zcK n).map λj:Nat=>((Sum.inl (j:Int):Key),f j):=by
  rw[List.zip_map']
 rw[e,List.find?_map];have:(zcK n).find? ((λp:Key×D=>decide (p.1=Sum.inl (i:Int))) ∘ λj:Nat=>(Sum.inl (j:Int),f j))=some i:=by
  rw[List.find?_eq_some_iff_getElem];refine⟨by simp,i,by simpa using h,by simp,λj a=>?_⟩;simp;lia
 rw[this];rfl
theorem FJ{n:Nat}{f:Nat->D}:kT ((zcK n).map λi:Nat=>(Sum.inl (i:Int),f i))=(kN n,(zcK n).map f):=by
 induction n with
 |zero=>rfl
 |succ n ih=>
  unfold kT at ih⊢;rw[List.range_succ,zbS,List.foldl_append,ih];show qU (kN n,(zcK n).map f) (Sum.inl (n:Int),f n)=_;unfold qU;rw[yIn (by rw[xM];simp)];simp[kN,List.range_succ]
theorem uR(a:List Mv)(r:Mv)(i:Nat):dS (a++[r]) i=if i=r.1 then dS a i++[pD r] else dS a i:=by
 unfold dS;rw[List.filter_append,zbS];by_cases h:i=r.1
 ·subst h;simp
 ·rw[yIn h];have:¬r.1=i:=λe=>h e.symm;simp[this]
theorem xD{S:aA}{n:Nat}{f:Nat->List D}:∀(j k:Nat),k+j=n->zI (S.length+n) (kN n) ((zcK n).map λi=>if i<k then D.lst (f i) else .loc (S.length+i)) (oj S n (λi=>if i<k then none else some (.lst (f i))) (some (.dct (kN n) ((zcK n).map λi=>if i<k then D.lst (f i) else .loc (S.length+i)))))
  ((zcK n).map λi=>D.lst (f i)) (oj S n (λ_=>none) (some (.dct (kN n) ((zcK n).map λi=>D.lst (f i)))))
 |0,k,h=>by
  have e:((zcK n).map λi=>if i<k then D.lst (f i) else .loc (S.length+i))=(zcK n).map λi=>D.lst (f i):=zaF λi a=>by
   rw[yIp (by simp at a;lia)]
  rw[e,j8 (g:=λi=>if i<k then none else some (.lst (f i))) (g':=λ_=>none) (λi a=>by rw[yIp (by lia)])];exact .nil
 |j+1,k,h=>by
  have c:k<n:=by lia
  refine .step (m:=S.length+k) (es:=f k) ?_ (by lia) ?_
  ·rw[vt c,yIn (by lia)]
  ·have o:(((zcK n).map λi=>if i<k then D.lst (f i) else .loc (S.length+i)).map (sb (S.length+k) (.lst (f k))))=(zcK n).map λi=>if i<k+1 then D.lst (f i) else .loc (S.length+i):=by
    rw[zct];refine zaF λi a=>?_;show sb (S.length+k) (.lst (f k)) (if i<k then D.lst (f i) else .loc (S.length+i))=_;rcases zbj i k with h|h|h
    ·rw[yIp h,yIp (by lia)];rfl
    ·subst h;rw[yIn (by lia),yIp (by lia)];show(if S.length+i=S.length+i then _ else _)=_;rw[yIp rfl]
    ·rw[yIn (by lia),yIn (by lia)];show(if S.length+i=S.length+k then _ else _)=_;rw[yIn (by lia)]
   rw[o,xP c,CJ];have l:=j8 (S:=S) (n:=n) (d:=some (.dct (kN n) ((zcK n).map λi=>if i<k+1 then D.lst (f i) else .loc (S.length+i)))) (g:=λj=>if j=k then none else if j<k then none else some (MO.lst (f j))) (g':=λi=>if i<k+1 then none else some (.lst (f i))) (λi a=>by
    rcases zbj i k with h|h|h
    ·rw[yIn (by lia),yIp h,yIp (by lia)]
    ·rw[yIp h,yIp (by lia)]
    ·rw[yIn (by lia),yIn (by lia),yIn (by lia)])
   rw[l];exact xD j (k+1) (by lia)
theorem wX{n:Nat}:∀{a:List Mv},(∀m∈a,qR n m)->ck (a.map pD)=true
 |[],_=>rfl
 |m::a,h=>by
  have e:=(G2 (h m (by simp)).2.1).2.2;simp only[zch,ck,pD,dz,e,wX λk c=>h k (zaz _ c),zco]
theorem sZ{n m:Nat}{a:List Mv}(h:∀x∈a,qR n x):j9 m (i9 n a)=true:=by
 show gQ m ((zcK n).map λi=>D.lst (dS a i))=true;refine cE m _ ?_;generalize zcK n=l
 induction l with
 |nil=>rfl
 |cons i l ih=>
  have e:ck (dS a i)=true:=wX λx c=>h x (zbI.mp c).1;simp only[zch,ck,dz,e,ih,zco]
section
variable {P:yaj}{w:yak}{K:yaI}{mg:Str->Option yai}{base:Heap}{C fi G gi:Addr}
def Lr:AN:=λc S Q=>∃(n:Nat)(a:List Mv),c=[.int n,.tup (a.map vD)]/\n<=60/\(∀m∈a,qR n m)/\a.length<=60/\Q (.new (i9 n a)) S
theorem O4(T:Txt K mg C fi G gi)(F:Src K mg "by_stand" tO Oo):Def P w K mg base 1 "by_stand" tO (aM K Lr):=by
 refine iu F AU (λds S Q h=>?_) (λf cdv A outer s H E a=>?_)
 ·obtain⟨n,m,rfl,_⟩:=h;rfl
 ·refine⟨_,(M.ah (M.aO (i:=2) AU.nd rfl (Or.inl rfl) (M.nK (M.uM (M.lg a) (by rfl) T.dict (by decide+kernel) (M.au (M.bH (N:=["stand"]) (caps:=[none]) (cU (by decide+kernel)) (by rfl) (by rfl) rfl (M.bN (by rfl) T.range (M.au (M.pv 0) M.af)) (λ_ _ _ _=>(M.aq (i:=0) (by decide+kernel:List.Nodup (["stand"]:List Str)) rfl (Or.inl rfl))) (λ_ _ _ _=>M.cJ) (λ_ _ _ _=>(M.aP (M.au (M.pv 0) (M.au (M.nK (M.aZ M.af)) M.af))))) M.af)))) (M.ah (M.cA PassesOwn.never rfl (M.bK (M.pv 1)) (M.eN (n:=3) rfl (M.aL (M.aq (i:=3) AU.nd rfl (Or.inl rfl)) (M.aL (M.aq (i:=4) AU.nd rfl (Or.inl rfl)) (M.aL (M.aq (i:=5) AU.nd rfl (Or.inl rfl)) M.cR)))) (M.aj (M.bL (M.iD PySem.F.plainAttrs_list PySem.F.slot_list_append PySem.F.type_list_append M.jd (M.cC (dW a) (M.pv 2) (M.pv 3) (λ_ _=>rfl)) (M.au (M.aP (M.au (M.pv 4) (M.au (M.pv 5) M.af))) M.af))))) (M.aj (M.aK (M.OZ (M.pv 2)))))),λds S Q h=>?_⟩;obtain⟨n,m,rfl,n6,I,hl,q⟩:=h;have e0:aG Hx [.int n,.tup (m.map vD)]=[some (.int n),some (.tup (m.map vD)),none,none,none,none]:=rfl;rw[e0];push_cast[dD,kO,cF];refine⟨by lia,by lia,?_⟩;refine ic (λrest u l y=>∃(k:Nat)(v:Option D),k<=n/\rest=((zcK n).drop k).map (λi:Nat=>D.int i)/\u=(zcK k).map (λi:Nat=>D.tup [.int i,.loc (S.length+i)])/\y=S++(zcK k).map (λ_=>some (MO.lst []))/\l=[v]) ?_ ?_ _ [] _ _ ⟨0,none,zcI _,by simp[b9],rfl,by simp,rfl⟩
  ·rintro u l y ⟨k,v,hk,a,rfl,rfl,rfl⟩;obtain rfl:k=n:=by
    have:=congrArg zcG a;simp at this;lia
   refine⟨trivial,_,(zcK k).map (λi:Nat=>(Sum.inl (i:Int),D.loc (S.length+i))),rfl,?_,by simp;lia,?_⟩
   ·rw[eB,zct];rfl
   ·rw[FJ];dsimp only;push_cast[iy,fM,dU];have eb:∀o:MO,S++(zcK k).map (λ_=>some (MO.lst []))++[some o]=oj S k (λi=>some (.lst (dS [] i))) (some o):=λo=>by
     unfold oj dS;rw[zbb];rfl
    rw[eb,show zcG (S++(zcK k).map (λ_=>some (MO.lst [])))=S.length+k by simp];refine bY (λrest l y=>∃(c j:List Mv)(U O L:Option D),rest=j.map vD/\c++j=m/\y=oj S k (λi=>some (.lst (dS c i))) (some (.dct (kN k) ((zcK k).map λi=>.loc (S.length+i))))/\l=[some (.int k),some (.tup (m.map vD)),some (.loc (S.length+k)),U,O,L]) ?_ ?_ _ _ _ ⟨[],m,none,none,none,rfl,rfl,rfl,rfl⟩
    ·rintro l y ⟨c,j,U,O,L,a,z,rfl,rfl⟩;have:j=[]:=by cases j with
      |nil=>rfl
      |cons _ _=>simp at a
     subst this;rw[zbL] at z;subst z;refine⟨trivial,?_⟩;push_cast[C4];have Y:=xD (S:=S) (n:=k) (f:=dS c) k 0 (by lia);simp only[zbV,if_false] at Y;refine⟨_,rfl,_,_,CK,_,_,Y,?_⟩;exact lY (by lia) CK CI (sZ I) q
    ·rintro x rest l y N' ⟨c,j,U,O,L,a,z,rfl,rfl⟩ t;cases j with
     |nil=>simp at a
     |cons r j=>
      rw[zch] at a;injection a with X h2;subst X;subst h2;have hm:r∈m:=by rw[<-z];simp
      have ok:=I r hm;have hqs:c.length<=60:=by have:=congrArg zcG z;simp at this;lia
      refine⟨trivial,_,rfl,rfl,_,_,rfl,_,_,rfl,_,_,rfl,rfl,?_⟩;have sd:∀g:Nat->Option MO,bz (oj S k g (some (.dct (kN k) ((zcK k).map λi=>D.loc (S.length+i))))) (.loc (S.length+k))=.dct (kN k) ((zcK k).map λi=>.loc (S.length+i)):=λg=>by simp only[bz,CK];rfl
      push_cast[xX,fE];refine⟨_,_,sd _,_,rfl,_,qE ok.1,?_⟩;have Z:bz (oj S k (λi=>some (.lst (dS c i))) (some (.dct (kN k) ((zcK k).map λi=>D.loc (S.length+i))))) (.loc (S.length+r.1))=.lst (dS c r.1):=by simp only[bz,vt ok.1];rfl
      rw[Z];refine⟨rfl,sz rfl,S.length+r.1,_,_,rfl,rfl,vt ok.1,?_,?_⟩
      ·have X:(dS c r.1).length<=c.length:=by rw[dS,zbK];exact zaw ..
       rw[yaf];lia
      ·rw[xP ok.1];refine t _ _ ⟨c++[r],j,_,_,_,rfl,by rw[zbb];exact z,?_,rfl⟩;refine j8 λi W=>?_;rw[uR];by_cases e:i=r.1
       ·rw[yIp e,yIp e,e];rfl
       ·rw[yIn e,yIn e]
  ·rintro x rest u l y N' ⟨k,v,hk,a,rfl,rfl,rfl⟩ t;have W:k<n:=by
    rcases zcz k n with h|h
    ·exact h
    ·rw[List.drop_of_length_le (by simpa using h)] at a;simp at a
   rw[zag (by simpa using W),zch,List.getElem_range] at a;injection a with e1 e2;subst e1;subst e2;refine⟨trivial,?_⟩;push_cast[oH,if_true,cF,nQ,gy];refine⟨zcI _,sz rfl,by rw[zbK,zbe,yaf];lia,t _ _ _ ⟨k+1,_,W,rfl,?_,?_,rfl⟩⟩
   ·rw[List.range_succ,zbS];simp
   ·rw[List.range_succ,zbS,<-zbb];rfl
def Am:AN:=λe S Q=>∃(n b:Nat)(c:List Nat)(a:List Mv),e=[mD n b c a]/\n<=60/\(∀m∈a,qR n m)/\a.length<=60/\Q (.new (i9 n a)) S
theorem Ke(T:Txt K mg C fi G gi)(F:Src K mg "moves_near" jA A5)(a:Def P w K mg base 1 "by_stand" tO (aM K Lr)):Def P w K mg base 2 "moves_near" jA (aM K Am):=by
 refine iu F H9 (λo S Q h=>?_) (λf t A outer s H E j=>?_)
 ·obtain⟨n,b,g,c,rfl,_⟩:=h;rfl
 ·refine⟨_,(M.aj (M.aK (M.ow a j (M.au (M.ao M.aF (M.pv 0) M.aa (λ_ _=>rfl)) (M.au (M.ao M.aF (M.pv 0) M.aa (λ_ _=>rfl)) M.af))))),λo S Q h=>?_⟩;obtain⟨n,b,g,c,rfl,i,e,l,q⟩:=h;have m:aG yb [mD n b g c]=[some (mD n b g c)]:=rfl;rw[m];push_cast[mD,aS,gf,kJ,at2,PR];refine⟨n,c,rfl,i,e,l,⟨.new (i9 n c),?_,nG,by rw[zbv];exact q⟩⟩;simp only[out];rw[yIp (sZ e)]
def wB:AN:=λc S Q=>∃(l:Lf)(a:List Str),c=[lD l,.lst (a.map D.str)]/\NY l/\texts a/\Q (.dat (.bl (hold l a))) S
theorem FG(T:Txt K mg C fi G gi)(F:Src K mg "holds" gW uC):Def P w K mg base 1 "holds" gW (aM K wB):=by
 refine iu F Ef (λy S Q h=>?_) (λf z A outer s H E g=>?_)
 ·obtain⟨l,a,rfl,_⟩:=h;rfl
 ·refine⟨_,(M.ah (M.bR (M.aH (M.fB g) (M.ao M.aF (M.pv 0) M.aa (λ_ _=>rfl)) M.aW (bf _)) (M.aj (M.aK (M.cZ (M.JA g) (M.ao M.aF (M.pv 0) M.aa (λ_ _=>rfl)) (M.pv 1) rfl))) M.aV) (M.ah (M.bR (M.aH (M.fB g) (M.ao M.aF (M.pv 0) M.aa (λ_ _=>rfl)) M.aW (bf _)) (M.aj (M.aK (M.cZ (M.xg g) (M.ao M.aF (M.pv 0) M.aa (λ_ _=>rfl)) (M.pv 1) rfl))) M.aV) (M.aj (M.aK (M.cZ (M.fB g) (M.ao M.aF (M.pv 0) M.aa (λ_ _=>rfl)) M.aW (bf _)))))),λy S Q h=>?_⟩;obtain⟨l,a,rfl,o,j,q⟩:=h;have v:aG tW [lD l,.lst (a.map D.str)]=[some (lD l),some (.lst (a.map D.str))]:=rfl;rw[v];push_cast[true_and];have inl:∀{c:Bool}{m:Str}{i:AK},cP m=true->i (.dat (.bl (c != decide (m∈a)))) S->C2 c (.str m) (.lst (a.map D.str)) S i:=λ{c m i} u t=>
   pO (n:=0) (ss:=a) u (by decide) (zbu.mpr j.2) (by rw[lz];exact t) (by have:=j.1;lia)
  cases l with
  |stay=>
   push_cast[lD,aS,gf,kJ,at2];rw[yIn (by decide),yIn (by decide)];exact q
  |step b x=>
   push_cast[lD,aS,gf,kJ,at2];rw[yIn (by decide),yIn (by decide),yDf (by decide)];exact q
  |mk b m=>
   push_cast[lD,aS,gf,kJ,at2];cases b
   ·rw[yIn (by decide),yIp (by decide)];refine inl (mV o) (eZ rfl ?_);have e:(true != decide (m∈a))=hold (.mk false m) a:=by simp only[hold];cases decide (m∈a)<;>rfl
    rw[e];exact q
   ·rw[yIp (by decide)];refine inl (mV o) (eZ rfl ?_);have e:(false != decide (m∈a))=hold (.mk true m) a:=by simp only[hold];cases decide (m∈a)<;>rfl
    rw[e];exact q
end
open PySem L2 M M6
noncomputable abbrev uB:Stmt:=top 25
noncomputable abbrev tV:List Str:=[]
noncomputable abbrev gV:List Str:=[]
theorem Ed:az tV gV (ai uB):=L2.cM
noncomputable abbrev AY:Stmt:=top 28
noncomputable abbrev xZ:List Str:=["_law_cell","_law_most","_law_ds","_law_knots_here","_law_marks_here","_law_k","_law_ties","_law_j","_law_one","_law_other"]
noncomputable abbrev jx:List Str:=["_law_cell","_law_most"]
theorem fV:az xZ jx (ai AY):=L2.cM
theorem cI{α:Type}{f:α->D}:∀{l:List α},(∀x∈l,dz (f x)=true)->ck (l.map f)=true
 |[],_=>rfl
 |x::l,h=>by simp only[zch,ck,h x (by simp),cI λy a=>h y (zaz _ a),zco]
noncomputable def oi(ks:List Kn):List Key:=ks.map λk=>.inr k.1
noncomputable def fR(ks:List Kn)(ts:List Ti):D:=.tup [.dct (oi ks) (ks.map λk=>.lst (k.2.map D.str)),.lst (ts.map T3)]
theorem di{c:List Nat}{i a:Nat}(h:c[i]? =some a):fS (nL c) (i:Int)=some (.int (a:Int)):=dj (by rw[nL,zaZ,h];rfl)
theorem j7{α:Type}{P:aA->Prop}{t:AT}{e:AE}{Q:List D->aA->Prop}{δ:bE}{S:aA}(g:α->D)(c:α->Bool)(f:α->D)(m:P S):∀(as:List α)(i:List D)(h:bE),h.set 0 none=δ.set 0 none->
  (∀a∈as,∀Q:Bool->aA->Prop,Q (c a) S->t (δ.set 0 (some (g a))) S Q)->(∀a∈as,∀Q:AK,Q (.dat (f a)) S->e (δ.set 0 (some (g a))) S Q)->i.length+as.length<=yag->Q (i++(as.filter c).map f) S->
  ff P (bZ 0) t e (as.map g) i h S Q
 |[],i,h,_,_,_,_,q=>⟨m,by simpa using q⟩
 |a::as,i,h,hd,ht,he,hl,q=>by
  refine⟨m,?_⟩;have o:h.set 0 (some (g a))=δ.set 0 (some (g a)):=by
   have:=congrArg (λl=>l.set 0 (some (g a))) hd;simpa[List.set_set] using this
  show bZ 0 (g a) h S _;simp only[bZ];rw[o];simp only[zbq] at hl;refine ht a (by simp) _ ?_;cases n:c a with
  |true=>
   rw[yIp rfl];refine he a (by simp) _ ⟨by lia,?_⟩;refine j7 g c f m as _ _ (by simp[List.set_set]) (λx j=>ht x (by simp[j])) (λx j=>he x (by simp[j])) (by simp;lia) ?_;rw[zbE,n,yIp rfl,zch] at q;simpa[R.d,zbb] using q
  |false=>
   rw[yIn (by decide)];refine j7 g c f m as _ _ (by simp[List.set_set]) (λx j=>ht x (by simp[j])) (λx j=>he x (by simp[j])) (by lia) ?_;rw[zbE,n,yIn (by decide)] at q;exact q
theorem jV{k f:Kn}:∀{ks:List Kn},(nms ks).Nodup->k∈ks->f∈ks->k.1=f.1->k=f
 |[],_,h,_,_=>by simp at h
 |a::ks,c,h,h',e=>by
  have c:(a.1::nms ks).Nodup:=c;rw[zbM] at c;rcases zcg.mp h with z|g
  ·rcases zcg.mp h' with i|j
   ·rw[z,i]
   ·exact absurd (show a.1∈nms ks from zcu.mpr ⟨f,j,by rw[<-e,z]⟩) c.1
  ·rcases zcg.mp h' with i|j
   ·exact absurd (show a.1∈nms ks from zcu.mpr ⟨k,g,by rw[e,i]⟩) c.1
   ·exact jV c.2 g j e
noncomputable def jb(ks:List Kn)(x:Str):List Str:=((ks.find? λk=>decide (k.1=x)).map (·.2)).getD []
theorem jX{x:Str}:∀{ks:List Kn},x∈nms ks->(x,jb ks x)∈ks
 |[],h=>by simp at h
 |k::ks,h=>by
  unfold jb;rw[zbO];by_cases e:k.1=x
  ·rw[yDt e];subst e;exact zaK ..
  ·rw[yDf e];rcases zcg.mp (show x∈k.1::nms ks from h) with z|z
   ·exact absurd z.symm e
   ·exact zaz _ (jX (ks:=ks) z)
theorem u7{x:Str}:∀{ks:List Kn},x∈nms ks->gv (oi ks) (ks.map λk=>D.lst (k.2.map D.str)) (.inr x)=some (.lst ((jb ks x).map D.str))
 |[],h=>by simp[nms] at h
 |k::ks,h=>by
  have a:=u7 (x:=x) (ks:=ks);unfold gv oi jb at a⊢;rw[zch,zch,zaN,zbO,zbO];by_cases e:k.1=x
  ·subst e;simp
  ·have c:¬(Sum.inr k.1:Key)=.inr x:=λz=>e (by injection z);rw[yDf e,yDf c];rcases zcg.mp (show x∈k.1::nms ks from h) with z|z
   ·exact absurd z.symm e
   ·exact a z
noncomputable def Oq:List Nat:=6::(zcb 6 4++7::(zcb 6 [6,3,6]).flatten)
noncomputable def KN:List Str:=["a","ab","on","back","m","knot"]
noncomputable def W3:List Str:=["a","ab","stay"]
structure RO(ks:List Kn)(ts:List Ti):Prop where
 k1:1<=ks.length
 k6:ks.length<=6
 nd:(nms ks).Nodup
 nm:∀k∈ks,k.1∈KN/\k.2.length<=2/\k.2.Nodup/\∀m∈k.2,m∈MK
 tn:ts.Nodup
 tl:ts.length<=6
 tk:∀t∈ts,t.1∈nms ks/\t.2.2∈nms ks/\t.2.1∈W3
theorem jf{x:Str}(h:x∈KN):cP x=true:=by
 simp only[KN,zcg,zbA,or_false] at h;rcases h with rfl|rfl|rfl|rfl|rfl|rfl<;>decide+kernel
theorem zT{x:Str}(h:x∈W3):cP x=true:=by
 simp only[W3,zcg,zbA,or_false] at h;rcases h with rfl|rfl|rfl<;>decide+kernel
theorem iT{m j:Nat}{x:D}{a:List D}(h:x::a=(b9 0 m).drop j):j<m/\x=.int (j:Int)/\a=(b9 0 m).drop (j+1):=by
 have c:j<(b9 0 m).length:=by
  rcases zcz j (b9 0 m).length with z|z
  ·exact z
  ·rw[List.drop_eq_nil_of_le z] at h;cases h
 rw[zag c] at h;injection h with h1 h2;have e:j<m:=by simpa[b9] using c
 refine⟨e,?_,h2⟩;rw[h1];simp[b9]
theorem Ex(m:Nat):(b9 0 m).length=m:=by simp[b9]
theorem kc{l:List Str}{j:Nat}(h:j<l.length):fS (l.map D.str) (j:Int)=some (.str l[j]):=dj (by simp[h])
theorem D3{ds:List D}{a c:Option Int}{S:aA}{Q:AK}:qK (.lst ds) a c S Q=Q (.new (.lst (M.cutD ds a c))) S:=rfl
theorem LZ{b:Nat}{Q:D->Prop}(h:b<3)(k:∀x∈W3,Q (.str x)):∃e,fS [D.str "a",D.str "ab",D.str "stay"] (b:Int)=some e/\Q e:=by
 rcases(by lia:b=0∨b=1∨b=2) with rfl|rfl|rfl
 ·exact⟨_,gf,k _ (by simp[W3])⟩
 ·exact⟨_,kJ,k _ (by simp[W3])⟩
 ·exact⟨_,at2,k _ (by simp[W3])⟩
theorem KA(n:Nat)(ks:List Kn)(ts:List Ti):iw n (fR ks ts)=true:=by
 have c:ck (ks.map λk=>D.lst (k.2.map D.str))=true:=cI λk _=>by
  show ck (k.2.map D.str)=true;exact cI λ_ _=>rfl
 have a:ck (ts.map T3)=true:=cI λ_ _=>rfl;simp only[fR,iw,gQ,cE _ _ c,cE _ _ a,zco]
theorem uP(ks:List Kn):oi ks=(nms ks).map Sum.inr:=by unfold oi nms;rw[zct];rfl
noncomputable def zL(ks:List Kn):List D:=ks.map λk=>.lst (k.2.map D.str)
theorem Jc{ks:List Kn}{x:Str}{a:List Str}(h:x ∉ nms ks):kR (oi ks) (zL ks) (.inr x) (.lst (a.map D.str))=.dct (oi (ks++[(x,a)])) (zL (ks++[(x,a)])):=by
 have:=xK (oi ks,zL ks) (.inr x,.lst (a.map D.str));unfold qU at this;dsimp only at this;rw[uP,sM,yDf h,yIn (by decide)] at this;rw[uP,this,uP];simp[nms,zL]
section
variable {P:yaj}{w:yak}{K:yaI}{mg:Str->Option yai}{base:Heap}{C fi G gi:Addr}
def wA:AN:=λa S Q=>a=[]/\Q (.new (.lst (KN.map D.str))) S
theorem FF(T:Txt K mg C fi G gi)(F:Src K mg "_law_knots" gV uB):Def P w K mg base 1 "_law_knots" gV (aM K wA):=by
 refine iu F Ed (λc S Q h=>?_) (λf e A outer s H E g=>?_)
 ·obtain⟨rfl,_⟩:=h;rfl
 ·refine⟨_,(M.aj (M.aK (M.aZ (M.au M.aW (M.au M.aW (M.au M.aW (M.au M.aW (M.au M.aW (M.au M.aW M.af))))))))),λc S Q h=>?_⟩;obtain⟨rfl,q⟩:=h;have a:aG tV []=[]:=rfl;rw[a];push_cast[true_and];exact⟨sz rfl,qg rfl q⟩
def Aj:AN:=λe S Q=>∃z:Int,e=[.int z,.int 6]/\∀c a,RO c a->Q (.dat (fR c a)) S
theorem J8(T:Txt K mg C fi G gi)(F:Src K mg "_law_rows" jx AY)(U:Def P w K mg base 1 "_law_draws" eW (aM K k7))(O:Def P w K mg base 1 "_law_knots" gV (aM K wA))(I:Def P w K mg base 1 "_law_words" fP (aM K p7))(L:Def P w K mg base 1 "_law_marks" fQ (aM K p9)):Def P w K mg base 2 "_law_rows" jx (aM K Aj):=by
 refine iu F fV (λds S Q h=>?_) (λf cdv A outer s H E W=>?_)
 ·obtain⟨z,rfl,_⟩:=h;rfl
 ·refine⟨_,(M.ah (M.aO (i:=2) fV.nd rfl (Or.inr rfl) (M.ow U W (M.au (M.pv 0) (M.au (M.av M.bB (M.av M.bB (M.av M.bB (M.aZ (M.au M.aa M.af)) (M.av M.dB (M.aZ (M.au M.aa M.af)) M.aa)) (M.aZ (M.au (M.av M.bB (M.pv 1) M.aa) M.af))) (M.av M.dB (M.aZ (M.au M.aa (M.au M.aa (M.au M.aa M.af)))) (M.pv 1))) M.af)))) (M.ah (M.aO (i:=3) fV.nd rfl (Or.inl rfl) (M.cB M.i8 (M.i6 O (W.mono (by decide)) (by rfl)) M.dZ (M.cK (M.av M.bB M.aa (M.ao M.aF (M.pv 2) M.aa (λ_ _=>rfl)))))) (M.ah (M.aO (i:=4) fV.nd rfl (Or.inl rfl) (M.nK M.gG)) (M.ah (M.cA PassesOwn.never rfl (M.bN (by rfl) T.range (M.au (M.mL M.fK (by rfl) T.len (by decide+kernel) (M.au (M.pv 3) M.af)) M.af)) (M.aq (i:=5) fV.nd rfl (Or.inr rfl)) (M.aj (M.mq (dW W) (M.pv 4) (M.ao M.aF (M.pv 3) (M.pv 5) (λ_ _=>rfl)) (M.bH (N:=["_law_j","_law_ds","_law_k"]) (caps:=[none,some 2,some 5]) (cU (by decide+kernel)) (by rfl) (by rfl) rfl (M.bN (by rfl) T.range (M.au M.aa M.af)) (λ_ _ _ _=>(M.aq (i:=0) (by decide+kernel:List.Nodup (["_law_j","_law_ds","_law_k"]:List Str)) rfl (Or.inl rfl))) (λ_ _ _ _=>(M.cY (M.aH (M.fB W) (M.av M.b7 (M.av M.qt (M.ao M.aF (M.pv 1) (M.av M.bB M.aa (M.pv 2)) (λ_ _=>rfl)) (M.av M.bB M.aa (M.pv 0))) M.aa) M.aa (bf _)))) (λ_ _ _ _=>(M.ao M.aF (M.i6 L (W.mono (by decide)) (by rfl)) (M.pv 0) (λ_ _=>rfl)))) rfl))) (M.ah (M.aO (i:=6) fV.nd rfl (Or.inl rfl) (M.nK M.fJ)) (M.ah (M.cA PassesOwn.never rfl (M.bN (by rfl) T.range (M.au (M.ao M.aF (M.pv 2) M.aa (λ_ _=>rfl)) M.af)) (M.aq (i:=7) fV.nd rfl (Or.inl rfl)) (M.ah (M.aO (i:=8) fV.nd rfl (Or.inl rfl) (M.ao M.aF (M.pv 3) (M.av M.b7 (M.ao M.aF (M.pv 2) (M.av M.bB M.aa (M.av M.dB M.aa (M.pv 7))) (λ_ _=>rfl)) (M.mL M.fK (by rfl) T.len (by decide+kernel) (M.au (M.pv 3) M.af))) (λ_ _=>rfl))) (M.ah (M.aO (i:=9) fV.nd rfl (Or.inl rfl) (M.ao M.aF (M.pv 3) (M.av M.b7 (M.ao M.aF (M.pv 2) (M.av M.bB M.aa (M.av M.dB M.aa (M.pv 7))) (λ_ _=>rfl)) (M.mL M.fK (by rfl) T.len (by decide+kernel) (M.au (M.pv 3) M.af))) (λ_ _=>rfl))) (M.aj (M.fX W (M.pv 6) (M.aP (M.au (M.pv 8) (M.au (M.ao M.aF (M.i6 I (W.mono (by decide)) (by rfl)) (M.ao M.aF (M.pv 2) (M.av M.bB M.aa (M.av M.dB M.aa (M.pv 7))) (λ_ _=>rfl)) (λ_ _=>rfl)) (M.au (M.pv 9) M.af)))) M.c9 rfl))))) (M.aj (M.aK (M.OY (M.aP (M.au (M.pv 4) (M.au (M.uM (M.EY W) (by rfl) T.list (by decide+kernel) (M.au (M.pv 6) M.af)) M.af)))))))))))),λds S Q h=>?_⟩;obtain⟨z,rfl,q⟩:=h;have e0:aG xZ [.int z,.int 6]=[some (.int z),some (.int 6),none,none,none,none,none,none,none,none]:=rfl;rw[e0];push_cast[vG,cF,vM,nR];have er:[D.int 6]++(zcb (6:Int).toNat [D.int 4]).flatten++[D.int (6+1)]++(zcb (6:Int).toNat [D.int 6,D.int 3,D.int 6]).flatten=nL Oq:=rfl;rw[er];refine⟨sz rfl,sz rfl,by decide,by decide,sz rfl,sz rfl,sz rfl,sz rfl,sz rfl,by decide,by decide,sz rfl,sz rfl,z,Oq,rfl,by decide,by decide,λys hl hlt=>?_⟩;have ya:∀i,i<26->∃a,ys[i]? =some a/\∀b,Oq[i]? =some b->a<b:=λi Y=>by
   have:i<ys.length:=by rw[hl];exact Y
   exact⟨_,zak this,λb hb=>hlt i _ b (zak this) hb⟩
  obtain⟨n,hn0,hb0⟩:=ya 0 (by lia);have hb0:n<6:=hb0 6 rfl;refine⟨rfl,?_⟩;push_cast[bI];refine⟨_,di (i:=0) hn0,?_⟩;push_cast[true_and];have ek:M.cutD (KN.map D.str) none (some (1+(n:Int)))=(KN.take (n+1)).map D.str:=by
   rcases(by lia:n=0∨n=1∨n=2∨n=3∨n=4∨n=5) with rfl|rfl|rfl|rfl|rfl|rfl<;>rfl
  rw[D3,ek];have Z:(KN.take (n+1)).length=n+1:=by rw[zbr];show min _ 6=_;lia
  have kl2:(KN.take (n+1)).Nodup:=(show KN.Nodup by decide+kernel).sublist (List.take_sublist ..);have X:∀x∈KN.take (n+1),x∈KN:=λx hx=>List.mem_of_mem_take hx;generalize KN.take (n+1)=kl at Z kl2 X;push_cast[iy,kO,vI];refine⟨n+1,by simp[gq,Z],by lia,by lia,?_⟩;rw[show((n+1:Nat):Int).toNat=n+1 by lia];refine bY (λrest δ S2=>∃(j:Nat)(g:List Kn)(v5:Option D),j<=n+1/\rest=(b9 0 (n+1)).drop j/\δ=[some (.int z),some (.int 6),some (.lst (nL ys)),some (.lst (kl.map D.str)),some (.loc S.length),v5,none,none,none,none]/\S2=S++[some (.dct (oi g) (zL g))]/\g.length=j/\nms g=kl.take j/\∀k∈g,k.2.length<=2/\k.2.Nodup/\∀m∈k.2,m∈MK) ?_ ?_ _ _ _ ⟨0,[],none,zcI _,rfl,rfl,rfl,rfl,rfl,by simp⟩
  ·rintro δ S2 ⟨j,g,v5,hj,W,rfl,rfl,g1,g2,g3⟩;obtain rfl:j=n+1:=by
    have:=congrArg zcG W;rw[zbs,Ex] at this;simp at this;lia
   rw[<-Z,zbv] at g2;refine⟨trivial,?_⟩;obtain⟨n7,hn7,hb7⟩:=ya 7 (by lia);have hb7:n7<7:=hb7 7 rfl;push_cast[iy,kO,cF,nR,bI];refine⟨_,di (i:=7) hn7,?_⟩;refine⟨_,rfl,by lia,by lia,?_⟩;rw[show((n7:Nat):Int).toNat=n7 by lia,zbb];have hks:∀k∈g,k.1∈KN:=λk hk=>X _ (by rw[<-g2];exact zcu.mpr ⟨k,hk,rfl⟩);have at5:∀a b:MO,(S++[some a,some b])[S.length]? =some (some a):=λa b=>by simp
   have at6:∀a b:MO,(S++[some a,some b])[S.length+1]? =some (some b):=λa b=>by rw[zab (by lia)];simp
   have Ls:∀a b c:MO,(S++[some a,some b]).set (S.length+1) (some c)=S++[some a,some c]:=λa b c=>by rw[zav _ _ (by lia)];simp
   have Og:∀a b:MO,(S++[some a,some b]).set S.length none=S++[none,some b]:=λa b=>by rw[zav _ _ (zcH _)];simp
   rw[show zcG (S++[some (MO.dct (oi g) (zL g))])=S.length+1 by simp];refine bY (λrest δ S2=>∃(j:Nat)(v:List Ti)(v7 v8 v9:Option D),j<=n7/\rest=(b9 0 n7).drop j/\δ=[some (.int z),some (.int 6),some (.lst (nL ys)),some (.lst (kl.map D.str)),some (.loc S.length),v5,some (.loc (S.length+1)),v7,v8,v9]/\S2=S++[some (.dct (oi g) (zL g)),some (nO w (v.map T3))]/\v.length<=j/\v.Nodup/\∀t∈v,t.1∈nms g/\t.2.2∈nms g/\t.2.1∈W3) ?_ ?_ _ _ _ ⟨0,[],none,none,none,zcI _,rfl,rfl,rfl,zcH _,.nil,by simp⟩
   ·rintro δ S2 ⟨j,v,v7,v8,v9,hj,W,rfl,rfl,t1,t2,t3⟩;refine⟨trivial,?_⟩;push_cast[C3];refine⟨S.length+1,_,rfl,at6 _ _,by rw[zbK];lia,sz rfl,?_⟩;refine⟨S.length,oi g,zL g,_,rfl,at5 _ _,?_⟩;rw[Og,show([D.loc S.length,(R.new (MO.lst (v.map T3))).d]:List D).map (sb S.length (.dct (oi g) (zL g)))=[.dct (oi g) (zL g),.lst (v.map T3)] by simp[sb,fu,MO.d]];refine⟨.dat (fR g v),?_,λk o hk e=>.inl (by rw[zaf hk] at e;exact e),?_⟩
    ·simp only[out];exact yIp (KA S.length g v)
    ·rw[List.take_left];refine q g v ⟨by lia,by lia,by rw[g2];exact kl2,λk hk=>⟨hks k hk,g3 k hk⟩,t2,by lia,t3⟩
   ·rintro x rest δ S2 N' ⟨j,v,v7,v8,v9,hj,W,rfl,rfl,t1,t2,t3⟩ hN';obtain⟨h1,rfl,rfl⟩:=iT W;obtain⟨a,ha,_⟩:=ya (8+3*j) (by lia);obtain⟨b,hb,hb3⟩:=ya (9+3*j) (by lia);obtain⟨c,hc,_⟩:=ya (10+3*j) (by lia);have hb3:b<3:=by
     rcases(by lia:j=0∨j=1∨j=2∨j=3∨j=4∨j=5) with rfl|rfl|rfl|rfl|rfl|rfl<;>exact hb3 3 rfl
    refine⟨trivial,?_⟩;push_cast[vG,tH,bI];have cm:zJ 3 (j:Int):=.inl (by decide);have hkl:gq (D.lst (kl.map D.str))=some (n+1):=by simp[gq,Z]
    have ex:∀u:Nat,((u:Int) % ((n+1:Nat):Int))=((u % (n+1):Nat):Int):=λu=>by lia
    have hx:∀u:Nat,u % (n+1)<kl.length:=λu=>by rw[Z];exact zcL _ (by lia)
    rw[show(8:Int)+3*(j:Int)=((8+3*j:Nat):Int) by lia,show(9:Int)+3*(j:Int)=((9+3*j:Nat):Int) by lia,show(10:Int)+3*(j:Int)=((10+3*j:Nat):Int) by lia];refine⟨cm,_,di ha,_,hkl,?_⟩;push_cast[bI];rw[ex a];refine⟨by lia,_,kc (hx a),cm,_,di hc,_,hkl,?_⟩;push_cast[bI];rw[ex c];refine⟨by lia,_,kc (hx c),rfl,cm,_,di hb,?_⟩;push_cast[bI];refine LZ hb3 λwd hwd=>⟨sz rfl,S.length+1,rfl,v.map T3,at6 _ _,?_⟩
    generalize eA:kl[a % (n+1)]'(hx a)=kA;generalize eC:kl[c % (n+1)]'(hx c)=kC;have mA:kA∈kl:=eA▸zby _;have mC:kC∈kl:=eC▸zby _;have okN:gH (kA,wd,kC)=true:=by
     unfold gH;rw[jf (X _ mA),zT hwd,jf (X _ mC)];rfl
    have okA:∀t∈v,gH t=true:=λt ht=>by
     obtain⟨k1,k2,k3⟩:=t3 t ht;rw[g2] at k1 k2;unfold gH;rw[jf (X _ k1),zT k3,jf (X _ k2)];rfl
    refine⟨good3 (t:=(kA,wd,kC)) okN,λk hk=>?_,by rw[zbK];lia,?_⟩
    ·obtain⟨t,ht,rfl⟩:=zcu.mp hk;exact good3 (okA t ht)
    ·rw[show D.tup [D.str kA,D.str wd,D.str kC]=T3 (kA,wd,kC) from rfl];by_cases hin:(kA,wd,kC)∈v
     ·have e9:putN (v.map T3) (T3 (kA,wd,kC))=v.map T3:=by
       unfold putN;rw[yIp (zbC.mpr ⟨T3 (kA,wd,kC),zcu.mpr ⟨_,hin,rfl⟩,yDt rfl⟩)]
      rw[e9,Ls];exact hN' _ _ ⟨j+1,v,_,_,_,by lia,rfl,rfl,rfl,by lia,t2,t3⟩
     ·rw[put3 hin,Ls];refine hN' _ _ ⟨j+1,v++[(kA,wd,kC)],_,_,_,by lia,rfl,rfl,rfl,by rw[zaL];show v.length+1<=_;lia,?_,λt ht=>?_⟩
      ·rw[zbg];exact⟨t2,by simp,λx hx y hy e=>hin (by rw[<-zaO.mp hy,<-e];exact hx)⟩
      ·rcases zbJ.mp ht with h|h
       ·exact t3 t h
       ·rw[zaO.mp h,g2];exact⟨mA,mC,hwd⟩
  ·rintro x rest δ S2 N' ⟨j,g,v5,hj,W,rfl,rfl,g1,g2,g3⟩ hN';obtain⟨h1,rfl,rfl⟩:=iT W;obtain⟨y,hy,_⟩:=ya (1+j) (by lia);have hjl:j<kl.length:=by lia
   refine⟨trivial,?_⟩;push_cast[vL,dD,kO];refine⟨by decide,by decide,?_⟩;refine j7 (α:=Nat) (P:=λ_=>True) (δ:=[none,some (.lst (nL ys)),some (.int j)]) (λz:Nat=>D.int z) (λi=>decide (((y:Int) / (1+(i:Int))) % 2=1)) (λi=>D.str (MK.getD i "")) trivial [0,1] [] _ rfl (λi Y Q2 q2=>?_) (λi Y Q' q'=>?_) (by decide) ?_
   ·push_cast[bI];rw[show(1:Int)+(j:Int)=((1+j:Nat):Int) by lia];refine⟨_,di hy,?_⟩;push_cast[true_and];have hi2:i<2:=by simp only[zcg,zbA,or_false] at Y;lia
    exact⟨⟨by lia,by lia⟩,by decide,q2⟩
   ·push_cast[true_and];refine⟨rfl,?_⟩;simp only[zcg,zbA,or_false] at Y;rcases Y with rfl|rfl
    ·exact⟨_,gf,q'⟩
    ·exact⟨_,kJ,q'⟩
   ·rw[zbR,bI];refine⟨_,kc hjl,S.length,rfl,oi g,zL g,.inr kl[j],rfl,by simp,by rw[zL,zbK];lia,?_⟩;have hnew:kl[j] ∉ nms g:=by
     rw[g2];intro hm;obtain⟨i,Y,e⟩:=zaG hm;rw[zbr] at Y;rw[List.getElem_take] at e;have:=(List.nodup_iff_pairwise_ne.mp kl2 |> zah.mp) i j (by lia) hjl (by lia);exact this e
    generalize hms:([0,1]:List Nat).filter (λi:Nat=>decide (((y:Int) / (1+(i:Int))) % 2=1))=is;have hil:is.length<=2:=by rw[<-hms];exact zaw ..
    have him:∀i∈is,i<2:=λi Y=>by
     rw[<-hms] at Y;have:=(zbI.mp Y).1;simp only[zcg,zbA,or_false] at this;lia
    rw[show(is.map λi=>D.str (MK.getD i ""))=(is.map λi=>MK.getD i "").map D.str by rw[zct];rfl,Jc hnew,zav _ _ (zcH _),zcA];refine hN' _ _ ⟨j+1,g++[(kl[j],is.map λi=>MK.getD i "")],_,by lia,rfl,rfl,rfl,by simp[g1],?_,λk hk=>?_⟩
    ·rw[List.take_succ_eq_append_getElem hjl,<-g2];simp[nms]
    ·rcases zbJ.mp hk with h|h
     ·exact g3 k h
     ·rw[zaO.mp h];refine⟨by rw[zbK];exact hil,?_,λm hm=>?_⟩
      ·rw[<-hms];exact List.Nodup.sublist ((List.filter_sublist (l:=[0,1])).map _) (by decide+kernel)
      obtain⟨i,Y,rfl⟩:=zcu.mp hm;rcases(by have:=him i Y;lia:i=0∨i=1) with rfl|rfl<;>simp[MK]
end
open PySem PySem.Spec L2 M M6 PyProof.Rows
noncomputable abbrev uA:Stmt:=top 29
noncomputable abbrev tU:List Str:=["_law_rows_here","_law_web","_law_knot","_law_one","_law_word","_law_other"]
noncomputable abbrev gU:List Str:=["_law_rows_here"]
theorem gZ:az tU gU (ai uA):=L2.cM
noncomputable abbrev ux:Stmt:=top 30
noncomputable abbrev tR:List Str:=["_law_rows_here","_law_knot","_law_found"]
noncomputable abbrev gT:List Str:=["_law_rows_here","_law_knot"]
theorem wF:az tR gT (ai ux):=L2.cM
theorem RO.qq{ks:List Kn}{ts:List Ti}(h:RO ks ts):∀t∈ts,gH t=true:=λt e=>by
 obtain⟨i,g,f⟩:=h.tk t e;obtain⟨k,k1,k2⟩:=zcu.mp i;obtain⟨j,c,a⟩:=zcu.mp g;unfold gH;rw[<-k2,<-a,jf (h.nm k k1).1,zT f,jf (h.nm j c).1];rfl
theorem bg{α:Type}{P:aA->Prop}{s:AG}{t:AT}{e:AE}{Q:List D->aA->Prop}{S:aA}(g:α->D)(c:α->Bool)(f:α->D)(j:α->bE)(l:bE->Prop)(m:P S)(n:∀a,l (j a)):∀(as:List α)(i:List D)(δ:bE),l δ->
  (∀a∈as,∀δ,l δ->∀Q:bE->aA->Prop,Q (j a) S->s (g a) δ S Q)->(∀a∈as,∀Q:Bool->aA->Prop,Q (c a) S->t (j a) S Q)->(∀a∈as,∀Q:AK,Q (.dat (f a)) S->e (j a) S Q)->i.length+as.length<=yag->Q (i++(as.filter c).map f) S->
  ff P s t e (as.map g) i δ S Q
 |[],i,δ,_,_,_,_,_,q=>⟨m,by simpa using q⟩
 |a::as,i,δ,hd,hg,ht,he,hl,q=>by
  refine⟨m,hg a (by simp) δ hd _ (ht a (by simp) _ ?_)⟩;simp only[zbq] at hl;cases o:c a with
  |true=>
   rw[yIp rfl];refine he a (by simp) _ ⟨by lia,?_⟩;refine bg g c f j l m n as _ _ (n a) (λx h=>hg x (by simp[h])) (λx h=>ht x (by simp[h])) (λx h=>he x (by simp[h])) (by simp;lia) ?_;rw[zbE,o,yIp rfl,zch] at q;simpa[R.d,zbb] using q
  |false=>
   rw[yIn (by decide)];refine bg g c f j l m n as _ _ (n a) (λx h=>hg x (by simp[h])) (λx h=>ht x (by simp[h])) (λx h=>he x (by simp[h])) (by lia) ?_;rw[zbE,o,yIn (by decide)] at q;exact q
def In(C:Addr)(W:yak)(S S':aA)(ks:List Kn)(ts:List Ti):Prop:=∃own,cj C W S' S.length own ks ts/\(∀c∈own,S.length<=c)/\(∀k,k<S.length->S'[k]? =S[k]?)/\S.length<=S'.length
theorem In.go{C:Addr}{W:yak}{S S' e:aA}{own a:List Nat}{ks:List Kn}{ts:List Ti}(h1:∀c∈own,S.length<=c)(j:∀k,k<S.length->S'[k]? =S[k]?)(g:S.length<=S'.length)(X:cj C W e S.length a ks ts)(f:Fr S' e own a):In C W S e ks ts:=
 ⟨a,X,λc i=>(f.new c i).elim (h1 c) λz=>zcw g z,λk h=>(f.out k (by lia) λz=>by have:=h1 k z;lia).trans (j k h),zcw g f.len⟩
section
variable {P:yaj}{w:yak}{K:yaI}{mg:Str->Option yai}{base:Heap}{C fi G gi:Addr}
def wz(C:Addr)(W:yak):AN:=λg S Q=>∃f e,g=[fR f e]/\RO f e/\∀a own,cj C W a S.length own f.reverse e->(∀c∈own,S.length<=c)->(∀k,k<S.length->a[k]? =S[k]?)->S.length<=a.length->Q (.dat (.loc S.length)) a
theorem FE{fdi:yap}(T:Txt K mg C fi G gi)(F:Src K mg "_law_laid" gU uA)(F_Web:cW P w K mg base jL 1 fi fdi ig (aM K (Ax C w)))(B_Web:Binds K fdi ig [])(l:cQ P w K mg base 2 C "put_knot" jz (Al C w))(I:cQ P w K mg base 2 C "put_tie" jy (Ak C w)):Def P w K mg base 3 "_law_laid" gU (aM K (wz C w)):=by
 refine MY F gZ (λds S Q h=>?_) (λf cdv A outer s H E o=>?_)
 ·obtain⟨g,O,rfl,_⟩:=h;rfl
 ·refine⟨_,(M.ah (M.aO (i:=1) gZ.nd rfl (Or.inl rfl) (M.mK T.E1 F_Web B_Web (o.mono (by decide)) (by rfl) T.JG)) (M.ah (M.cA PassesOwn.never rfl (M.qk (by rfl) T.reversed (M.uM (M.xh o) (by rfl) T.list (by decide+kernel) (M.au (M.ao M.aF (M.pv 0) M.aa (λ_ _=>rfl)) M.af))) (M.aq (i:=2) gZ.nd rfl (Or.inl rfl)) (M.aj (M.bL (M.bP (M.pv 1) T.cl l (o.mono (by decide)) (M.au (M.pv 2) (M.au (M.uM M.rX (by rfl) T.list (by decide+kernel) (M.au (M.cC (dW o) (M.ao M.aF (M.pv 0) M.aa (λ_ _=>rfl)) (M.pv 2) (λ_ _=>rfl)) M.af)) M.af)))))) (M.ah (M.cA PassesOwn.never rfl (M.bK (M.ao M.aF (M.pv 0) M.aa (λ_ _=>rfl))) (M.eN (n:=3) rfl (M.aL (M.aq (i:=3) gZ.nd rfl (Or.inl rfl)) (M.aL (M.aq (i:=4) gZ.nd rfl (Or.inl rfl)) (M.aL (M.aq (i:=5) gZ.nd rfl (Or.inl rfl)) M.cR)))) (M.aj (M.bL (M.bP (M.pv 1) T.cl I (o.mono (by decide)) (M.au (M.pv 3) (M.au (M.pv 4) (M.au (M.pv 5) M.af))))))) (M.aj (M.aK (M.pv 1)))))),λds S Q h=>?_⟩;obtain⟨g,O,rfl,a,q⟩:=h;have e0:aG tU [fR g O]=[some (fR g O),none,none,none,none,none]:=rfl;rw[e0];push_cast[xV,iy];refine⟨S.length,rfl,by rw[zaL];rfl,aR,λS1 X1 k1 l1=>⟨rfl,?_⟩⟩;have I1:In C w S S1 [] []:=⟨_,X1,λc hc=>by simp only[zcg,zbA,or_false] at hc;lia,λk hk=>(k1 k hk).trans (bD hk),by lia⟩
  push_cast[Cc,vH,fR,aS,gf];refine⟨_,⟨_,rfl⟩,_,rfl,?_⟩;rw[show(oi g).map kD=g.map (λk=>D.str k.1) by unfold oi;rw[zct];rfl,<-List.map_reverse];have gw:∀r∈g,gv (oi g) (g.map λk=>D.lst (k.2.map D.str)) (.inr r.1)=some (.lst (r.2.map D.str)):=λr o=>by
   have hm:r.1∈nms g:=zcu.mpr ⟨r,o,rfl⟩;rw[u7 hm,<-jV a.nd (jX hm) o rfl]
  have Y:∀r,r∈g.reverse↔r∈g:=λr=>List.mem_reverse;have hnr:(nms g.reverse).Nodup:=by unfold nms;rw[List.map_reverse];exact List.pairwise_reverse.mpr (a.nd.imp λh=>Ne.symm h)
  have hk6:=a.k6;rw[<-List.length_reverse] at hk6;generalize g.reverse=kr at Y hnr hk6 q;refine bY (λrest W S'=>∃(done L:List Kn)(v2:Option D),rest=L.map (λk=>D.str k.1)/\done++L=kr/\W=[some (fR g O),some (.loc S.length),v2,none,none,none]/\In C w S S' done []) ?_ ?_ _ _ _ ⟨[],kr,none,rfl,rfl,rfl,I1⟩
  ·rintro W S2 ⟨done,L,v2,v,u,rfl,X2⟩;have:L=[]:=by cases L with|nil=>rfl|cons _ _=>simp at v
   subst this;rw[zbL] at u;subst u;refine⟨trivial,?_⟩;push_cast[fR,aS,kJ,fM,dU,iy];refine bY (λrest W S'=>∃(U rt:List Ti)(v4 v5 v6:Option D),rest=rt.map T3/\U++rt=O/\W=[some (fR g O),some (.loc S.length),v2,v4,v5,v6]/\In C w S S' done U) ?_ ?_ _ _ _ ⟨[],O,none,none,none,rfl,rfl,rfl,X2⟩
   ·rintro W S3 ⟨U,rt,v4,v5,v6,v,u,rfl,own,X3,k1,k2,k3⟩;have:rt=[]:=by cases rt with|nil=>rfl|cons _ _=>simp at v
    subst this;rw[zbL] at u;subst u;exact⟨trivial,_,rfl,q S3 own X3 k1 k2 k3⟩
   ·rintro x xs W S3 N ⟨U,rt,v4,v5,v6,v,u,rfl,own,X3,k1,k2,k3⟩ hN;cases rt with
    |nil=>simp at v
    |cons r rt=>
     rw[zch] at v;injection v with v e3;subst v;subst e3;obtain⟨m,t,e,cs,_,_,X⟩:=id X3;have o:r∈O:=by rw[<-u];simp
     have j:=a.tn;rw[<-u,zbg] at j;have Z:r ∉ U:=λz=>j.2.2 r z r (by simp) rfl;have htl:=a.tl;have:U.length<300:=by have:=congrArg zcG u;rw[zaL] at this;lia
     have nmd:∀y,y∈nms g->y∈nms done:=λy hy=>by
      obtain⟨k,hk,rfl⟩:=zcu.mp hy;exact zcu.mpr ⟨k,(Y k).mpr hk,rfl⟩
     refine⟨trivial,_,rfl,rfl,_,_,rfl,_,_,rfl,_,_,rfl,rfl,?_⟩;exact cN rfl X.at_ (by decide+kernel) ⟨_,rfl,_,rfl,_,rfl,S.length,r,own,done,U,rfl,X3,nmd _ (a.tk r o).1,nmd _ (a.tk r o).2.1,Z,this,a.qq r o,λS4 own' X4 f4=>hN _ _ ⟨U++[r],rt,_,_,_,rfl,by rw[<-u];simp,rfl,In.go k1 k2 k3 X4 f4⟩⟩
  ·rintro x xs W S2 N ⟨done,L,v2,v,u,rfl,own,X2,k1,k2,k3⟩ hN;cases L with
   |nil=>simp at v
   |cons r L=>
    rw[zch] at v;injection v with v e3;subst v;subst e3;obtain⟨m,t,e,cs,_,_,X⟩:=id X2;have o:r∈g:=(Y r).mp (by rw[<-u];simp);have j:=hnr;rw[<-u] at j;have j:(done.map (·.1)++(r::L).map (·.1)).Nodup:=by rw[<-zbS];exact j
    rw[zbg] at j;have Z:r.1 ∉ nms done:=λz=>j.2.2 r.1 z r.1 (by simp) rfl;have hkl:done.length<40:=by have:=congrArg zcG u;rw[zaL] at this;lia
    have hm:=a.nm r o;refine⟨trivial,?_⟩;push_cast[true_and];refine cN rfl X.at_ (by decide+kernel) ?_;push_cast[qM,fE,fR,aS,gf];refine⟨_,_,rfl,_,rfl,_,gw r o,?_⟩;push_cast[true_and];exact⟨S.length,r.1,_,r.2,own,done,[],rfl,.inl rfl,X2,Z,hkl,by lia,hm.2.2.1,jf hm.1,λm hm'=>mV (hm.2.2.2 m hm'),λS4 own' X4 f4=>hN _ _ ⟨done++[r],L,_,rfl,by rw[<-u];simp,rfl,In.go k1 k2 k3 X4 f4⟩⟩
noncomputable def dI(ts:List Ti)(k:Str):List Ti:=(ts.filter λt=>decide (t.1=k)).map (λt=>(("on":Str),t.2.1,t.2.2))++(ts.filter λt=>decide (t.2.2=k)).map (λt=>(("back":Str),t.2.1,t.1))
def wo:AN:=λf S Q=>∃e a k,f=[fR e a,.str k]/\RO e a/\cP k=true/\∀c:List Ti,c.Perm (dI a k)->Q (.new (.lst (c.map T3))) S
theorem FA(T:Txt K mg C fi G gi)(F:Src K mg "_law_steps" gT ux):Def P w K mg base 1 "_law_steps" gT (aM K wo):=by
 refine MY F wF (λds S Q h=>?_) (λf cdv A outer s H E I=>?_)
 ·obtain⟨y,e,k,rfl,_⟩:=h;rfl
 ·refine⟨_,(M.ah (M.eG (i:=2) wF.nd rfl rfl (N:=["_law_one","_law_word","_law_other","_law_knot"]) (caps:=[none,none,none,some 1]) (cU (by decide+kernel)) (by rfl) (by rfl) rfl (M.bK (M.ao M.aF (M.pv 0) M.aa (λ_ _=>rfl))) (λ_ _ _ _=>(M.eN (n:=3) rfl (M.aL (M.aq (i:=0) (by decide+kernel:List.Nodup (["_law_one","_law_word","_law_other","_law_knot"]:List Str)) rfl (Or.inl rfl)) (M.aL (M.aq (i:=1) (by decide+kernel:List.Nodup (["_law_one","_law_word","_law_other","_law_knot"]:List Str)) rfl (Or.inl rfl)) (M.aL (M.aq (i:=2) (by decide+kernel:List.Nodup (["_law_one","_law_word","_law_other","_law_knot"]:List Str)) rfl (Or.inl rfl)) M.cR))))) (λ_ _ _ _=>(M.cY (M.aH (M.fB I) (M.pv 0) (M.pv 3) (bf _)))) (λ_ _ _ _=>(M.aP (M.au M.aW (M.au (M.pv 1) (M.au (M.pv 2) M.af)))))) (M.aj (M.aK (M.mL (M.EV I) (by rfl) T.sorted (by decide+kernel) (M.au (M.av M.bB (M.pv 2) (M.bH (N:=["_law_one","_law_word","_law_other","_law_knot"]) (caps:=[none,none,none,some 1]) (cU (by decide+kernel)) (by rfl) (by rfl) rfl (M.bK (M.ao M.aF (M.pv 0) M.aa (λ_ _=>rfl))) (λ_ _ _ _=>(M.eN (n:=3) rfl (M.aL (M.aq (i:=0) (by decide+kernel:List.Nodup (["_law_one","_law_word","_law_other","_law_knot"]:List Str)) rfl (Or.inl rfl)) (M.aL (M.aq (i:=1) (by decide+kernel:List.Nodup (["_law_one","_law_word","_law_other","_law_knot"]:List Str)) rfl (Or.inl rfl)) (M.aL (M.aq (i:=2) (by decide+kernel:List.Nodup (["_law_one","_law_word","_law_other","_law_knot"]:List Str)) rfl (Or.inl rfl)) M.cR))))) (λ_ _ _ _=>(M.cY (M.aH (M.fB I) (M.pv 2) (M.pv 3) (bf _)))) (λ_ _ _ _=>(M.aP (M.au M.aW (M.au (M.pv 1) (M.au (M.pv 0) M.af))))))) M.af))))),λds S Q h=>?_⟩;obtain⟨y,e,k,rfl,l,ok,q⟩:=h;have e0:aG tR [fR y e,.str k]=[some (fR y e),some (.str k),none]:=rfl;rw[e0];push_cast[fR,aS,kJ,dU,dD,fM];have Z:=l.tl;have v:∀(t:Ti)(o:bE),(∃a b c,o=[a,b,c,some (.str k)])->∀m:bE->aA->Prop,m [some (.str t.1),some (.str t.2.1),some (.str t.2.2),some (.str k)] S->CP 3 (nN (bZ 0) (nN (bZ 1) (nN (bZ 2) CQ))) (T3 t) o S m:=by
   rintro t _ ⟨a,b,c,rfl⟩ m j;exact⟨_,rfl,rfl,_,_,rfl,_,_,rfl,_,_,rfl,rfl,j⟩
  refine bg T3 (λt=>decide (t.1=k)) (λt=>T3 ("on",t.2.1,t.2.2)) (λt=>[some (.str t.1),some (.str t.2.1),some (.str t.2.2),some (.str k)]) (λo=>∃a b c,o=[a,b,c,some (.str k)]) trivial (λt=>⟨_,_,_,rfl⟩) e [] _ ⟨_,_,_,rfl⟩ (λt _=>v t) (λt g m j=>?_) (λt g m j=>?_) (by rw[yaf];show 0+e.length<=_;lia) ?_
  ·push_cast[true_and];exact j
  ·push_cast[true_and];exact⟨sz rfl,j⟩
  refine bg T3 (λt=>decide (t.2.2=k)) (λt=>T3 ("back",t.2.1,t.1)) (λt=>[some (.str t.1),some (.str t.2.1),some (.str t.2.2),some (.str k)]) (λo=>∃a b c,o=[a,b,c,some (.str k)]) trivial (λt=>⟨_,_,_,rfl⟩) e [] _ ⟨_,_,_,rfl⟩ (λt _=>v t) (λt g m j=>?_) (λt g m j=>?_) (by rw[yaf];show 0+e.length<=_;lia) ?_
  ·push_cast[true_and];exact j
  ·push_cast[true_and];exact⟨sz rfl,j⟩
  rw[zbR,zbR];have X:=zaw (λt:Ti=>decide (t.1=k)) e;have W:=zaw (λt:Ti=>decide (t.2.2=k)) e;have U:∀t∈e.filter (λt:Ti=>decide (t.1=k)),gH t=true:=λt g=>l.qq t (zbI.mp g).1;have O:∀t∈e.filter (λt:Ti=>decide (t.2.2=k)),gH t=true:=λt g=>l.qq t (zbI.mp g).1;have eq:(e.filter λt:Ti=>decide (t.1=k)).map (λt=>T3 ("on",t.2.1,t.2.2))++(e.filter λt:Ti=>decide (t.2.2=k)).map (λt=>T3 ("back",t.2.1,t.1))=(dI e k).map T3:=by
   unfold dI;rw[zbS,zct,zct];rfl
  refine⟨by rw[zbK,zbK,yaf];exact zcw (Nat.add_le_add X W) (by lia),_,(dI e k).map T3,rfl,by rw[eq];rfl,oX ?_,?_,λY hp x=>?_⟩
  ·intro t g;unfold dI at g;rcases zbJ.mp g with g|g
   ·obtain⟨u,x,rfl⟩:=zcu.mp g;have:=U u x;unfold gH at this⊢;rw[zbG,zbG] at this⊢;exact⟨⟨show cP "on"=true by decide+kernel,this.1.2⟩,this.2⟩
   ·obtain⟨u,x,rfl⟩:=zcu.mp g;have:=O u x;unfold gH at this⊢;rw[zbG,zbG] at this⊢;exact⟨⟨show cP "back"=true by decide+kernel,this.1.2⟩,this.1.1⟩
  ·unfold dI;rw[zbK,zaL,zbK,zbK];lia
  ·obtain⟨L,z,rfl⟩:=zY hp;exact q L z
end
open PySem PySem.Spec L2 M M6 PyProof.Rows
noncomputable abbrev Ba:Stmt:=top 10
noncomputable abbrev yg:List Str:=["steps","found","step","word"]
noncomputable abbrev jH:List Str:=["steps"]
theorem qc:az yg jH (ai Ba):=L2.cM
abbrev Pr:=(Str×Str)×Ti
abbrev En:=(Str×Str)×List Ti
noncomputable def K2(k:Str×Str):D:=.tup [.str k.1,.str k.2]
theorem Bx(k:Str×Str):py (K2 k)=.tuple [.str k.1,.str k.2]:=by simp[K2,py,gp]
theorem rK{a b:Str×Str}(h:py (K2 a)=py (K2 b)):a=b:=by
 obtain⟨g,f⟩:=a;obtain⟨e,c⟩:=b;simp only[Bx,PyData.tuple.injEq,zcN.injEq,PyData.str.injEq] at h;rw[h.1,h.2.1]
theorem good2{k:Str×Str}(h1:cP k.1=true)(a:cP k.2=true):bS (K2 k):=by
 refine⟨by simp[K2,dz,ck],?_,?_,_,rfl⟩
 ·rw[Bx];simp[bF,cL,PyData.canLay0,gJ h1,gJ a]
 ·rw[Bx];simp[PyData.depth,PyData.depthAll]
noncomputable def kL(ps:List Pr)(k:Str×Str):List Ti:=(ps.filter λp=>decide (p.1=k)).map (·.2)
theorem gY(ps:List Pr)(k a:Str×Str)(j:Ti):kL (ps++[(k,j)]) a=kL ps a++if k=a then [j] else []:=by
 unfold kL;rw[List.filter_append,zbS];congr 1;by_cases h:k=a<;>simp[h]
noncomputable def locs(b:Nat):Nat->List D
 |0=>[]
 |n+1=>.loc b::locs (b+1) n
theorem mZ:∀(n b:Nat),(locs b n).length=n
 |0,_=>rfl
 |n+1,b=>by rw[locs,zbq,mZ n]
theorem pG:∀(n b:Nat),locs b (n+1)=locs b n++[.loc (b+n)]
 |0,b=>rfl
 |n+1,b=>by
  show .loc b::locs (b+1) (n+1)=_;rw[pG n (b+1)];show _=.loc b::(locs (b+1) n++_);rw[show b+1+n=b+(n+1) by lia]
theorem Ck:∀(es:List En)(b:Nat)(k:Str×Str),(k ∉ es.map (·.1)->dg (es.map λe=>K2 e.1) (locs b es.length) (K2 k)=none)/\(k∈es.map (·.1)->∃(i:Nat)(e:En),es[i]? =some e/\e.1=k/\dg (es.map λe=>K2 e.1) (locs b es.length) (K2 k)=some (.loc (b+i)))
 |[],b,k=>⟨λ_=>rfl,λh=>by simp at h⟩
 |e::es,b,k=>by
  obtain⟨c,a⟩:=Ck es (b+1) k;unfold dg at c a⊢;rw[zbq,locs,show(zcP (λe:En=>K2 e.1) (e::es))=K2 e.1::es.map λe=>K2 e.1 from rfl,zaN,zbO];by_cases h:e.1=k
  ·rw[yDt (show py (K2 e.1)=py (K2 k) by rw[h])];exact⟨λz=>absurd (by rw[zch,h];simp) z,λ_=>⟨0,e,rfl,h,rfl⟩⟩
  ·rw[yDf (λz=>h (rK z))];refine⟨λz=>c λy=>z (by rw[zch];exact zaz _ y),λz=>?_⟩;rw[zch,zcg] at z;obtain⟨i,l,j,g,f⟩:=a (z.resolve_left λy=>h y.symm);exact⟨i+1,l,by simpa using j,g,by rw[f];congr 2;lia⟩
structure zN(ps:List Pr)(es:List En):Prop where
 nd:(es.map (·.1)).Nodup
 is:∀e∈es,e.2=kL ps e.1
 all:∀k,kL ps k≠[]->k∈es.map (·.1)
 ok:∀e∈es,cP e.1.1=true/\cP e.1.2=true
 len:es.length<=ps.length
theorem zN.new{ps:List Pr}{es:List En}(h:zN ps es){k:Str×Str}{j:Ti}(g:k ∉ es.map (·.1))(h1:cP k.1=true)(n:cP k.2=true):zN (ps++[(k,j)]) (es++[(k,[j])]):=by
 have o:kL ps k=[]:=by
  cases z:kL ps k with
  |nil=>rfl
  |cons a r=>exact absurd (h.all k (by rw[z];simp)) g
 refine⟨?_,λe c=>?_,λi f=>?_,λe c=>?_,by simp;exact h.len⟩
 ·rw[zbS,zbg];exact⟨h.nd,by simp,λx m y l e=>g ((show x=k by rw[e];simpa using l)▸m)⟩
 ·rw[gY];rcases zbJ.mp c with c|c
  ·rw[yIn (λz:k=e.1=>g (by rw[z];exact zcu.mpr ⟨e,c,rfl⟩)),zbL];exact h.is e c
  ·obtain rfl:e=(k,[j]):=by simpa using c
   rw[o,yIp rfl];rfl
 ·rw[gY] at f;rw[zbS,zbJ];by_cases z:k=i
  ·right;simp[z]
  ·rw[yIn z,zbL] at f;exact .inl (h.all i f)
 ·rcases zbJ.mp c with c|c
  ·exact h.ok e c
  ·obtain rfl:e=(k,[j]):=by simpa using c
   exact⟨h1,n⟩
theorem zN.old{ps:List Pr}{es:List En}(h:zN ps es){i:Nat}{e:En}{j:Ti}(t:es[i]? =some e):zN (ps++[(e.1,j)]) (es.set i (e.1,e.2++[j])):=by
 have s:i<es.length:=(zae.mp t).1;have a:es[i]=e:=(zae.mp t).2;have o:(es.set i (e.1,e.2++[j])).map (·.1)=es.map (·.1):=by
  rw[List.map_set];refine zbx (by simp) λn v u=>?_;rw[zbD];split
  ·next z=>subst z;simp[a]
  ·rfl
 refine⟨by rw[o];exact h.nd,λx f=>?_,λm c=>?_,λx f=>?_,by simp;have:=h.len;lia⟩
 ·rw[gY];obtain⟨n,l,rfl⟩:=zaG f;rw[zbD];split
  ·rw[yIp rfl,<-h.is e (by rw[<-a];exact zby _)]
  ·next z=>
   rw[zbT] at l;have g:e.1≠es[n].1:=λy=>by
    have:=(zah.mp h.nd)
    rcases Nat.lt_or_gt_of_ne z with q|q
    ·exact this i n (by simpa using s) (by simpa using l) q (by simp[a,y])
    ·exact this n i (by simpa using l) (by simpa using s) q (by simp[a,y])
   rw[yIn g,zbL];exact h.is _ (zby _)
 ·rw[o];rw[gY] at c;by_cases z:e.1=m
  ·rw[<-z];exact zcu.mpr ⟨e,by rw[<-a];exact zby _,rfl⟩
  ·rw[yIn z,zbL] at c;exact h.all m c
 ·rcases List.mem_or_eq_of_mem_set f with f|rfl
  ·exact h.ok x f
  ·exact h.ok e (by rw[<-a];exact zby _)
noncomputable def G0(es:List En):List (Option MO):=es.map λe=>some (.lst (e.2.map T3))
noncomputable def oJ(W:yak)(S:aA)(es:List En):aA:=S++some (vO W none (es.map λe=>K2 e.1) (locs (S.length+1) es.length))::G0 es
theorem DI{W:yak}{S:aA}{es:List En}:(oJ W S es)[S.length]? =some (some (vO W none (es.map λe=>K2 e.1) (locs (S.length+1) es.length))):=by
 unfold oJ;rw[zab (zcH _),zcA];rfl
theorem qS{W:yak}{S:aA}{es:List En}{i:Nat}{e:En}(h:es[i]? =some e):(oJ W S es)[S.length+1+i]? =some (some (.lst (e.2.map T3))):=by
 unfold oJ G0;rw[zab (by lia),show S.length+1+i - S.length=i+1 by lia,zan,zaZ,h];rfl
theorem yk{W:yak}{S:aA}{es:List En}{i:Nat}{e:En}{l:List Ti}(h:es[i]? =some e):(oJ W S es).set (S.length+1+i) (some (.lst (l.map T3)))=oJ W S (es.set i (e.1,l)):=by
 have a:es[i]'(zae.mp h).1=e:=(zae.mp h).2;have c:(es.set i (e.1,l)).map (λe=>K2 e.1)=es.map λe=>K2 e.1:=by
  rw[List.map_set];refine zbx (by simp) λn g f=>?_;rw[zbD];split
  ·next z=>subst z;simp[a]
  ·rfl
 unfold oJ G0;rw[c,zbT,List.map_set,zav _ _ (by lia),show S.length+1+i - S.length=i+1 by lia];rfl
theorem Gh{W:yak}{S:aA}{es:List En}{k:Str×Str}:List.set (oJ W S es++[some (MO.lst [])]) S.length (some (vO W none ((es.map λe:En=>K2 e.1)++[K2 k]) (locs (S.length+1) es.length++[D.loc (oJ W S es).length])))=oJ W S (es++[(k,[])]):=by
 have a:(oJ W S es).length=S.length+1+es.length:=by unfold oJ G0;simp;lia
 rw[a,<-pG];unfold oJ G0;rw[zbb,zav _ _ (zcH _),zcA];simp
theorem Eg(m:Nat)(d:D)(L:List (List D)):(L.map D.lst).map (sb m d)=L.map D.lst:=by rw[zct];rfl
theorem wI{m:Nat}{d:D}:∀(n b:Nat),m<b->(locs b n).map (sb m d)=locs b n
 |0,_,_=>rfl
 |n+1,b,h=>by
  show(if b=m then d else .loc b)::(locs (b+1) n).map (sb m d)=_;rw[yIn (by lia),wI n (b+1) (by lia)];rfl
noncomputable def DQ(W:yak)(S:aA)(ks:List D)(a r:List (List D)):aA:=S++some (vO W none ks (a.map D.lst++locs (S.length+1+a.length) r.length))::(a.map (λ_=>none)++r.map λl=>some (MO.lst l))
theorem Cm{W:yak}{S:aA}{ks:List D}:∀(r a:List (List D)),vS W S.length ks (a.map D.lst++locs (S.length+1+a.length) r.length) (DQ W S ks a r) ((a++r).map D.lst) (DQ W S ks (a++r) [])
 |[],a=>by
  have:a.map D.lst++locs (S.length+1+a.length) ([]:List (List D)).length=(a++[]).map D.lst:=by simp[locs]
  rw[this,zbL];exact .nil
 |l::r,a=>by
  have c:=Cm (W:=W) (S:=S) (ks:=ks) r (a++[l]);refine .step (m:=S.length+1+a.length) (es:=l) ?_ (by lia) ?_
  ·unfold DQ;rw[zab (by lia),show S.length+1+a.length - S.length=a.length+1 by lia,zan,zab (by simp)];simp
  ·have f:(a.map D.lst++locs (S.length+1+a.length) (l::r).length).map (sb (S.length+1+a.length) (.lst l))=(a++[l]).map D.lst++locs (S.length+1+(a++[l]).length) r.length:=by
    rw[zbS,Eg,zbq];show _++(if S.length+1+a.length=S.length+1+a.length then D.lst l else .loc (S.length+1+a.length))::(locs (S.length+1+a.length+1) r.length).map _=_;rw[yIp rfl,wI _ _ (by lia),zbS,zaL,zbb];rfl
   rw[f];have e:((DQ W S ks a (l::r)).set (S.length+1+a.length) none).set S.length (some (vO W none ks ((a++[l]).map D.lst++locs (S.length+1+(a++[l]).length) r.length)))=DQ W S ks (a++[l]) r:=by
    unfold DQ;rw[zav _ _ (by lia),show S.length+1+a.length - S.length=a.length+1 by lia,List.set_cons_succ,zav _ _ (zcH _),zcA,zaP,zav _ _ (by simp)];simp
   rw[e];rw[show a++l::r=(a++[l])++r by simp];exact c
theorem NB{W:yak}{S:aA}{es:List En}:oJ W S es=DQ W S (es.map λe=>K2 e.1) [] (es.map λe=>e.2.map T3):=by
 unfold oJ DQ G0;simp
theorem Fi{W:yak}{i n:Nat}{ks vs a:List D}{δ:bE}{S c:aA}{Q:AK}(h:δ[i]? =some (some (.loc n)))(e:ks.length=vs.length)(g:S[n]? =some (some (vO W none ks vs)))(f:vS W n ks vs S a c)(q:Q (.dat (.loc n)) c):xW W (fN i) δ S Q:=⟨_,h,n,ks,vs,a,c,rfl,e,g,f,q⟩
theorem rP:∀a b:List D,ck (a++b)=(ck a&&ck b)
 |[],b=>rfl
 |d::a,b=>by rw[zbw];simp only[ck];rw[rP a b,Bool.and_assoc]
theorem sF:∀(es:List En)(f:En->D)(k:Str×Str),dg (es.map λe=>K2 e.1) (es.map f) (K2 k)=(es.find? λe=>decide (e.1=k)).map f
 |[],_,_=>rfl
 |e::es,f,k=>by
  have a:=sF es f k;unfold dg at a⊢;rw[zch,zch,zaN,zbO,zbO];by_cases h:e.1=k
  ·rw[yDt h,yDt (show py (K2 e.1)=py (K2 k) by rw[h])];rfl
  ·rw[yDf h,yDf (λz=>h (rK z))];exact a
noncomputable def dc(us:List Ti):List Pr:=(us.map λj=>[((j.1,j.2.1),j),((j.1,("*":Str)),j)]).flatten
noncomputable def sel(us:List Ti)(sd x:Str):List Ti:=us.filter λj=>decide (j.1=sd)&&(decide (j.2.1=x)||decide (x="*"))
theorem AH{sd x:Str}:∀{us:List Ti},(∀j∈us,j.2.1≠"*")->kL (dc us) (sd,x)=sel us sd x
 |[],_=>rfl
 |j::us,h=>by
  have g:=AH (sd:=sd) (x:=x) (us:=us) λi n=>h i (zaz _ n);have l:=h j (by simp);unfold kL sel dc at g⊢;rw[zch,zba,List.filter_append,zbS,g,zbE];by_cases f:j.1=sd
  ·by_cases a:x="*"
   ·have m:¬j.2.1=x:=by rw[a];exact l
    have c:¬j.2.1="*":=l;simp[f,a,c]
   ·have e:¬("*":Str)=x:=λz=>a z.symm;by_cases m:j.2.1=x<;>simp[f,a,e,m]
  ·simp[f]
theorem B9{us:List Ti}{es:List En}(g:zN (dc us) es)(hw:∀j∈us,j.2.1≠"*")(sd x:Str):(dg (es.map λe=>K2 e.1) (es.map λe=>.lst (e.2.map T3)) (K2 (sd,x))).getD (.lst [])=.lst ((sel us sd x).map T3):=by
 rw[sF,<-AH hw];cases z:es.find? λe=>decide (e.1=(sd,x)) with
 |some e=>
  have h:=List.mem_of_find?_eq_some z;have f:e.1=(sd,x):=by simpa using List.find?_some z
  show D.lst (e.2.map T3)=_;rw[g.is e h,f]
 |none=>
  have i:kL (dc us) (sd,x)=[]:=by
   cases y:kL (dc us) (sd,x) with
   |nil=>rfl
   |cons a r=>
    obtain⟨e,c,l⟩:=zcu.mp (g.all (sd,x) (by rw[y];simp));have:=List.find?_eq_none.mp z e c;simp[l] at this
  rw[i];rfl
section
variable {P:yaj}{w:yak}{K:yaI}{mg:Str->Option yai}{base:Heap}{C fi G gi:Addr}
def Aw(W:yak):AN:=λf S Q=>∃a:List Ti,f=[.lst (a.map T3)]/\a.length<=60/\(∀j∈a,gH j=true)/\∀c,zN (dc a) c->Q (.new (vO W none (c.map λe=>K2 e.1) (c.map λe=>.lst (e.2.map T3)))) S
theorem Kq(T:Txt K mg C fi G gi)(F:Src K mg "steps_by_kind" jH Ba):Def P w K mg base 1 "steps_by_kind" jH (aM K (Aw w)):=by
 refine iu F qc (λds S Q h=>?_) (λf cdv A outer s H E hr=>?_)
 ·obtain⟨n,rfl,_⟩:=h;rfl
 ·refine⟨_,(M.ah (M.aO (i:=1) qc.nd rfl (Or.inl rfl) (M.nK M.qm)) (M.ah (M.cA PassesOwn.never rfl (M.bK (M.pv 0)) (M.aq (i:=2) qc.nd rfl (Or.inl rfl)) (M.aj (M.cA PassesOwn.never rfl (M.bK (M.aP (M.au (M.ao M.aF (M.pv 2) M.aa (λ_ _=>rfl)) (M.au T.Jh M.af)))) (M.aq (i:=3) qc.nd rfl (Or.inl rfl)) (M.aj (M.bL (M.iD PySem.F.plainAttrs_list PySem.F.slot_list_append PySem.F.type_list_append M.jd (M.mH hr (M.pv 1) (M.aP (M.au (M.ao M.aF (M.pv 2) M.aa (λ_ _=>rfl)) (M.au (M.pv 3) M.af))) (M.aZ M.af) ⟨rfl,rfl,rfl,rfl⟩) (M.au (M.pv 2) M.af))))))) (M.aj (M.aK (M.OX (M.pv 1)))))),λds S Q h=>?_⟩;obtain⟨n,rfl,hu,hok,q⟩:=h;have e0:aG yg [.lst (n.map T3)]=[some (.lst (n.map T3)),none,none,none]:=rfl;rw[e0];push_cast[cF,CW,iy,fM,dU,nP,xX];have one:∀(c:List En)(I:List Pr)(j:Ti)(x:Str)(Q':AK),zN I c->I.length<=200->gH j=true->cP x=true->
    (∀L,zN (I++[((j.1,x),j)]) L->Q' (.dat .bq) (oJ w S L))->
    xX "list" qN (nP w (fN 1) (zv (ju (Ht vJ (fN 2) (aC (D.int 0))) (ju (fN 3) gy))) (nQ gy)) (ju (fN 2) gy) [some (.lst (n.map T3)),some (.loc S.length),some (T3 j),some (.str x)] (oJ w S c) Q':=λc I j x Q' g hl hj hx q'=>by
   have o3:=dR hj;have gl:=g.len;push_cast[xX,nP,aS,gf];have hks:∀k∈c.map (λe:En=>K2 e.1),bS k:=λk hk=>by
    obtain⟨e,O,rfl⟩:=zcu.mp hk;exact good2 (g.ok e O).1 (g.ok e O).2
   have t:(c.map λe:En=>K2 e.1).length=(locs (S.length+1) c.length).length:=by rw[zbK,mZ]
   obtain⟨g1,U⟩:=Ck c (S.length+1) (j.1,x);refine⟨S.length,rfl,_,_,DI,t,sz rfl,zcI _,_,_,[],rfl,DI,t,good2 (k:=(j.1,x)) o3.1 hx,hks,by rw[zbK];lia,λd hd=>?_,λhn=>?_⟩
   ·by_cases l:(j.1,x)∈c.map (·.1)
    ·obtain⟨i,e,y,i2,Z⟩:=U l;have hd:some (D.loc (S.length+1+i))=some d:=by rw[<-Z];exact hd
     cases hd;have O:e∈c:=zaC y;have hel:e.2.length<=I.length:=by
      rw[g.is e O];unfold kL;rw[zbK];exact zaw ..
     rw[aT (qS y)];refine⟨rfl,S.length+1+i,_,_,rfl,rfl,qS y,by rw[zbK,yaf];lia,?_⟩;rw[show e.2.map T3++[T3 j]=(e.2++[j]).map T3 by simp,yk y];refine q' _ ?_;have:=g.old (j:=j) y;rw[i2] at this;rw[i2];exact this
    ·have hd:none=some d:=by rw[<-g1 l];exact hd
     cases hd
   ·have l:(j.1,x) ∉ c.map (·.1):=λl=>by
     obtain⟨i,e,y,i2,Z⟩:=U l;have:none=some (D.loc (S.length+1+i)):=by rw[<-Z];exact hn.symm
     cases this
    have hz:(c++[((j.1,x),([]:List Ti))])[c.length]? =some ((j.1,x),[]):=by simp
    have hl2:(oJ w S c).length=S.length+1+c.length:=by unfold oJ G0;simp;lia
    rw[show D.tup [D.str j.1,D.str x]=K2 (j.1,x) from rfl,Gh,hl2,aT (qS hz)];refine⟨rfl,S.length+1+c.length,_,_,rfl,rfl,qS hz,by show 0<yag;decide,?_⟩;rw[show(([]:List Ti).map T3++[T3 j])=[j].map T3 from rfl,yk hz];refine q' _ ?_;have:=g.new (j:=j) l o3.1 hx;rw[show(c++[((j.1,x),([]:List Ti))]).set c.length ((j.1,x),[j])=c++[((j.1,x),[j])] by rw[zav _ _ (zcH _),zcA];rfl];exact this
  refine bY (λrest X S'=>∃(done m:List Ti)(c:List En)(v2 Y:Option D),rest=m.map T3/\done++m=n/\X=[some (.lst (n.map T3)),some (.loc S.length),v2,Y]/\S'=oJ w S c/\zN (dc done) c) ?_ ?_ _ _ _ ⟨[],n,[],none,none,rfl,rfl,rfl,by unfold oJ G0;rfl,⟨.nil,by simp,λk h=>absurd rfl h,by simp,by simp⟩⟩
  ·rintro X S' ⟨done,m,c,v2,Y,v,z,rfl,rfl,g⟩;have:m=[]:=by cases m with|nil=>rfl|cons _ _=>simp at v
   subst this;rw[zbL] at z;subst z;refine⟨trivial,?_⟩;show xW w (fN 1) _ _ _;have fz:=Cm (W:=w) (S:=S) (ks:=c.map λe:En=>K2 e.1) (c.map λe=>e.2.map T3) [];rw[<-NB] at fz;refine Fi rfl (by rw[zbK,mZ]) DI (by simpa using fz) ?_;have e9:(c.map λe:En=>e.2.map T3).map D.lst=c.map λe:En=>D.lst (e.2.map T3):=by rw[zct];rfl
   refine lY (o:=vO w none (c.map λe:En=>K2 e.1) (c.map λe=>.lst (e.2.map T3))) (zcH _) ?_ ?_ ?_ (q c g)
   ·unfold DQ;rw[zab (zcH _),zcA];simp[locs,e9]
   ·unfold DQ;rw[List.take_left]
   ·show gQ S.length (_++_)=true;refine cE _ _ ?_;rw[rP,cI λ_ _=>rfl,cI λe _=>?_]
    ·rfl
    ·show ck (e.2.map T3)=true;exact cI λ_ _=>rfl
  ·rintro x xs X S' N ⟨done,m,c,v2,Y,v,z,rfl,rfl,g⟩ hN;cases m with
   |nil=>simp at v
   |cons r m=>
    rw[zch] at v;injection v with v e3;subst v;subst e3;have hr:r∈n:=by rw[<-z];simp
    have hdl:done.length<=60:=by have:=congrArg zcG z;rw[zaL] at this;lia
    refine⟨trivial,?_⟩;push_cast[iy,fM,dU,aS,kJ];refine⟨sz rfl,trivial,?_⟩;have u:=hok r hr;have pl:∀d:List Ti,(dc d).length=2*d.length:=λd=>by
     unfold dc
     induction d with
     |nil=>rfl
     |cons a b ih=>rw[zch,zba,zaL,ih];simp;lia
    have pa:dc (done++[r])=(dc done++[((r.1,r.2.1),r)])++[((r.1,("*":Str)),r)]:=by unfold dc;simp
    have hp:=pl done;refine one c (dc done) r r.2.1 _ g (by lia) u (dR u).2.1 λes1 g1=>⟨trivial,?_⟩
    refine one es1 _ r "*" _ g1 (by rw[zaL];show _+1<=200;lia) u (by decide+kernel) λes2 U=>⟨trivial,?_⟩
    exact hN _ _ ⟨done++[r],m,es2,_,_,rfl,by rw[<-z];simp,rfl,rfl,by rw[pa];exact U⟩
end
open PySem PySem.Spec L2 M M6 PyProof.Rows
noncomputable abbrev Bb:Stmt:=inClass (top 9) 0
noncomputable abbrev DE:List Str:=["self","web","machine"]
noncomputable abbrev ki:List Str:=["self","web","machine"]
theorem LA:az DE ki (ai Bb):=L2.cM
noncomputable abbrev Bc:Stmt:=inClass (top 9) 1
noncomputable abbrev yi:List Str:=["self","place"]
noncomputable abbrev jI:List Str:=["self","place"]
theorem Ig:az yi jI (ai Bc):=L2.cM
noncomputable abbrev IJ:Stmt:=inClass (top 9) 2
noncomputable abbrev DB:List Str:=["self","place","marks"]
noncomputable abbrev nX:List Str:=["self","place"]
theorem GH:az DB nX (ai IJ):=L2.cM
noncomputable abbrev IL:Stmt:=inClass (top 9) 3
noncomputable abbrev DF:List Str:=["self","place","found","leaf","stand","steps"]
noncomputable abbrev nZ:List Str:=["self","place"]
theorem rA:az DF nZ (ai IL):=L2.cM
noncomputable abbrev IK:Stmt:=inClass (top 9) 4
noncomputable abbrev DC:List Str:=["self","place"]
noncomputable abbrev nY:List Str:=["self","place"]
theorem Lz:az DC nY (ai IK):=L2.cM
theorem eu{a b:AS}{e:gX}{δ:bE}{S:aA}(h:∀N:bE->aA->Prop,(∀c S',b e c S'->N c S')->a {e with nx:=N} δ S):tG a b e δ S:=h _ λ_ _ z=>z
section
variable {α:Type}{f:Str×α->D}
noncomputable def t6(l:List (Str×α)):List Key:=l.map λp=>.inr p.1
theorem uY(l:List (Str×α))(x:Str):gu (t6 l) (.inr x)=decide (x∈l.map (·.1)):=by
 unfold gu t6;rw[zcs];by_cases h:x∈l.map (·.1)
 ·rw[yDt h];obtain⟨k,a,rfl⟩:=zcu.mp h;exact zbC.mpr ⟨k,a,by simp⟩
 ·rw[yDf h];refine zaY.mpr λk a z=>h ?_;have z:(Sum.inr k.1:Key)=.inr x:=of_decide_eq_true z;injection z with z;exact zcu.mpr ⟨k,a,z⟩
theorem uZ{x:Str}:∀{l:List (Str×α)},x∈l.map (·.1)->∃p∈l,p.1=x/\gv (t6 l) (l.map f) (.inr x)=some (f p)
 |[],h=>by simp at h
 |p::l,h=>by
  unfold gv t6;rw[zch,zch,zaN,zbO];by_cases e:p.1=x
  ·refine⟨p,by simp,e,?_⟩;rw[yDt (show(Sum.inr p.1:Key)=.inr x by rw[e])];rfl
  ·have a:x∈l.map (·.1):=by
    rcases zcg.mp (show x∈p.1::l.map (·.1) from h) with z|z
    ·exact absurd z.symm e
    ·exact z
   obtain⟨q,i,g,c⟩:=uZ a;refine⟨q,zaz _ i,g,?_⟩;rw[yDf (λz=>e (by injection z))];exact c
theorem pI:∀(l a:List (Str×α)),((a++l).map (·.1)).Nodup->(l.map λp=>((.inr p.1:Key),f p)).foldl qU (t6 a,a.map f)=(t6 (a++l),(a++l).map f)
 |[],a,_=>by simp
 |p::l,a,h=>by
  rw[zch,zbQ];have c:p.1 ∉ a.map (·.1):=λz=>by
   rw[zbS,zbg] at h;exact h.2.2 p.1 z p.1 (by simp) rfl
  have e:qU (t6 a,a.map f) ((.inr p.1:Key),f p)=(t6 (a++[p]),(a++[p]).map f):=by
   unfold qU;dsimp only;rw[uY,yDf c,yIn (by decide)];unfold t6;simp
  rw[e,pI l (a++[p]) (by simpa using h)];simp
theorem B8{l:List (Str×α)}(h:(l.map (·.1)).Nodup):kT (l.map λp=>((.inr p.1:Key),f p))=(t6 l,l.map f):=pI l [] h
end
noncomputable abbrev gl:List Str:=["near","marked","paths"]
noncomputable def G1(p:Str×List Str):D:=.lst (p.2.map D.str)
noncomputable def Mx(p:Str×Nat):D:=.loc p.2
def Dt(W:yak)(S:aA)(ts:List Ti)(p:Str×Nat):Prop:=∃a c,S[p.2]? =some (some (vO W none (c.map λe:En=>K2 e.1) (c.map λe=>.lst (e.2.map T3))))/\zN (dc a) c/\a.Nodup/\∀j,j∈a↔stp ts p.1 j
structure tY(G:Addr)(W:yak)(S:aA)(g a b c:Nat)(n:Nat)(mv:List Mv)(kr:List Kn)(ts:List Ti)(l1:List (Str×List Str))(l2:List (Str×Nat)):Prop where
 at_:S[g]? =some (some (.ins G gl [.loc a,.loc b,.loc c]))
 ne:S[a]? =some (some (i9 n mv))
 mr:S[b]? =some (some (.dct (t6 l1) (l1.map G1)))
 pt:S[c]? =some (some (.dct (t6 l2) (l2.map Mx)))
 k1:(l1.map (·.1)).Perm (nms kr)
 k2:(l2.map (·.1)).Perm (nms kr)
 v1:∀p∈l1,∃k∈kr,k.1=p.1/\p.2.Perm k.2
 v2:∀p∈l2,Dt W S ts p
def zH(G:Addr)(W:yak)(S:aA)(g n:Nat)(e:List Mv)(i:List Kn)(ts:List Ti):Prop:=∃a b c h f,tY G W S g a b c n e i ts h f
section
variable {P:yaj}{w:yak}{K:yaI}{mg:Str->Option yai}{base:Heap}{C fi G gi:Addr}
def GD(C G:Addr)(W:yak):AN:=λj S Q=>∃g f own h e n b i a,j=[.loc g,.loc f,mD n b i a]/\S.length=g+1/\S[g]? =some (some (.ins G [] []))/\cj C W S f own h e/\g ∉ own/\e.length<30/\n<=60/\(∀m∈a,qR n m)/\a.length<=60/\
 ∀c,zH G W c g n a h e->(∀k,k<g->c[k]? =S[k]?)->g<c.length->Q (.dat .bq) c
theorem Nf{f:Addr}{fd:yap}(T:Txt K mg C fi G gi)(F:zP K "__init__" "Ground.__init__" Bb f fd)(t:Def P w K mg base 2 "moves_near" jA (aM K Am))(e:Def P w K mg base 1 "steps_by_kind" jH (aM K (Aw w)))(I:cQ P w K mg base 1 C "knots" nV (Gy C w))(lK:cQ P w K mg base 2 C "marks" nU (Gx C w))(X:cQ P w K mg base 2 C "steps" nT (Gw C w)):cW P w K mg base jL 3 f fd ki (aM K (GD C G w)):=by
 refine OH F LA (λds S Q h=>?_) (λf cdv A outer s H E hr=>?_)
 ·obtain⟨g,W,own,O,Z,n,b,es,mv,rfl,_⟩:=h;rfl
 ·refine⟨_,(M.ah (M.gE (M.pv 0) (M.nK (M.ow t hr (M.au (M.pv 2) M.af))) T.clG T.n_nearG) (M.ah (M.gE (M.pv 0) (M.nK (M.uM (M.lg hr) (by rfl) T.dict (by decide+kernel) (M.au (M.bH (N:=["knot","web"]) (caps:=[none,some 1]) (cU (by decide+kernel)) (by rfl) (by rfl) rfl (M.bK (M.i7 (M.pv 1) T.cl I (hr.mono (by decide)))) (λ_ _ _ _=>(M.aq (i:=0) (by decide+kernel:List.Nodup (["knot","web"]:List Str)) rfl (Or.inl rfl))) (λ_ _ _ _=>M.cJ) (λ_ _ _ _=>(M.aP (M.au (M.pv 0) (M.au (M.bP (M.pv 1) T.cl lK (hr.mono (by decide)) (M.au (M.pv 0) M.af)) M.af))))) M.af))) T.clG T.n_markedG) (M.aj (M.gE (M.pv 0) (M.nK (M.uM (M.lg hr) (by rfl) T.dict (by decide+kernel) (M.au (M.bH (N:=["knot","web"]) (caps:=[none,some 1]) (cU (by decide+kernel)) (by rfl) (by rfl) rfl (M.bK (M.i7 (M.pv 1) T.cl I (hr.mono (by decide)))) (λ_ _ _ _=>(M.aq (i:=0) (by decide+kernel:List.Nodup (["knot","web"]:List Str)) rfl (Or.inl rfl))) (λ_ _ _ _=>M.cJ) (λ_ _ _ _=>(M.aP (M.au (M.pv 0) (M.au (M.nK (M.ow e hr (M.au (M.bP (M.pv 1) T.cl X (hr.mono (by decide)) (M.au (M.pv 0) M.af)) M.af))) M.af))))) M.af))) T.clG T.n_pathsG)))),λds S Q h=>?_⟩;obtain⟨g,W,own,O,Z,n,b,es,mv,rfl,hl,hg,X0,hgo,htl,hn,hmv,hml,q⟩:=h;have e0:aG DE [.loc g,.loc W,mD n b es mv]=[some (.loc g),some (.loc W),some (mD n b es mv)]:=rfl;rw[e0];push_cast[true_and];have p2:∀a c:D,putD "marked" c ["near"] [a]=((["near","marked"]:List Str),[a,c]):=λa c=>by
   unfold putD;rw[yIn (by decide+kernel)];rfl
  have p3:∀a c d:D,putD "paths" d ["near","marked"] [a,c]=((["near","marked","paths"]:List Str),[a,c,d]):=λa c d=>by
   unfold putD;rw[yIn (by decide+kernel)];unfold putD;rw[yIn (by decide+kernel)];rfl
  obtain⟨m0,t0,ee0,cs0,_,hk0,XI⟩:=id X0;have hkn:(nms O).Nodup:=by rw[<-hk0,fZ];exact XI.kn
  have hkl:O.length<64:=by rw[<-hk0,zbK];exact XI.kb
  have hwt:∀x j,stp Z x j->gH j=true/\cP x=true:=λx j hj=>by
   rcases hj with⟨h1,h2⟩|⟨h1,h2⟩
   ·have:=dR (XI.qq _ h2);exact⟨by unfold gH;rw[h1,this.2.1,this.2.2];rfl,this.1⟩
   ·have:=dR (XI.qq _ h2);exact⟨by unfold gH;rw[h1,this.2.1,this.1];rfl,this.2.2⟩
  clear XI hk0;refine qB (o:=i9 n mv) rfl hg (by decide) (λQ' q'=>⟨_,rfl,n,b,es,mv,rfl,hn,hmv,hml,q'⟩) rfl ?_;generalize e1:(S++[some (i9 n mv)]).set g _=S1;have l1:S1.length=g+2:=by rw[<-e1,zbT,zaL];simp;lia
  have a1:S1[g]? =some (some (.ins G ["near"] [.loc S.length])):=by rw[<-e1];exact fk (bu hg)
  have b1:S1[S.length]? =some (some (i9 n mv)):=by rw[<-e1,aU (by lia)];exact aR
  have X1:cj C w S1 W own O Z:=X0.frame λc hc=>by
   rw[<-e1,aU (show c≠g from λz=>hgo (z▸hc)),bD (X0.lt c hc)]
  have k1:∀k,k<g->S1[k]? =S[k]?:=λk hk=>by rw[<-e1,aU (by lia),bD (by lia)]
  rw[hl] at a1 b1;have hol:∀c∈own,c<g:=λc hc=>by
   have h1:=X0.lt c hc;have h2:c≠g:=λz=>hgo (z▸hc);lia
  clear e1 X0 hg hl hgo;dsimp only;refine eu λN0 hN0=>?_;obtain⟨m1,t1,ee1,cs1,_,_,XI1⟩:=id X1;unfold wL cF aCall ju gy;refine lF (qI (cN (m:="knots") rfl XI1.at_ (by decide+kernel) ⟨W,own,O,Z,rfl,X1,λss hss=>?_⟩));have hsn:ss.Nodup:=hss.nodup_iff.mpr hkn;have hsl:ss.length<64:=by rw[hss.length_eq,zbK];exact hkl
  refine ic (λrest L δ S'=>∃(l rs:List (Str×List Str))(u:List Str)(v:Option D),rest=u.map D.str/\l.map (·.1)++u=ss/\L=l.map (λp=>.tup [.str p.1,G1 p])/\δ=[v,some (.loc W)]/\S1=S'/\∀p∈l,∃k∈O,k.1=p.1/\p.2.Perm k.2) ?_ ?_ _ _ _ _ ⟨[],[],ss,none,rfl,rfl,rfl,rfl,rfl,by simp⟩
  ·rintro L δ S' ⟨lm,_,u,v,r1,r2,rfl,rfl,rfl,hlm⟩;have:u=[]:=by cases u with|nil=>rfl|cons _ _=>simp at r1
   subst this;rw[zbL] at r2;have hln:(lm.map (·.1)).Nodup:=by rw[r2];exact hsn
   refine⟨trivial,_,lm.map (λp=>((.inr p.1:Key),G1 p)),rfl,?_,?_,?_⟩
   ·rw[fu];simp only[bz,MO.d,zct];rfl
   ·have:=congrArg zcG r2;rw[zbK] at this⊢;lia
   ·rw[B8 hln];refine⟨_,rfl,g,_,_,rfl,bu a1,by decide,?_⟩;rw[p2];generalize e2:List.set (S1++[some (MO.dct (t6 lm) (lm.map G1))]) g _=S2;have l2:S2.length=g+3:=by rw[<-e2,zbT,zaL];simp;lia
    have a2:S2[g]? =some (some (.ins G ["near","marked"] [.loc (g+1),.loc S1.length])):=by rw[<-e2];exact fk (bu a1)
    have b2:S2[g+1]? =some (some (i9 n mv)):=by rw[<-e2,aU (by lia)];exact bu b1
    have c2:S2[S1.length]? =some (some (.dct (t6 lm) (lm.map G1))):=by rw[<-e2,aU (by lia)];exact aR
    have X2:cj C w S2 W own O Z:=X1.frame λc hc=>by
     have:=hol c hc;rw[<-e2,aU (by lia),bD (by lia)]
    have k2:∀k,k<g->S2[k]? =S[k]?:=λk hk=>by rw[<-e2,aU (by lia),bD (by lia)];exact k1 k hk
    rw[l1] at a2 c2;clear e2 X1 XI1 a1 b1 k1 l1;obtain⟨m2,t2,ee2,cs2,_,_,XI2⟩:=id X2;refine hN0 _ _ ?_;unfold wL cF aCall ju gy;refine lF (qI (cN (m:="knots") rfl XI2.at_ (by decide+kernel) ⟨W,own,O,Z,rfl,X2,λs2 hs2=>?_⟩));have OQ:s2.Nodup:=hs2.nodup_iff.mpr hkn;have hsl2:s2.length<64:=by rw[hs2.length_eq,zbK];exact hkl
    refine ic (λrest L δ S'=>∃(l:List (Str×Nat))(u:List Str)(v:Option D)(Y:aA),rest=u.map D.str/\l.map (·.1)++u=s2/\L=l.map (λp=>.tup [.str p.1,Mx p])/\δ=[v,some (.loc W)]/\S'=S2++Y/\∀p∈l,Dt w S' Z p) ?_ ?_ _ _ _ _ ⟨[],s2,none,[],rfl,rfl,rfl,rfl,by simp,by simp⟩
    ·rintro L δ S' ⟨lp,u,v,Y,q1,q2,rfl,rfl,rfl,hlp⟩;have:u=[]:=by cases u with|nil=>rfl|cons _ _=>simp at q1
     subst this;rw[zbL] at q2;have OT:(lp.map (·.1)).Nodup:=by rw[q2];exact OQ
     refine⟨trivial,_,lp.map (λp=>((.inr p.1:Key),Mx p)),rfl,?_,?_,?_⟩
     ·rw[fu];simp only[bz,MO.d,zct];rfl
     ·have:=congrArg zcG q2;rw[zbK] at this⊢;lia
     ·rw[B8 OT];refine⟨_,rfl,g,_,_,rfl,bu (bu a2),by decide,?_⟩;rw[p3];generalize e3:List.set (S2++Y++[some (MO.dct (t6 lp) (lp.map Mx))]) g _=S3;have hlY:(S2++Y).length=g+3+Y.length:=by rw[zaL,l2]
      have old:∀k,k≠g->k<(S2++Y).length->S3[k]? =(S2++Y)[k]?:=λk h1 h2=>by rw[<-e3,aU h1,bD h2]
      refine q S3 ⟨g+1,g+2,(S2++Y).length,lm,lp,?_,?_,?_,?_,by rw[r2];exact hss,by rw[q2];exact hs2,hlm,λp U=>?_⟩ (λk hk=>?_) ?_
      ·rw[<-e3];exact fk (bu (bu a2))
      ·rw[old _ (by lia) (by lia)];exact bu b2
      ·rw[old _ (by lia) (by lia)];exact bu c2
      ·rw[<-e3,aU (by lia)];exact aR
      ·obtain⟨us,es,z1,z2⟩:=hlp p U;refine⟨us,es,?_,z2⟩;rw[old _ (λz=>?_) (e7 z1)]
       ·exact z1
       ·rw[z,bu a2] at z1;simp[vO] at z1
      ·rw[old _ (by lia) (by lia),bD (by lia)];exact k2 k hk
      ·rw[<-e3,zbT,zaL];lia
    ·rintro x xs L δ S' N ⟨lp,u,v,Y,q1,q2,rfl,rfl,rfl,hlp⟩ hN;cases u with
     |nil=>simp at q1
     |cons y u=>
      rw[zch] at q1;injection q1 with q1 q3;subst q1;subst q3;have hy:y∈nms O:=hs2.mem_iff.mp (by rw[<-q2];simp);have XY:cj C w (S2++Y) W own O Z:=X2.frame λc hc=>bD (X2.lt c hc);obtain⟨m3,t3,ee3,cs3,_,_,XI3⟩:=id XY;refine⟨trivial,?_⟩;simp only[bZ,oH,if_true,zv,zaP];refine⟨_,rfl,cN (i:=1) (m:="steps") rfl XI3.at_ (by decide+kernel) ⟨_,rfl,W,own,O,Z,y,rfl,XY,hy,by lia,λus hu1 hu2 hu3=>?_⟩⟩;refine⟨us,rfl,by have:=iR hu1 λj hj=>(hu2 j).mp hj;lia,hu3,λes hes=>?_⟩;refine⟨sz rfl,?_,?_⟩
      ·have:=congrArg zcG q2;rw[zaL,zbK] at this;rw[zbK,yaf];lia
      ·refine hN _ _ _ ⟨lp++[(y,(S2++Y).length)],u,_,Y++[some _],rfl,by rw[<-q2];simp,by rw[zbS];rfl,rfl,by rw[zbb],λp U=>?_⟩;rcases zbJ.mp U with U|U
       ·obtain⟨us',es',z1,z2⟩:=hlp p U;exact⟨us',es',bu z1,z2⟩
       ·obtain rfl:p=(y,(S2++Y).length):=by simpa using U
        exact⟨us,es,aR,hes,hu1,hu2⟩
  ·rintro x xs L δ S' N ⟨lm,_,u,v,r1,r2,rfl,rfl,rfl,hlm⟩ hN;cases u with
   |nil=>simp at r1
   |cons y u=>
    rw[zch] at r1;injection r1 with r1 r3;subst r1;subst r3;have hy:y∈nms O:=hss.mem_iff.mp (by rw[<-r2];simp);obtain⟨k,hk,rfl⟩:=zcu.mp hy;refine⟨trivial,?_⟩;simp only[bZ,oH,if_true,zv,ju,aCall,gy,zaP];refine⟨_,rfl,cN (i:=1) (m:="marks") rfl XI1.at_ (by decide+kernel) ⟨_,rfl,W,own,O,Z,k,rfl,X1,hk,λms hms=>?_⟩⟩;refine⟨sz rfl,?_,?_⟩
    ·have:=congrArg zcG r2;rw[zaL,zbK] at this;rw[zbK,yaf];lia
    ·refine hN _ _ _ ⟨lm++[(k.1,ms)],[],u,_,rfl,by rw[<-r2];simp,by rw[zbS];rfl,rfl,rfl,λp U=>?_⟩;rcases zbJ.mp U with U|U
     ·exact hlm p U
     ·obtain rfl:p=(k.1,ms):=by simpa using U
      exact⟨k,hk,rfl,hms⟩
end
open PySem PySem.Spec L2 M M6 PyProof.Rows
noncomputable def PD(p:Str×Int):D:=.tup [.str p.1,.int p.2]
theorem Cy{n:Nat}{i:Int}:gu (kN n) (.inl i)=decide (0<=i/\i<n):=by
 by_cases h:0<=i
 ·obtain⟨k,rfl⟩:∃k:Nat,i=k:=⟨i.toNat,by lia⟩
  rw[xM];congr 1;exact propext ⟨λz=>⟨h,by lia⟩,λz=>by lia⟩
 ·rw[yDf (by lia)];unfold gu kN;rw[zcs,zaY];intro j _;simp;lia
section
variable {G:Addr}{W:yak}{S:aA}{g a b c n:Nat}{mv:List Mv}{kr:List Kn}{ts:List Ti}{l1:List (Str×List Str)}{l2:List (Str×Nat)}
theorem Cg(X:tY G W S g a b c n mv kr ts l1 l2){i:Nat}{δ:bE}{Q:AK}(e:δ[i]? =some (some (.loc g)))(q:Q (.dat (.loc a)) S):tM G (fN i) "near" δ S Q:=⟨_,e,g,_,_,_,rfl,X.at_,rfl,q⟩
theorem G8(X:tY G W S g a b c n mv kr ts l1 l2){i:Nat}{δ:bE}{Q:AK}(e:δ[i]? =some (some (.loc g)))(q:Q (.dat (.loc b)) S):tM G (fN i) "marked" δ S Q:=⟨_,e,g,_,_,_,rfl,X.at_,rfl,q⟩
theorem ML(X:tY G W S g a b c n mv kr ts l1 l2){i:Nat}{δ:bE}{Q:AK}(e:δ[i]? =some (some (.loc g)))(q:Q (.dat (.loc c)) S):tM G (fN i) "paths" δ S Q:=⟨_,e,g,_,_,_,rfl,X.at_,rfl,q⟩
end
section
variable {P:yaj}{w:yak}{K:yaI}{mg:Str->Option yai}{base:Heap}{C fi G gi:Addr}
def Ay(G:Addr)(W:yak):AN:=λf S Q=>∃g n e a c x i,f=[.loc g,PD (x,i)]/\zH G W S g n e a c/\Q (.dat (.bl (decide (x∈nms a)&&decide (0<=i/\i<n)))) S
theorem Ks(T:Txt K mg C fi G gi)(F:iz K G "has" "Ground.has" jI Bc):cQ P w K mg base 1 G "has" jI (Ay G w):=by
 refine gm F Ig (λy S Q h=>?_) (λf z A outer s H E l=>?_)
 ·obtain⟨g,n,o,j,m,x,i,rfl,_⟩:=h;rfl
 ·refine⟨_,(M.aj (M.aK (M.uL (M.cZ (M.BR l) (M.ao M.aF (M.pv 1) M.aa (λ_ _=>rfl)) (M.bQ (M.pv 0) T.clG T.n_markedG) rfl) (M.uJ (M.cZ (M.BR l) (M.ao M.aF (M.pv 1) M.aa (λ_ _=>rfl)) (M.bQ (M.pv 0) T.clG T.n_nearG) rfl))))),λy S Q h=>?_⟩;obtain⟨g,n,o,j,m,x,i,rfl,⟨a,b,c,t,I,X⟩,q⟩:=h;have v:aG yi [.loc g,PD (x,i)]=[some (.loc g),some (PD (x,i))]:=rfl;rw[v];push_cast[PD,aS,gf,kJ,tL];refine G8 X rfl ?_;rw[fy,aT X.mr];refine⟨.inr x,rfl,?_⟩;have u:gu (t6 t) (.inr x)=decide (x∈nms j):=by rw[uY];congr 1;exact propext X.k1.mem_iff
  rw[u];by_cases e:x∈nms j
  ·rw[yDt e,yIp (by decide)];refine Cg X rfl ?_;rw[fy,aT X.ne];refine⟨.inl i,rfl,?_⟩;rw[Cy];rw[yDt e] at q;simpa using q
  ·rw[yDf e,yIn (by decide)];rw[yDf e] at q;exact q
def Led(f:List Kn)(ts:List Ti)(e:List Mv)(x:Str)(s:Nat)(p:Str×Nat):Prop:=∃m∈e,m.1=s/\m.2.2=p.2/\((p.1=x/\∃k∈f,k.1=x/\hold m.2.1 k.2=true)∨∃c a j,m.2.1=.step c a/\stp ts x j/\j.1=side c/\(j.2.1=a∨a="*")/\p.1=j.2.2)
def GB(G:Addr)(W:yak):AN:=λf S Q=>∃g n a c e x s k,f=[.loc g,PD (x,(s:Nat))]/\zH G W S g n a c e/\s<n/\(nms c).Nodup/\k∈c/\k.1=x/\texts k.2/\(∀m∈a,qR n m)/\a.length<=60/\Q (.new (.lst (((a.filter λm=>decide (m.1=s)).filter λm=>hold m.2.1 k.2).map λm=>.tup [PD (x,(m.2.2:Nat)),.bq]))) S
theorem Nc(T:Txt K mg C fi G gi)(F:iz K G "led_without_step" "Ground.led_without_step" nX IJ)(e:Def P w K mg base 1 "holds" gW (aM K wB)):cQ P w K mg base 2 G "led_without_step" nX (GB G w):=by
 refine gm F GH (λds S Q h=>?_) (λf cdv A outer s H E O=>?_)
 ·obtain⟨g,n,z,kr,ts,x,s,k,rfl,_⟩:=h;rfl
 ·refine⟨_,(M.ah (M.aO (i:=2) GH.nd rfl (Or.inr rfl) (M.cC (dW O) (M.bQ (M.pv 0) T.clG T.n_markedG) (M.ao M.aF (M.pv 1) M.aa (λ_ _=>rfl)) (λ_ _=>rfl))) (M.aj (M.aK (M.bH (N:=["leaf","stand","place","marks"]) (caps:=[none,none,some 1,some 2]) (cU (by decide+kernel)) (by rfl) (by rfl) rfl (M.bK (M.cC (dW O) (M.bQ (M.pv 0) T.clG T.n_nearG) (M.ao M.aF (M.pv 1) M.aa (λ_ _=>rfl)) (λ_ _=>rfl))) (λ_ _ _ _=>(M.eN (n:=2) rfl (M.aL (M.aq (i:=0) (by decide+kernel:List.Nodup (["leaf","stand","place","marks"]:List Str)) rfl (Or.inl rfl)) (M.aL (M.aq (i:=1) (by decide+kernel:List.Nodup (["leaf","stand","place","marks"]:List Str)) rfl (Or.inl rfl)) M.cR)))) (λ_ _ _ _=>(M.cY (M.l9 (M.ow e O (M.au (M.pv 0) (M.au (M.pv 3) M.af)))))) (λ_ _ _ _=>(M.aP (M.au (M.aP (M.au (M.ao M.aF (M.pv 2) M.aa (λ_ _=>rfl)) (M.au (M.pv 1) M.af))) (M.au M.uK M.af)))))))),λds S Q h=>?_⟩;obtain⟨g,n,z,kr,ts,x,s,k,rfl,⟨a,b,c,l1,l2,X⟩,hs,hkn,hk,u,t,Y,hml,q⟩:=h;have e0:aG DB [.loc g,PD (x,(s:Nat))]=[some (.loc g),some (PD (x,(s:Nat))),none]:=rfl;rw[e0];push_cast[PD,aS,gf,kJ,fE];have L:x∈l1.map (·.1):=X.k1.mem_iff.mpr (zcu.mpr ⟨k,hk,u⟩);obtain⟨p,hp,U,W⟩:=uZ (f:=G1) L;obtain⟨v,hk',e1,j⟩:=X.v1 p hp;obtain rfl:v=k:=jV hkn hk' hk (by rw[e1,U,u]);have hh:∀l:Lf,hold l p.2=hold l v.2:=λl=>by
   cases l with
   |mk b m=>
    simp only[hold];rw[show decide (m∈p.2)=decide (m∈v.2) from by congr 1;exact propext j.mem_iff]
   |_=>rfl
  have ht:texts p.2:=⟨by rw[j.length_eq];exact t.1,λy hy=>t.2 y (j.mem_iff.mp hy)⟩
  refine G8 X rfl ⟨_,_,aT X.mr,_,rfl,_,W,?_⟩;push_cast[dD,fM,fE,aS,gf,kJ];refine Cg X rfl ⟨_,_,aT X.ne,_,rfl,_,qE hs,?_⟩;refine bg (α:=Mv) pD (λm=>hold m.2.1 p.2) (λm=>.tup [PD (x,(m.2.2:Nat)),.bq]) (λm=>[some (lD m.2.1),some (.int (m.2.2:Nat)),some (PD (x,(s:Nat))),some (G1 p)])
   (λδ=>∃v0 v1,δ=[v0,v1,some (PD (x,(s:Nat))),some (G1 p)]) trivial (λm=>⟨_,_,rfl⟩) (z.filter λm=>decide (m.1=s)) [] _ ⟨none,none,rfl⟩ (λm Z δ I Q' o=>?_) (λm Z Q' o=>?_) (λm Z Q' o=>?_) ?_ ?_
  ·obtain⟨v0,v1,rfl⟩:=I;exact⟨_,rfl,rfl,_,_,rfl,_,_,rfl,rfl,o⟩
  ·exact⟨_,rfl,_,rfl,m.2.1,p.2,rfl,(Y m (zbI.mp Z).1).2.1,ht,_,rfl,o⟩
  ·push_cast[PD,aS,gf];exact⟨sz rfl,sz rfl,o⟩
  ·have:=zaw (λm:Mv=>decide (m.1=s)) z;rw[yaf];simp;lia
  ·rw[zbR,show(λm:Mv=>hold m.2.1 p.2)=λm=>hold m.2.1 v.2 from funext λm=>hh _];exact q
noncomputable def lo1(us:List Ti)(m:Mv):List ((Str×Nat)×Ti):=match m.2.1 with
 |.step b wd=>(sel us (side b) wd).map λj=>((j.2.2,m.2.2),j)
 |_=>[]
noncomputable def Hy(us:List Ti)(a:List Mv):List ((Str×Nat)×Ti):=(a.map (lo1 us)).flatten
noncomputable def NQ(p:(Str×Nat)×Ti):D:=.tup [PD (p.1.1,(p.1.2:Nat)),T3 p.2]
def GF(G:Addr)(W:yak):AN:=λi S Q=>∃g n c f a x s,i=[.loc g,PD (x,(s:Nat))]/\zH G W S g n c f a/\s<n/\x∈nms f/\(∀m∈c,qR n m)/\c.length<=60/\a.length<30/\(∀t∈a,t.2.1≠"*")/\∀L:List ((Str×Nat)×Ti),L.length<=3600->
 (∀p,p∈L.map (·.1)↔∃m∈c,m.1=s/\m.2.2=p.2/\∃h e j,m.2.1=.step h e/\stp a x j/\j.1=side h/\(j.2.1=e∨e="*")/\p.1=j.2.2)->Q (.new (.lst (L.map NQ))) S
theorem Ng(T:Txt K mg C fi G gi)(F:iz K G "led_by_step" "Ground.led_by_step" nZ IL):cQ P w K mg base 1 G "led_by_step" nZ (GF G w):=by
 refine O2 F rA (λds S Q h=>?_) (λf cdv A outer s H E hr=>?_)
 ·obtain⟨g,n,L,kr,ts,x,s,rfl,_⟩:=h;rfl
 ·refine⟨_,(M.ah (M.aO (i:=2) rA.nd rfl (Or.inl rfl) (M.nK (M.aZ M.af))) (M.ah (M.cA PassesOwn.never rfl (M.bK (M.cC (dW hr) (M.bQ (M.pv 0) T.clG T.n_nearG) (M.ao M.aF (M.pv 1) M.aa (λ_ _=>rfl)) (λ_ _=>rfl))) (M.eN (n:=2) rfl (M.aL (M.aq (i:=3) rA.nd rfl (Or.inl rfl)) (M.aL (M.aq (i:=4) rA.nd rfl (Or.inr rfl)) M.cR))) (M.aj (M.bR (M.aH (M.fB hr) (M.ao M.aF (M.pv 3) M.aa (λ_ _=>rfl)) M.aW (bf _)) (M.ah (M.aO (i:=5) rA.nd rfl (Or.inl rfl) (M.mJ hr (M.cC (dW hr) (M.bQ (M.pv 0) T.clG T.n_pathsG) (M.ao M.aF (M.pv 1) M.aa (λ_ _=>rfl)) (λ_ _=>rfl)) (M.aP (M.au (M.ao M.aF (M.pv 3) M.aa (λ_ _=>rfl)) (M.au (M.ao M.aF (M.pv 3) M.aa (λ_ _=>rfl)) M.af))) (M.aZ M.af) ⟨rfl,rfl,rfl,rfl⟩)) (M.aj (M.bL (M.iD PySem.F.plainAttrs_list PySem.F.slot_list_extend PySem.F.type_list_extend M.jc (M.pv 2) (M.au (M.bH (N:=["step","stand"]) (caps:=[none,some 4]) (cU (by decide+kernel)) (by rfl) (by rfl) rfl (M.bK (M.pv 5)) (λ_ _ _ _=>(M.aq (i:=0) (by decide+kernel:List.Nodup (["step","stand"]:List Str)) rfl (Or.inl rfl))) (λ_ _ _ _=>M.cJ) (λ_ _ _ _=>(M.aP (M.au (M.aP (M.au (M.ao M.aF (M.pv 0) M.aa (λ_ _=>rfl)) (M.au (M.pv 1) M.af))) (M.au (M.pv 0) M.af))))) M.af))))) M.aV))) (M.aj (M.aK (M.pv 2))))),λds S Q h=>?_⟩;obtain⟨g,n,L,kr,ts,x,s,rfl,⟨a,b,c,l1,l2,X⟩,hs,hx,hmv,hml,htl,htw,q⟩:=h;have e0:aG DF [.loc g,PD (x,(s:Nat))]=[some (.loc g),some (PD (x,(s:Nat))),none,none,none,none]:=rfl;rw[e0];push_cast[PD,aS,gf,kJ,fE,cF,nQ,gy,iy,fM];obtain⟨p,hp,hpx,hpg⟩:=uZ (f:=Mx) (X.k2.mem_iff.mpr hx);obtain⟨v,es,z1,g1,hun,O⟩:=X.v2 p hp;subst hpx;have hul:v.length<=60:=by have:=iR hun λj U=>(O j).mp U;lia
  have huw:∀j∈v,j.2.1≠"*":=λj U=>by
   rcases(O j).mp U with⟨_,h⟩|⟨_,h⟩
   ·exact htw (p.1,j.2.1,j.2.2) h
   ·exact htw (j.2.2,j.2.1,p.1) h
  refine⟨zcI _,?_⟩;have Y:∀o:MO,tY G w (S++[some o]) g a b c n L kr ts l1 l2:=λo=>⟨bu X.at_,bu X.ne,bu X.mr,bu X.pt,X.k1,X.k2,X.v1,λp hp=>by
   obtain⟨v,es,z1,z2⟩:=X.v2 p hp;exact⟨v,es,bu z1,z2⟩⟩
  refine Cg (Y _) rfl ⟨_,_,aT (Y _).ne,_,rfl,_,qE hs,?_⟩;have hfl:=zaw (λm:Mv=>decide (m.1=s)) L;have MH:∀sd y,(sel v sd y).length<=60:=λsd y=>zcw (zaw ..) hul;have lof:∀l:List Mv,(Hy v l).length<=60*l.length:=λl=>by
   unfold Hy
   induction l with
   |nil=>simp
   |cons m l ih=>
    rw[zch,zba,zaL,zbq];have:(lo1 v m).length<=60:=by
     unfold lo1;split
     ·rw[zbK];exact MH ..
     ·simp
    lia
  show dU _ _ (D.lst (dS L s));refine bY (λrest δ S'=>∃(l I:List Mv)(v3 v4 v5:Option D),rest=I.map pD/\l++I=(L.filter λm=>decide (m.1=s))/\δ=[some (.loc g),some (PD (p.1,(s:Nat))),some (.loc S.length),v3,v4,v5]/\S'=S++[some (.lst ((Hy v l).map NQ))]) ?_ ?_ _ _ _ ⟨[],_,none,none,none,rfl,rfl,rfl,rfl⟩
  ·rintro δ S' ⟨l,I,v3,v4,v5,Z,W,rfl,rfl⟩;have:I=[]:=by cases I with|nil=>rfl|cons _ _=>simp at Z
   subst this;rw[zbL] at W;subst W;refine⟨trivial,_,rfl,?_⟩;refine qh (n:=S.length) (zcH _) (cI λ_ _=>rfl) (by simp) (by simp) (q (Hy v (L.filter λm=>decide (m.1=s))) ?_ λpp=>?_)
   ·have:=lof (L.filter λm=>decide (m.1=s));lia
   ·unfold Hy;simp only[zcu,List.mem_flatten];constructor
    ·rintro⟨q,⟨_,⟨m,hm,rfl⟩,hq⟩,rfl⟩;obtain⟨h1,h2⟩:=zbI.mp hm;unfold lo1 at hq;split at hq
     ·next z y u=>
      obtain⟨j,U,rfl⟩:=zcu.mp hq;obtain⟨j1,j2⟩:=zbI.mp U;simp only[zbG,zbW,decide_eq_true_eq] at j2 h2;exact⟨m,h1,h2,rfl,z,y,j,u,(O j).mp j1,j2.1,j2.2,rfl⟩
     ·simp at hq
    ·rintro⟨m,h1,h2,h3,z,y,j,u,j1,j2,j3,h4⟩;refine⟨((j.2.2,m.2.2),j),⟨_,⟨m,zbI.mpr ⟨h1,by simp[h2]⟩,rfl⟩,?_⟩,by rw[h3,<-h4]⟩;unfold lo1;rw[u];exact zcu.mpr ⟨j,zbI.mpr ⟨(O j).mpr j1,by simp[j2,j3]⟩,rfl⟩
  ·rintro t rest δ S' N ⟨l,I,v3,v4,v5,Z,W,rfl,rfl⟩ hN;cases I with
   |nil=>simp at Z
   |cons m I=>
    rw[zch] at Z;injection Z with Z e3;subst Z;subst e3;have hm:m∈L:=(zbI.mp (show m∈(L.filter λm=>decide (m.1=s)) by rw[<-W];simp)).1;have hql:l.length<=60:=by have:=congrArg zcG W;rw[zaL] at this;lia
    have hLl:=lof l;refine⟨trivial,_,rfl,rfl,_,_,rfl,_,_,rfl,rfl,?_⟩;have JJ:Hy v (l++[m])=Hy v l++lo1 v m:=by unfold Hy;simp
    push_cast[aS];cases u:m.2.1 with
    |stay=>
     push_cast[lD,aS,gf];rw[yIn (by decide)];exact hN _ _ ⟨l++[m],I,_,_,_,rfl,by rw[<-W];simp,rfl,by rw[JJ];unfold lo1;rw[u];simp⟩
    |mk z mm=>
     push_cast[lD,aS,gf];rw[yIn (by cases z<;>decide)];exact hN _ _ ⟨l++[m],I,_,_,_,rfl,by rw[<-W];simp,rfl,by rw[JJ];unfold lo1;rw[u];simp⟩
    |step z y=>
     have hwd:y∈WD:=by have:=(hmv m hm).2.1;rw[u] at this;exact this
     push_cast[lD,aS,gf];rw[yIp (by decide)];push_cast[vF,fE,PD,aS,gf,kJ,at2,nQ,gy];have hks:∀k∈es.map (λe:En=>K2 e.1),bS k:=λk hk=>by
      obtain⟨e,he,rfl⟩:=zcu.mp hk;exact good2 (g1.ok e he).1 (g1.ok e he).2
     have hsd:cP (side z)=true:=by cases z<;>decide+kernel
     refine ML (Y _) rfl ⟨_,_,aT (Y _).pt,_,rfl,_,hpg,p.2,rfl,none,_,_,bu z1,by simp,sz rfl,zcI _,none,_,_,bu z1,by simp,good2 (k:=(side z,y)) hsd (zR hwd),hks,?_⟩;rw[show D.tup [D.str (side z),D.str y]=K2 (side z,y) from rfl,B9 g1 huw];have hsl:=MH (side z) y;push_cast[xX,dD,fM,dU];rw[aT aR];refine⟨rfl,?_⟩;refine bg (α:=Ti) T3 (λ_=>true) (λj=>NQ ((j.2.2,m.2.2),j)) (λj=>[some (T3 j),some (.int (m.2.2:Nat))]) (λδ=>∃v0,δ=[v0,some (.int (m.2.2:Nat))]) trivial (λj=>⟨_,rfl⟩) (sel v (side z) y) [] _ ⟨none,rfl⟩ (λj U δ hδ Q' q'=>?_) (λj U Q' q'=>q') (λj U Q' q'=>?_) ?_ ?_
     ·obtain⟨v0,rfl⟩:=hδ;exact q'
     ·push_cast[aS,at2];exact⟨sz rfl,sz rfl,q'⟩
     ·rw[yaf];simp;lia
     ·rw[zbR,zaH.mpr (by simp)];refine⟨S.length,_,_,_,rfl,rfl,aR,.inl rfl,?_,?_⟩
      ·rw[zbK,zbK,yaf];lia
      ·refine hN _ _ ⟨l++[m],I,_,_,_,rfl,by rw[<-W];simp,rfl,?_⟩;rw[zav _ _ (zcH _),zcA,JJ];unfold lo1;rw[u,zbS,zct];rfl
theorem jh{m:Str}{sp:AN}{t:AA}{δ:bE}{S:aA}{Q:AK}{n i:Nat}{ds:List D}(a:δ[i]? =some (some (.loc n)))(e:S[n]? =some (some (.ins G gl ds)))(c:m ∉ gl)(h:t δ S λes f=>sp (.loc n::es) f Q):tK G m sp (fN i) t δ S Q:=⟨_,a,n,_,_,rfl,e,c,h⟩
noncomputable def PN(p:Str×Nat):D:=PD (p.1,(p.2:Nat))
def GC(G:Addr)(W:yak):AN:=λf S Q=>∃g n c e a x s k,f=[.loc g,PD (x,(s:Nat))]/\zH G W S g n c e a/\s<n/\(nms e).Nodup/\k∈e/\k.1=x/\texts k.2/\(∀m∈c,qR n m)/\c.length<=60/\a.length<30/\(∀t∈a,t.2.1≠"*")/\
 ∀L:List (Str×Nat),L.length<=4000->(∀p,p∈L↔Led e a c x s p)->Q (.new (.lst (L.map PN))) S
theorem Nd(T:Txt K mg C fi G gi)(F:iz K G "led_to" "Ground.led_to" nY IK)(e:cQ P w K mg base 2 G "led_without_step" nX (GB G w))(l:cQ P w K mg base 1 G "led_by_step" nZ (GF G w)):cQ P w K mg base 3 G "led_to" nY (GC G w):=by
 refine gm F Lz (λds S Q h=>?_) (λf cdv A outer s H E hr=>?_)
 ·obtain⟨g,n,v,kr,ts,x,s,k,rfl,_⟩:=h;rfl
 ·refine⟨_,(M.aj (M.aK (M.bH (N:=["led","step"]) (caps:=[none,none]) (cU (by decide+kernel)) (by rfl) (by rfl) rfl (M.bK (M.av M.bB (M.bP (M.pv 0) T.clG e (hr.mono (by decide)) (M.au (M.pv 1) M.af)) (M.bP (M.pv 0) T.clG l (hr.mono (by decide)) (M.au (M.pv 1) M.af)))) (λ_ _ _ _=>(M.eN (n:=2) rfl (M.aL (M.aq (i:=0) (by decide+kernel:List.Nodup (["led","step"]:List Str)) rfl (Or.inl rfl)) (M.aL (M.aq (i:=1) (by decide+kernel:List.Nodup (["led","step"]:List Str)) rfl (Or.inl rfl)) M.cR)))) (λ_ _ _ _=>M.cJ) (λ_ _ _ _=>(M.pv 0))))),λds S Q h=>?_⟩;obtain⟨g,n,v,kr,ts,x,s,k,rfl,X0,hs,hkn,hk,I,htx,Y,Z,htl,htw,q⟩:=h;obtain⟨a,b,c,l1,l2,X⟩:=id X0;have e0:aG DC [.loc g,PD (x,(s:Nat))]=[some (.loc g),some (PD (x,(s:Nat)))]:=rfl;rw[e0];push_cast[true_and];refine lF (qI ?_);refine jh (m:="led_without_step") rfl X.at_ (by decide+kernel) ⟨_,rfl,g,n,v,kr,ts,x,s,k,rfl,X0,hs,hkn,hk,I,htx,Y,Z,?_⟩;refine jh (m:="led_by_step") rfl X.at_ (by decide+kernel) ⟨_,rfl,g,n,v,kr,ts,x,s,rfl,X0,hs,by rw[<-I];exact zcu.mpr ⟨k,hk,rfl⟩,Y,Z,htl,htw,λL hL hmem=>?_⟩;have hfl:=zaw (λm:Mv=>decide (m.1=s)) v;have OU:=zaw (λm:Mv=>hold m.2.1 k.2) (v.filter λm=>decide (m.1=s));have Mt:∀y:Str×Nat,y∈((v.filter λm=>decide (m.1=s)).filter λm=>hold m.2.1 k.2).map (λm:Mv=>(x,m.2.2))↔y.1=x/\∃m∈v,m.1=s/\m.2.2=y.2/\hold m.2.1 k.2=true:=λy=>by
   simp only[zcu,zbI,decide_eq_true_eq];constructor
   ·rintro⟨m,⟨⟨u,t⟩,o⟩,rfl⟩;exact⟨rfl,m,u,t,rfl,o⟩
   ·rintro⟨h0,m,u,t,o,O⟩;exact⟨m,⟨⟨u,t⟩,O⟩,by rw[o,<-h0]⟩
  obtain⟨U,eA⟩:∃U,U=((v.filter λm=>decide (m.1=s)).filter λm=>hold m.2.1 k.2).map (λm:Mv=>(x,m.2.2)):=⟨_,rfl⟩
  rw[<-eA] at Mt;have hA0:U.length<=60:=by rw[eA,zbK];lia
  rw[show((v.filter λm=>decide (m.1=s)).filter λm=>hold m.2.1 k.2).map (λm:Mv=>D.tup [PD (x,(m.2.2:Nat)),.bq])=U.map λy=>D.tup [PN y,.bq] by rw[eA,zct];rfl];simp only[fu,MO.d];refine⟨by rw[zbK,zbK,yaf];lia,?_⟩;have eL:U.map (λy=>D.tup [PN y,.bq])++L.map NQ=(U.map (λy=>(y,D.bq))++L.map λp=>(p.1,T3 p.2)).map λz:(Str×Nat)×D=>D.tup [PN z.1,z.2]:=by
   rw[zbS,zct,zct];rfl
  rw[eL];refine bg (α:=(Str×Nat)×D) (λz=>D.tup [PN z.1,z.2]) (λ_=>true) (λz=>PN z.1) (λz=>[some (PN z.1),some z.2]) (λδ=>∃v0 v1,δ=[v0,v1]) trivial (λj=>⟨_,_,rfl⟩) _ [] _ ⟨none,none,rfl⟩ (λz hz δ hδ Q' W=>?_) (λj hj Q' W=>W) (λj hj Q' W=>⟨_,rfl,W⟩) ?_ ?_
  ·obtain⟨v0,v1,rfl⟩:=hδ;exact⟨_,rfl,rfl,_,_,rfl,_,_,rfl,rfl,W⟩
  ·rw[yaf];simp;lia
  ·rw[zbR,zaH.mpr (by simp)];have e9:(U.map (λy=>(y,D.bq))++L.map λp=>(p.1,T3 p.2)).map (λz:(Str×Nat)×D=>PN z.1)=(U++L.map (·.1)).map PN:=by
    rw[zbS,zbS,zct,zct,zct];rfl
   rw[e9];refine q _ (by rw[zaL,zbK];lia) λy=>?_;rw[zbJ,Mt,hmem];unfold Led;constructor
   ·rintro(⟨h0,m,u,t,o,O⟩|⟨m,u,t,o,O⟩)
    ·exact⟨m,u,t,o,.inl ⟨h0,k,hk,I,O⟩⟩
    ·exact⟨m,u,t,o,.inr O⟩
   ·rintro⟨m,u,t,o,⟨h0,k',hk',e',O⟩|O⟩
    ·obtain rfl:k'=k:=jV hkn hk' hk (by rw[e',I]);exact .inl ⟨h0,m,u,t,o,O⟩
    ·exact .inr ⟨m,u,t,o,O⟩
end
open PySem PySem.Spec L2 M M6 PyProof.Rows
noncomputable abbrev IM:Stmt:=top 12
noncomputable abbrev DG:List Str:=["web","machine","stands","ground","places","place"]
noncomputable abbrev n8:List Str:=["web","machine","stands"]
theorem wG:az DG n8 (ai IM):=L2.cM
theorem iY(p:Str×Int):py (PD p)=.tuple [.str p.1,.int p.2]:=by simp[PD,py,gp]
theorem BA{a b:Str×Int}(h:py (PD a)=py (PD b)):a=b:=by
 obtain⟨g,f⟩:=a;obtain⟨e,c⟩:=b;simp only[iY,PyData.tuple.injEq,zcN.injEq,PyData.str.injEq,PyData.int.injEq] at h;rw[h.1,h.2.1]
theorem nv{p:Str×Int}(h1:cP p.1=true):bS (PD p):=by
 refine⟨by simp[PD,dz,ck],?_,?_,_,rfl⟩
 ·rw[iY];simp[bF,cL,PyData.canLay0,gJ h1]
 ·rw[iY];simp[PyData.depth,PyData.depthAll]
theorem JY(ts:List (Str×Int))(t:Str×Int):gb (ts.map PD) (PD t)=decide (t∈ts):=by
 unfold gb;rw[zcs];by_cases h:t∈ts
 ·rw[yDt h];exact zbC.mpr ⟨t,h,by simp⟩
 ·rw[yDf h];refine zaY.mpr λx a z=>h ?_;have:py (PD x)=py (PD t):=of_decide_eq_true z;rw[<-BA this];exact a
theorem Cn:∀(ps js:List (Str×Int)),∃ks:List (Str×Int),(ps.map PD).foldl putN (js.map PD)=ks.map PD/\∀p,p∈ks↔p∈js∨p∈ps
 |[],js=>⟨js,rfl,λp=>by simp⟩
 |a::ps,js=>by
  have e:∃k2:List (Str×Int),putN (js.map PD) (PD a)=k2.map PD/\∀p,p∈k2↔p∈js∨p=a:=by
   have c:=JY js a;unfold gb at c;unfold putN;by_cases h:a∈js
   ·rw[yDt h] at c;rw[c,yIp rfl];exact⟨js,rfl,λp=>⟨.inl,λz=>z.elim id λe=>e▸h⟩⟩
   ·rw[yDf h] at c;rw[c,yIn (by decide)];exact⟨js++[a],by simp,λp=>by simp⟩
  obtain⟨k2,j,i⟩:=e;obtain⟨ks,g,f⟩:=Cn ps k2;refine⟨ks,?_,λp=>?_⟩
  ·rw[zch,zbQ,j];exact g
  ·rw[f,i,zcg,or_assoc]
def vW(a:List Kn)(ts:List Ti)(c:List Mv)(n:Nat)(ps:List (Str×Int)):Prop:=∀p∈ps,p.1∈nms a/\(0<=p.2/\p.2<n)/\∀q,Led a ts c p.1 p.2.toNat q->(q.1,(q.2:Int))∈ps
theorem tY.frame{G:Addr}{W:yak}{S S':aA}{g a b c n:Nat}{f:List Mv}{l:List Kn}{ts:List Ti}{j:List (Str×List Str)}{i:List (Str×Nat)}(X:tY G W S g a b c n f l ts j i)(h:∀k,k<S.length->S'[k]? =S[k]?):tY G W S' g a b c n f l ts j i:=
 ⟨(h _ (e7 X.at_)).trans X.at_,(h _ (e7 X.ne)).trans X.ne,(h _ (e7 X.mr)).trans X.mr,(h _ (e7 X.pt)).trans X.pt,X.k1,X.k2,X.v1,λp q=>by
  obtain⟨o,s,e,m⟩:=X.v2 p q;exact⟨o,s,(h _ (e7 e)).trans e,m⟩⟩
theorem eE{S S':aA}{b:Bool}{Q:AK}(h1:∀k,k<S.length->S'[k]? =S[k]?)(c:S.length<=S'.length)(q:Q (.dat (.bl b)) S):M.ret S S' (.dat (.bl b)) Q:=by
 refine⟨.dat (.bl b),rfl,λk o a e=>.inl (by rw[<-h1 k a];exact e),?_⟩;have:S'.take S.length=S:=by
  refine zbd λk=>?_;rw[zaM];split
  ·next h=>exact h1 k h
  ·next h=>rw[zau (by lia)]
 rw[this];exact q
section
variable {P:yaj}{w:yak}{K:yaI}{mg:Str->Option yai}{base:Heap}{C fi G gi:Addr}
def Az(C:Addr)(W:yak):AN:=λi S Q=>∃g own f a n b h e c,i=[.loc g,mD n b h e,.lst (c.map PD)]/\cj C W S g own f a/\n<=60/\(∀m∈e,qR n m)/\e.length<=60/\a.length<30/\(∀t∈a,t.2.1≠"*")/\(∀k∈f,texts k.2)/\(∀p∈c,cP p.1=true)/\c.length<=500/\(∀r:Bool,(r=true↔vW f a e n c)->Q (.dat (.bl r)) S)
theorem Nh{fdg:yap}(T:Txt K mg C fi G gi)(F:Src K mg "is_closed" n8 IM)(g:cW P w K mg base jL 3 gi fdg ki (aM K (GD C G w)))(t:Binds K fdg ki [])(D_has:cQ P w K mg base 1 G "has" jI (Ay G w))(l:cQ P w K mg base 3 G "led_to" nY (GC G w)):Def P w K mg base 5 "is_closed" n8 (aM K (Az C w)):=by
 refine iu F wG (λds S Q h=>?_) (λf cdv A outer s H E hr=>?_)
 ·obtain⟨wb,own,Y,ts,n,b,es,mv,ps,rfl,_⟩:=h;rfl
 ·refine⟨_,(M.ah (M.aO (i:=3) wG.nd rfl (Or.inl rfl) (M.qo T.mksG g t (hr.mono (by decide)) (by rfl) T.mg_Ground (M.au (M.pv 0) (M.au (M.pv 1) M.af)))) (M.ah (M.aO (i:=4) wG.nd rfl (Or.inr rfl) (M.nK (M.uM (M.xj hr) (by rfl) T.dict (by decide+kernel) (M.au (M.bH (N:=["place"]) (caps:=[none]) (cU (by decide+kernel)) (by rfl) (by rfl) rfl (M.bK (M.pv 2)) (λ_ _ _ _=>(M.aq (i:=0) (by decide+kernel:List.Nodup (["place"]:List Str)) rfl (Or.inl rfl))) (λ_ _ _ _=>M.cJ) (λ_ _ _ _=>(M.aP (M.au (M.pv 0) (M.au M.c9 M.af))))) M.af)))) (M.ah (M.cA PassesOwn.never rfl (M.L1 (M.pv 4)) (M.aq (i:=5) wG.nd rfl (Or.inl rfl)) (M.aj (M.bR (M.pw_pt (M.pw_or (M.jS (M.l9 (M.bP (M.pv 3) T.clG D_has (hr.mono (by decide)) (M.au (M.pv 5) M.af)))) (M.pw_or1 (M.jS (M.l9 (M.mL (M.Mi rfl) (by rfl) T.all (by decide+kernel) (M.au (M.bH (N:=["led","places"]) (caps:=[none,some 4]) (cU (by decide+kernel)) (by rfl) (by rfl) rfl (M.bK (M.bP (M.pv 3) T.clG l (hr.mono (by decide)) (M.au (M.pv 5) M.af))) (λ_ _ _ _=>(M.aq (i:=0) (by decide+kernel:List.Nodup (["led","places"]:List Str)) rfl (Or.inl rfl))) (λ_ _ _ _=>M.cJ) (λ_ _ _ _=>(M.cZ (M.Mg (W:=w) hr) (M.pv 0) (M.pv 1) rfl))) M.af))))))) (M.aj (M.aK M.c9)) M.aV))) (M.aj (M.aK M.c9))))),λds S Q h=>?_⟩;obtain⟨wb,own,Y,ts,n,b,es,mv,ps,rfl,X0,hn,hmv,hml,htl,htw,htx,hok,hpl,q⟩:=h;have e0:aG DG [.loc wb,mD n b es mv,.lst (ps.map PD)]=[some (.loc wb),some (mD n b es mv),some (.lst (ps.map PD)),none,none,none]:=rfl;rw[e0];push_cast[cF,xV,vK,dD,fM,dU];obtain⟨m0,t0,ee0,cs0,_,hk0,XI⟩:=id X0;have hkn:(nms Y).Nodup:=by rw[<-hk0,fZ];exact XI.kn
  have hst:∀x j,stp ts x j->cP j.2.2=true:=λx j hj=>by
   rcases hj with⟨h1,h2⟩|⟨h1,h2⟩
   ·exact(dR (XI.qq _ h2)).2.2
   ·exact(dR (XI.qq _ h2)).1
  clear XI hk0;refine⟨S.length,wb,own,Y,ts,n,b,es,mv,rfl,by simp,aR,X0.frame λc hc=>bD (X0.lt c hc),λz=>absurd (X0.lt _ z) (zcm _),htl,hn,hmv,hml,λS2 X2 k2 l2=>⟨rfl,?_⟩⟩;refine bg (α:=Str×Int) PD (λ_=>true) (λp=>.tup [PD p,.bl true]) (λp=>[some (PD p)]) (λZ=>∃v0,Z=[v0]) trivial (λj=>⟨_,rfl⟩) ps [] _ ⟨none,rfl⟩ (λz hz Z hδ Q' u=>?_) (λj hj Q' u=>u) (λj hj Q' u=>⟨_,rfl,sz rfl,u⟩) ?_ ?_
  ·obtain⟨v0,rfl⟩:=hδ;exact u
  ·rw[yaf];simp;lia
  rw[zbR,zaH.mpr (by simp)];refine⟨ps.map PD,by rw[zct];rfl,λk O=>?_,by rw[zbK];lia,?_⟩
  ·obtain⟨p,v,rfl⟩:=zcu.mp O;exact nv (hok p v)
  obtain⟨e,hks1,jg⟩:=Cn ps [];rw[show List.foldl putN [] (ps.map PD)=e.map PD from hks1];have jg:∀p,p∈e↔p∈ps:=λp=>by rw[jg];simp
  refine⟨_,rfl,S2.length,_,rfl,aR,λo=>?_⟩;rw[zav _ _ (zcH _),zcA,zaP];generalize U:S2++[some (GZ w o (e.map PD))]=S3;have pn:S3[S2.length]? =some (some (GZ w o (e.map PD))):=by rw[<-U];exact aR
  have X3:zH G w S3 S.length n mv Y ts:=by
   obtain⟨a,b,c,l1,l2,X⟩:=X2;exact⟨a,b,c,l1,l2,X.frame λk O=>by rw[<-U];exact bD O⟩
  have k3:∀k,k<S.length->S3[k]? =S[k]?:=λk O=>by rw[<-U,bD (by lia),k2 k O,bD O]
  have l3:S.length<=S3.length:=by rw[<-U,zaL];lia
  have good:∀k∈e.map PD,bS k:=λk O=>by
   obtain⟨p,v,rfl⟩:=zcu.mp O;exact nv (hok p ((jg p).mp v))
  refine bY (λrest Z S'=>∃(dn rs:List (Str×Int))(v5:Option D),rest=rs.map PD/\dn++rs=e/\Z=[some (D.loc wb),some (mD n b es mv),some (D.lst (zcP PD ps)),some (D.loc (zcG S)),some (D.loc (zcG S2)),v5]/\S3=S'/\∀p∈dn,p.1∈nms Y/\(0<=p.2/\p.2<n)/\∀q,Led Y ts mv p.1 p.2.toNat q->(q.1,(q.2:Int))∈e) ?_ ?_ _ _ _ ⟨[],e,none,rfl,rfl,rfl,U.symm,by simp⟩
  ·rintro Z S' ⟨dn,rs,v5,e1,e2,rfl,rfl,hdn⟩;have:rs=[]:=by cases rs with|nil=>rfl|cons _ _=>simp at e1
   subst this;rw[zbL] at e2;subst e2;refine⟨pn,eE k3 l3 (q true ⟨λ_ p v=>?_,λ_=>rfl⟩)⟩;obtain⟨h1,h2,h3⟩:=hdn p ((jg p).mpr v);exact⟨h1,h2,λq hq=>(jg _).mp (h3 q hq)⟩
  ·rintro x xs Z S' N ⟨dn,rs,v5,e1,e2,rfl,rfl,hdn⟩ hN;cases rs with
   |nil=>simp at e1
   |cons r rs=>
    rw[zch] at e1;injection e1 with e1 e3;subst e1;subst e3;have hr:r∈e:=by rw[<-e2];simp
    obtain⟨a3,b3,c3,l13,l23,XI3⟩:=id X3;refine⟨pn,?_⟩;push_cast[kW,Hs,C0,CY];refine jh (m:="has") rfl XI3.at_ (by decide+kernel) ⟨_,rfl,S.length,n,mv,Y,ts,r.1,r.2,rfl,X3,?_⟩;refine⟨_,rfl,?_⟩;by_cases hh:r.1∈nms Y/\(0<=r.2/\r.2<n)
    ·rw[yDt hh.1,yDt hh.2,yIn (by decide)];obtain⟨k,O,hkx⟩:=zcu.mp hh.1;have er:PD r=PD (r.1,((r.2.toNat:Nat):Int)):=by rw[show((r.2.toNat:Nat):Int)=r.2 by lia]
     refine lF (qI (jh (m:="led_to") rfl XI3.at_ (by decide+kernel) ⟨_,rfl,S.length,n,mv,Y,ts,r.1,r.2.toNat,k,by rw[<-er];rfl,X3,by lia,hkn,O,hkx,htx k O,hmv,hml,htl,htw,λL hL I=>?_⟩));have okL:∀y∈L,cP y.1=true:=λy hy=>by
      obtain⟨m,h1,h2,h3,⟨h4,_⟩|⟨bb,wd,j,h4,h5,h6,h7,h8⟩⟩:=(I y).mp hy
      ·rw[h4];exact hok r ((jg r).mp hr)
      ·rw[h8];exact hst _ _ h5
     show ff (λ_=>True) (bZ 0) oH (Ht (Nx w) (fN 0) (fN 1)) (L.map PN) [] _ S3 _;refine bg (α:=Str×Nat) PN (λ_=>true) (λp=>.bl (decide ((p.1,(p.2:Int))∈e))) (λp=>[some (PN p),some (.loc S2.length)]) (λZ=>∃v0,Z=[v0,some (.loc S2.length)]) trivial (λj=>⟨_,rfl⟩) L [] _ ⟨none,rfl⟩ (λz hz Z hδ Q' u=>?_) (λj hj Q' u=>u) (λj hj Q' u=>?_) ?_ ?_
     ·obtain⟨v0,rfl⟩:=hδ;exact u
     ·refine⟨_,rfl,_,rfl,S2.length,o,_,rfl,pn,nv (okL j hj),good,?_⟩;show Q' (.dat (.bl (gb (e.map PD) (PD (j.1,(j.2:Int)))))) S3;rw[JY];exact u
     ·rw[yaf];simp;lia
     rw[zbR,zaH.mpr (by simp)];refine⟨_,L.map (λp=>decide ((p.1,(p.2:Int))∈e)),rfl,by rw[fu,zct];rfl,_,rfl,?_⟩;cases hall:(L.map λp=>decide ((p.1,(p.2:Int))∈e)).all id with
     |true=>
      rw[yIn (by decide)];refine hN _ _ ⟨dn++[r],rs,_,rfl,by rw[<-e2];simp,rfl,rfl,λp v=>?_⟩;rcases zbJ.mp v with v|v
      ·exact hdn p v
      ·obtain rfl:p=r:=by simpa using v
       refine⟨hh.1,hh.2,λy hy=>?_⟩;have:=zbu.mp hall _ (zcu.mpr ⟨y,(I y).mpr hy,rfl⟩);simpa using this
     |false=>
      rw[yIp (by decide)];refine eE k3 l3 (q false ⟨λz=>(nomatch z),λhC=>?_⟩);obtain⟨d,hd,hf⟩:=List.all_eq_false.mp hall;obtain⟨y,hy,rfl⟩:=zcu.mp hd;exact absurd ((jg _).mpr ((hC r ((jg r).mp hr)).2.2 y ((I y).mp hy))) (by simpa using hf)
    ·have:(decide (r.1∈nms Y)&&decide (0<=r.2/\r.2<(n:Int)))=false:=by
      rw[<-Bool.not_eq_true];intro z;rw[zbG,decide_eq_true_eq,decide_eq_true_eq] at z;exact hh z
     rw[this,yIp (by decide)];refine eE k3 l3 (q false ⟨λz=>(nomatch z),λhC=>?_⟩);have:=hC r ((jg r).mp hr);exact absurd ⟨this.1,this.2.1⟩ hh
end
open PySem PySem.Spec L2 M M6 PyProof.Rows
noncomputable abbrev IF:Stmt:=top 33
noncomputable abbrev Dy:List Str:=["_law_rows_here","_law_machine_here","_law_pair","_law_found","_law_one","_law_leaf_here","_law_other","_law_some"]
noncomputable abbrev kh:List Str:=["_law_rows_here","_law_machine_here","_law_pair"]
theorem oY:az Dy kh (ai IF):=L2.cM
noncomputable abbrev A9:Stmt:=top 34
noncomputable abbrev yf:List Str:=["_law_rows_here","_law_machine_here","_law_stands","_law_there","_law_knot","_law_stand"]
noncomputable abbrev jG:List Str:=["_law_rows_here","_law_machine_here","_law_stands"]
theorem qb:az yf jG (ai A9):=L2.cM
theorem se{ts:List Ti}{k:Str}{j:Ti}:j∈dI ts k↔stp ts k j:=by
 obtain⟨l,i,h⟩:=j;unfold dI stp;simp only[zbJ,zcu,zbI,decide_eq_true_eq,Prod.mk.injEq];constructor
 ·rintro(⟨t,⟨c,a⟩,g,f,e⟩|⟨t,⟨c,a⟩,g,f,e⟩)
  ·exact .inl ⟨g.symm,by rw[<-a,<-f,<-e];exact c⟩
  ·exact .inr ⟨g.symm,by rw[<-a,<-f,<-e];exact c⟩
 ·rintro(⟨c,a⟩|⟨c,a⟩)
  ·exact .inl ⟨_,⟨a,rfl⟩,c.symm,rfl,rfl⟩
  ·exact .inr ⟨_,⟨a,rfl⟩,c.symm,rfl,rfl⟩
theorem qZ(ts:List Ti)(k:Str):(dI ts k).length<=2*ts.length:=by
 unfold dI;rw[zaL,zbK,zbK];have c:=zaw (λt:Ti=>decide (t.1=k)) ts;have a:=zaw (λt:Ti=>decide (t.2.2=k)) ts;lia
def vR(e:List Kn)(ts:List Ti)(x:Str)(s:Nat)(m:Mv)(p:Str×Nat):Prop:=m.1=s/\m.2.2=p.2/\((p.1=x/\∃k∈e,k.1=x/\hold m.2.1 k.2=true)∨∃c a j,m.2.1=.step c a/\stp ts x j/\j.1=side c/\(j.2.1=a∨a="*")/\p.1=j.2.2)
theorem sr{c:List Kn}{ts:List Ti}{x:Str}{s:Nat}{e:List Mv}{m:Mv}{p:Str×Nat}:Led c ts (e++[m]) x s p↔Led c ts e x s p∨vR c ts x s m p:=by
 unfold Led vR;constructor
 ·rintro⟨a,h,r⟩;rcases zbJ.mp h with h|h
  ·exact .inl ⟨a,h,r⟩
  ·obtain rfl:a=m:=by simpa using h
   exact .inr r
 ·rintro(⟨a,h,r⟩|r)
  ·exact⟨a,by simp[h],r⟩
  ·exact⟨m,by simp,r⟩
theorem qx:∀ps:List (Str×Int),(∀p∈ps,cP p.1=true)->PyData.canLayAll0 (gp (ps.map PD))=true/\PyData.depthAll (gp (ps.map PD))<=1/\PyData.eqvAll (gp (ps.map PD)) (gp (ps.map PD))=true
 |[],_=>⟨rfl,by decide,rfl⟩
 |p::ps,h=>by
  obtain⟨f,g,e⟩:=qx ps λx c=>h x (by simp[c]);have a:=iH (h p (by simp));simp only[zch,gp,PyData.canLayAll0,PyData.depthAll,PyData.eqvAll,iY,f,e,zcp];refine⟨?_,?_,?_⟩
  ·simp only[PyData.canLay0,PyData.canLayAll0,zcp] at a⊢;exact a
  ·simp only[PyData.depth,PyData.depthAll];lia
  ·simp[PyData.eqv,PyData.eqvAll]
theorem qC{ps:List (Str×Int)}(h:∀p∈ps,cP p.1=true):fit (.lst (ps.map PD))=true:=by
 obtain⟨c,e,_⟩:=qx ps h;unfold fit PySem.SeqAt.shaped;have a:ck (ps.map PD)=true:=cI λ_ _=>rfl;simp only[dz,a,py,PyData.canLay0,PyData.depth,c,Bool.true_and];exact yDt (by lia)
theorem Mq{ps:List (Str×Int)}{S:aA}{Q:AK}(h:∀p∈ps,cP p.1=true)(q:Q (.dat (.bl (!ps.isEmpty))) S):KI (.lst (ps.map PD)) (.lst []) S Q:=by
 unfold KI;rw[eB,eB];refine⟨qC h,by decide+kernel,?_⟩;have:PyData.eqv (py (.lst (ps.map PD))) (py (.lst []))=ps.isEmpty:=by
  cases ps<;>simp[py,gp,PyData.eqv,PyData.eqvAll]
 rw[this];exact q
theorem ne_self{ps:List (Str×Int)}{S:aA}{Q:AK}(h:∀p∈ps,cP p.1=true)(q:Q (.dat (.bl false)) S):KI (.lst (ps.map PD)) (.lst (ps.map PD)) S Q:=by
 unfold KI;rw[eB];refine⟨qC h,qC h,?_⟩;have:PyData.eqv (py (.lst (ps.map PD))) (py (.lst (ps.map PD)))=true:=by
  simp only[py,PyData.eqv];exact(qx ps h).2.2
 rw[this];exact q
theorem J5{i j:Bool}{S:aA}{Q:AK}:Ny (.bl i) (.bl j) S Q=Q (.dat (.bl (decide (i=j)))) S:=rfl
section
variable {P:yaj}{w:yak}{K:yaI}{mg:Str->Option yai}{base:Heap}{C fi G gi:Addr}
def An:AN:=λg S Q=>∃c e n b f a x s,g=[fR c e,mD n b f a,PN (x,s)]/\RO c e/\(∀m∈a,qR n m)/\a.length<=60/\x∈nms c/\∀L:List (Str×Nat),L.length<=800->(∀p,p∈L↔Led c e a x s p)->Q (.new (.lst (L.map PN))) S
theorem Na(T:Txt K mg C fi G gi)(F:Src K mg "_law_moves" kh IF)(e:Def P w K mg base 1 "_law_steps" gT (aM K wo)):Def P w K mg base 2 "_law_moves" kh (aM K An):=by
 refine iu F oY (λds S Q h=>?_) (λf cdv A outer s H E Y=>?_)
 ·obtain⟨o,u,n,b,es,mv,x,s,rfl,_⟩:=h;rfl
 ·refine⟨_,(M.ah (M.aO (i:=3) oY.nd rfl (Or.inl rfl) (M.nK (M.aZ M.af))) (M.ah (M.cA PassesOwn.never rfl (M.bK (M.ao M.aF (M.pv 1) M.aa (λ_ _=>rfl))) (M.eN (n:=3) rfl (M.aL (M.aq (i:=4) oY.nd rfl (Or.inl rfl)) (M.aL (M.aq (i:=5) oY.nd rfl (Or.inr rfl)) (M.aL (M.aq (i:=6) oY.nd rfl (Or.inr rfl)) M.cR)))) (M.aj (M.bR (M.aH (M.fB Y) (M.pv 4) (M.ao M.aF (M.pv 2) M.aa (λ_ _=>rfl)) (bf _)) (M.aj (M.bR (M.aH (M.fB Y) (M.ao M.aF (M.pv 5) M.aa (λ_ _=>rfl)) M.aW (bf _)) (M.ah (M.eG (i:=7) oY.nd rfl rfl (N:=["_law_step","_law_leaf_here"]) (caps:=[none,some 5]) (cU (by decide+kernel)) (by rfl) (by rfl) rfl (M.bK (M.ow e Y (M.au (M.pv 0) (M.au (M.ao M.aF (M.pv 2) M.aa (λ_ _=>rfl)) M.af)))) (λ_ _ _ _=>(M.aq (i:=0) (by decide+kernel:List.Nodup (["_law_step","_law_leaf_here"]:List Str)) rfl (Or.inl rfl))) (λ_ _ _ _=>(M.cY (M.aH (M.fB Y) (M.ao M.aF (M.pv 0) M.aa (λ_ _=>rfl)) (M.ao M.aF (M.pv 1) M.aa (λ_ _=>rfl)) (bf _)))) (λ_ _ _ _=>(M.pv 0))) (M.aj (M.bL (M.iD PySem.F.plainAttrs_list PySem.F.slot_list_extend PySem.F.type_list_extend M.jc (M.pv 3) (M.au (M.bH (N:=["_law_step","_law_other","_law_leaf_here"]) (caps:=[none,some 6,some 5]) (cU (by decide+kernel)) (by rfl) (by rfl) rfl (M.bK (M.pv 7)) (λ_ _ _ _=>(M.aq (i:=0) (by decide+kernel:List.Nodup (["_law_step","_law_other","_law_leaf_here"]:List Str)) rfl (Or.inl rfl))) (λ_ _ _ _=>(M.cY (M.aH (M.JA Y) (M.ao M.aF (M.pv 2) M.aa (λ_ _=>rfl)) (M.aP (M.au M.aW (M.au (M.ao M.aF (M.pv 0) M.aa (λ_ _=>rfl)) M.af))) rfl))) (λ_ _ _ _=>(M.aP (M.au (M.ao M.aF (M.pv 0) M.aa (λ_ _=>rfl)) (M.au (M.pv 1) M.af))))) M.af))))) (M.aj (M.bR (M.pw_pt (M.pw_or (M.aH (M.fB Y) (M.ao M.aF (M.pv 5) M.aa (λ_ _=>rfl)) M.aW (bf _)) (M.pw_or1 (M.aH (M.fB Y) (M.cZ (M.JA Y) (M.ao M.aF (M.pv 5) M.aa (λ_ _=>rfl)) (M.cC (dW Y) (M.ao M.aF (M.pv 0) M.aa (λ_ _=>rfl)) (M.ao M.aF (M.pv 2) M.aa (λ_ _=>rfl)) (λ_ _=>rfl)) rfl) (M.cZ (M.fB Y) (M.ao M.aF (M.pv 5) M.aa (λ_ _=>rfl)) M.aW (bf _)) (bf _))))) (M.aj (M.bL (M.iD PySem.F.plainAttrs_list PySem.F.slot_list_append PySem.F.type_list_append M.jd (M.pv 3) (M.au (M.aP (M.au (M.ao M.aF (M.pv 2) M.aa (λ_ _=>rfl)) (M.au (M.pv 6) M.af))) M.af)))) M.aV)))) M.aV))) (M.aj (M.aK (M.pv 3))))),λds S Q h=>?_⟩;obtain⟨o,u,n,b,es,mv,x,s,rfl,a,hmv,hml,hx,q⟩:=h;have e0:aG Dy [fR o u,mD n b es mv,PN (x,s)]=[some (fR o u),some (mD n b es mv),some (PN (x,s)),none,none,none,none,none]:=rfl;rw[e0];push_cast[mD,aS,PR,cF,nQ,gy,iy,fM,dU];refine⟨zcI _,?_⟩;have hmo:∀k∈o,texts k.2:=λk hk=>⟨by have:=(a.nm k hk).2.1;lia,λy hy=>mV ((a.nm k hk).2.2.2 y hy)⟩
  obtain⟨k,hk,hkx⟩:=zcu.mp hx;have hgr:=u7 hx;have ek:jb o x=k.2:=by have:=jV a.nd (jX hx) hk hkx.symm;rw[<-this]
  rw[ek] at hgr;have ES:∀l:Lf,(∃k'∈o,k'.1=x/\hold l k'.2=true)↔hold l k.2=true:=λl=>⟨λ⟨k',h1,h2,h3⟩=>by
   rw[<-jV a.nd h1 hk (h2.trans hkx.symm)];exact h3,λh=>⟨k,hk,hkx,h⟩⟩
  refine bY (λrest Z S'=>∃(X W:List Mv)(L:List (Str×Nat))(v4 v5 v6 v7:Option D),rest=W.map vD/\X++W=mv/\Z=[some (fR o u),some (mD n b es mv),some (PN (x,s)),some (.loc S.length),v4,v5,v6,v7]/\S'=S++[some (.lst (L.map PN))]/\L.length<=12*X.length/\∀p,p∈L↔Led o u X x s p) ?_ ?_ _ _ _ ⟨[],mv,[],none,none,none,none,rfl,rfl,rfl,rfl,zcI _,λp=>by simp[Led]⟩
  ·rintro Z S' ⟨X,W,L,v4,v5,v6,v7,e1,e2,rfl,rfl,h1,h2⟩;have:W=[]:=by cases W with|nil=>rfl|cons _ _=>simp at e1
   subst this;rw[zbL] at e2;subst e2;exact⟨trivial,_,rfl,qh (n:=S.length) (zcH _) (cI λ_ _=>rfl) (by simp) (by simp) (q L (by lia) h2)⟩
  ·rintro t rest Z S' N ⟨X,W,L,v4,v5,v6,v7,e1,e2,rfl,rfl,h1,h2⟩ hN;cases W with
   |nil=>simp at e1
   |cons m W=>
    rw[zch] at e1;injection e1 with e1 e3;subst e1;subst e3;have hm:m∈mv:=by rw[<-e2];simp
    have hql:X.length<60:=by have:=congrArg zcG e2;rw[zaL,zbq] at this;lia
    have hlk:=(hmv m hm).2.1;have kept:∀(v:Option D),(∀p,¬vR o u x s m p)->N [some (fR o u),some (mD n b es mv),some (PN (x,s)),some (.loc S.length),some (.int (m.1:Nat)),some (lD m.2.1),some (.int (m.2.2:Nat)),v] (S++[some (.lst (L.map PN))]):=λv hno=>
     hN _ _ ⟨X++[m],W,L,_,_,_,_,rfl,by rw[<-e2];simp,rfl,rfl,by rw[zaL];show _<=12*(X.length+1);lia,λp=>by rw[sr,h2];exact⟨.inl,λz=>z.elim id λy=>absurd y (hno p)⟩⟩
    have more:∀(v:Option D)(M':List (Str×Nat)),M'.length<=12->(∀p,p∈M'↔vR o u x s m p)->N [some (fR o u),some (mD n b es mv),some (PN (x,s)),some (.loc S.length),some (.int (m.1:Nat)),some (lD m.2.1),some (.int (m.2.2:Nat)),v] (S++[some (.lst (L.map PN++M'.map PN))]):=λv M' hl hy=>
     hN _ _ ⟨X++[m],W,L++M',_,_,_,_,rfl,by rw[<-e2];simp,rfl,by rw[zbS],by rw[zaL,zaL];show _<=12*(X.length+1);lia,λp=>by rw[sr,zbJ,h2,hy]⟩
    refine⟨trivial,_,rfl,rfl,_,_,rfl,_,_,rfl,_,_,rfl,rfl,?_⟩;push_cast[PN,PD,aS,gf,kJ];by_cases O:m.1=s
    ·rw[yIp (by simp[O])];cases g:m.2.1 with
     |stay=>
      rw[g] at more;push_cast[Hs,lD,aS,gf];rw[yIn (by decide),yIp (by decide)];push_cast[xX,aS,gf];rw[aT aR];refine⟨rfl,sz rfl,S.length,_,_,rfl,rfl,aR,by rw[zbK,yaf];lia,?_⟩;rw[zav _ _ (zcH _),zcA];refine more _ [(x,m.2.2)] (by simp) λp=>?_;unfold vR;rw[g];simp only[zaO,ES];constructor
      ·rintro rfl;exact⟨O,rfl,.inl ⟨rfl,rfl⟩⟩
      ·rintro⟨_,U,⟨c,_⟩|⟨_,_,_,c,_⟩⟩
       ·exact Prod.ext c U.symm
       ·cases c
     |mk bb mm=>
      rw[g] at more kept hlk;push_cast[Hs,lD,aS,gf,kJ,fR,fE];rw[yIn (by cases bb<;>decide),yIn (by cases bb<;>decide)];refine⟨_,_,rfl,_,rfl,_,hgr,?_⟩;refine pO (n:=0) (ss:=k.2) (mV hlk) (by decide) (zbu.mpr (hmo k hk).2) ?_ (by have:=(hmo k hk).1;lia);rw[lz];push_cast[true_and];have eh:(decide ((false != decide (mm∈k.2))=decide (Ms bb=Str.ofString "at")))=hold (.mk bb mm) k.2:=by
       simp only[hold];cases bb
       ·rw[show decide (Ms false=Str.ofString "at")=false by decide+kernel];cases decide (mm∈k.2)<;>rfl
       ·rw[show decide (Ms true=Str.ofString "at")=true by decide+kernel];cases decide (mm∈k.2)<;>rfl
      rw[J5];refine⟨_,rfl,?_⟩;rw[eh];cases hh:hold (.mk bb mm) k.2 with
      |true=>
       rw[yIp rfl];push_cast[xX,aS,gf];rw[aT aR];refine⟨rfl,sz rfl,S.length,_,_,rfl,rfl,aR,by rw[zbK,yaf];lia,?_⟩;rw[zav _ _ (zcH _),zcA];refine more _ [(x,m.2.2)] (by simp) λp=>?_;unfold vR;rw[g];simp only[zaO,ES,hh];constructor
       ·rintro rfl;exact⟨O,rfl,.inl ⟨rfl,trivial⟩⟩
       ·rintro⟨_,U,⟨c,_⟩|⟨_,_,_,c,_⟩⟩
        ·exact Prod.ext c U.symm
        ·cases c
      |false=>
       rw[yIn (by decide)];refine kept _ λp ⟨_,_,z⟩=>?_;rw[g] at z;rcases z with⟨_,z⟩|⟨_,_,_,z,_⟩
       ·rw[ES,hh] at z;cases z
       ·cases z
     |step bb wd=>
      rw[g] at more kept hlk;push_cast[lD,aS,gf,kJ];rw[yIp (by decide)];push_cast[dD,fM,PN,PD,aS,gf,kJ];refine⟨o,u,x,rfl,a,by rw[<-hkx];exact jf (a.nm k hk).1,λus hus=>?_⟩;have hul:us.length<=12:=by rw[hus.length_eq];have:=qZ u x;have:=a.tl;lia
      have hmu:∀j,j∈us↔stp u x j:=λj=>hus.mem_iff.trans se;have hoj:∀j∈us,gH j=true:=λj hj=>by
       rcases(hmu j).mp hj with⟨U,c⟩|⟨U,c⟩
       ·have:=dR (a.qq _ c);unfold gH;rw[U,this.2.1,this.2.2];rfl
       ·have:=dR (a.qq _ c);unfold gH;rw[U,this.2.1,this.1];rfl
      refine bg (α:=Ti) T3 (λj=>decide (j.1=side bb)) T3 (λj=>[some (T3 j),some (lD (.step bb wd))]) (λZ=>∃v0,Z=[v0,some (lD (.step bb wd))]) trivial (λj=>⟨_,rfl⟩) us [] _ ⟨none,rfl⟩ (λz hz Z hδ Q' I=>?_) (λj hj Q' I=>?_) (λj hj Q' I=>⟨_,rfl,I⟩) ?_ ?_
      ·obtain⟨v0,rfl⟩:=hδ;exact I
      ·push_cast[lD,aS,gf,kJ];exact I
      ·rw[yaf];simp;lia
      rw[zbR];have hfl:=zaw (λj:Ti=>decide (j.1=side bb)) us;push_cast[xX,dD,fM,dU];rw[aT aR];refine⟨rfl,?_⟩;refine bg (α:=Ti) T3 (λj=>decide (wd="*")||decide (wd=j.2.1)) (λj=>PN (j.2.2,m.2.2)) (λj=>[some (T3 j),some (.int (m.2.2:Nat)),some (lD (.step bb wd))]) (λZ=>∃v0,Z=[v0,some (.int (m.2.2:Nat)),some (lD (.step bb wd))]) trivial (λj=>⟨_,rfl⟩) (us.filter λj=>decide (j.1=side bb)) [] _ ⟨none,rfl⟩ (λz hz Z hδ Q' I=>?_) (λj hj Q' I=>?_) (λj hj Q' I=>?_) ?_ ?_
      ·obtain⟨v0,rfl⟩:=hδ;exact I
      ·push_cast[lD,aS,gf,kJ,at2];have hj1:=dR (hoj j (zbI.mp hj).1);refine⟨sz rfl,Cb (n:=0) (ss:=["*",j.2.1]) (zR hlk) (by decide) (by simp only[zcj,List.all_nil,hj1.2.1,zcp];decide+kernel) ⟨_,rfl,?_⟩ (by simp)⟩;rw[lz,show(false != decide (wd∈(["*",j.2.1]:List Str)))=(decide (wd="*")||decide (wd=j.2.1)) by simp];exact I
      ·push_cast[aS,at2];exact⟨sz rfl,I⟩
      ·rw[yaf];simp;lia
      rw[zbR];have OU:=zaw (λj:Ti=>decide (wd="*")||decide (wd=j.2.1)) (us.filter λj=>decide (j.1=side bb));refine⟨S.length,_,_,_,rfl,rfl,aR,.inl rfl,by rw[zbK,zbK,yaf];lia,?_⟩;rw[zav _ _ (zcH _),zcA];rw[show((us.filter λj=>decide (j.1=side bb)).filter λj:Ti=>decide (wd="*")||decide (wd=j.2.1)).map (λj=>PN (j.2.2,m.2.2))=(((us.filter λj=>decide (j.1=side bb)).filter λj:Ti=>decide (wd="*")||decide (wd=j.2.1)).map λj:Ti=>(j.2.2,m.2.2)).map PN by rw[zct];rfl];refine more _ _ (by rw[zbK];lia) λp=>?_;unfold vR;rw[g];simp only[zcu,zbI,decide_eq_true_eq,zbW,ES,hmu];constructor
      ·rintro⟨j,⟨⟨U,c⟩,h7⟩,rfl⟩;exact⟨O,rfl,.inr ⟨bb,wd,j,rfl,U,c,h7.elim .inr λz=>.inl z.symm,rfl⟩⟩
      ·rintro⟨_,U,⟨_,c⟩|⟨b',w',j,c,h7,h8,h9,h10⟩⟩
       ·cases c
       ·injection c with c h6';subst c;subst h6';exact⟨j,⟨⟨h7,h8⟩,h9.elim (λz=>.inr z.symm) .inl⟩,Prod.ext h10.symm U⟩
    ·rw[yIn (by simp;lia)];exact kept _ λp z=>O z.1
def um(W:yak):AN:=λh S Q=>∃f e n b g c a,h=[fR f e,mD n b g c,.lst (a.map PD)]/\RO f e/\(∀m∈c,qR n m)/\c.length<=60/\(∀p∈a,cP p.1=true)/\a.length<=500/\(∀r:Bool,(r=true↔vW f e c n a)->Q (.dat (.bl r)) S)
theorem Kp(T:Txt K mg C fi G gi)(F:Src K mg "_law_closed" jG A9)(c:Def P w K mg base 2 "_law_moves" kh (aM K An)):Def P w K mg base 3 "_law_closed" jG (aM K (um w)):=by
 refine iu F qb (λds S Q h=>?_) (λf cdv A outer s H E t=>?_)
 ·obtain⟨e,ts,n,b,es,mv,a,rfl,_⟩:=h;rfl
 ·refine⟨_,(M.ah (M.aO (i:=3) qb.nd rfl (Or.inr rfl) (M.nK (M.uM (M.xj t) (by rfl) T.dict (by decide+kernel) (M.au (M.bH (N:=["_law_pair"]) (caps:=[none]) (cU (by decide+kernel)) (by rfl) (by rfl) rfl (M.bK (M.pv 2)) (λ_ _ _ _=>(M.aq (i:=0) (by decide+kernel:List.Nodup (["_law_pair"]:List Str)) rfl (Or.inl rfl))) (λ_ _ _ _=>M.cJ) (λ_ _ _ _=>(M.aP (M.au (M.pv 0) (M.au M.c9 M.af))))) M.af)))) (M.ah (M.cA PassesOwn.never rfl (M.bK (M.pv 2)) (M.eN (n:=2) rfl (M.aL (M.aq (i:=4) qb.nd rfl (Or.inl rfl)) (M.aL (M.aq (i:=5) qb.nd rfl (Or.inl rfl)) M.cR))) (M.ah (M.bR (M.pw_pt (M.pw_or (M.aH (M.rW t) (M.pv 4) (M.ao M.aF (M.pv 0) M.aa (λ_ _=>rfl)) rfl) (M.pw_or1 (M.jS (M.mh M.OI M.EX M.aa (M.pv 5) (M.ao M.aF (M.pv 1) M.aa (λ_ _=>rfl))))))) (M.aj (M.aK M.c9)) M.aV) (M.aj (M.bR (M.aH (M.Jy t) (M.bH (N:=["_law_one","_law_there"]) (caps:=[none,some 3]) (cU (by decide+kernel)) (by rfl) (by rfl) rfl (M.bK (M.ow c t (M.au (M.pv 0) (M.au (M.pv 1) (M.au (M.aP (M.au (M.pv 4) (M.au (M.pv 5) M.af))) M.af))))) (λ_ _ _ _=>(M.aq (i:=0) (by decide+kernel:List.Nodup (["_law_one","_law_there"]:List Str)) rfl (Or.inl rfl))) (λ_ _ _ _=>(M.cY (M.aH (M.BP (W:=w) t) (M.pv 0) (M.pv 1) rfl))) (λ_ _ _ _=>(M.pv 0))) (M.aZ M.af) (bf _)) (M.aj (M.aK M.c9)) M.aV)))) (M.aj (M.aK M.c9)))),λds S Q h=>?_⟩;obtain⟨e,ts,n,b,es,mv,a,rfl,hRO,hmv,hml,hok,hpl,q⟩:=h;have e0:aG yf [fR e ts,mD n b es mv,.lst (a.map PD)]=[some (fR e ts),some (mD n b es mv),some (.lst (a.map PD)),none,none,none]:=rfl;rw[e0];push_cast[cF,vK,dD,fM,dU];refine bg (α:=Str×Int) PD (λ_=>true) (λp=>.tup [PD p,.bl true]) (λp=>[some (PD p)]) (λu=>∃v0,u=[v0]) trivial (λj=>⟨_,rfl⟩) a [] _ ⟨none,rfl⟩ (λz hz u X Q' g=>?_) (λj hj Q' g=>g) (λj hj Q' g=>⟨_,rfl,sz rfl,g⟩) ?_ ?_
  ·obtain⟨v0,rfl⟩:=X;exact g
  ·rw[yaf];simp;lia
  rw[zbR,zaH.mpr (by simp)];refine⟨a.map PD,by rw[zct];rfl,λk hk=>?_,by rw[zbK];lia,?_⟩
  ·obtain⟨p,l,rfl⟩:=zcu.mp hk;exact nv (hok p l)
  obtain⟨I,hks1,jg⟩:=Cn a [];rw[show List.foldl putN [] (a.map PD)=I.map PD from hks1];have jg:∀p,p∈I↔p∈a:=λp=>by rw[jg];simp
  have good:∀k∈I.map PD,bS k:=λk hk=>by
   obtain⟨p,l,rfl⟩:=zcu.mp hk;exact nv (hok p ((jg p).mp l))
  generalize O:S++[some (nO w (I.map PD))]=S3;have pn:S3[S.length]? =some (some (nO w (I.map PD))):=by rw[<-O];exact aR
  have k3:∀k,k<S.length->S3[k]? =S[k]?:=λk hk=>by rw[<-O];exact bD hk
  have l3:S.length<=S3.length:=by rw[<-O,zaL];lia
  push_cast[iy,fM,dU];refine bY (λrest u S'=>∃(dn v:List (Str×Int))(v4 v5:Option D),rest=v.map PD/\dn++v=a/\u=[some (fR e ts),some (mD n b es mv),some (.lst (a.map PD)),some (.loc S.length),v4,v5]/\S3=S'/\∀p∈dn,p.1∈nms e/\(0<=p.2/\p.2<n)/\∀q,Led e ts mv p.1 p.2.toNat q->(q.1,(q.2:Int))∈a) ?_ ?_ _ _ _ ⟨[],a,none,none,rfl,rfl,rfl,O.symm,by simp⟩
  ·rintro u S' ⟨dn,v,v4,v5,e1,e2,rfl,rfl,Z⟩;have:v=[]:=by cases v with|nil=>rfl|cons _ _=>simp at e1
   subst this;rw[zbL] at e2;subst e2;exact⟨trivial,eE k3 l3 (q true ⟨λ_=>Z,λ_=>rfl⟩)⟩
  ·rintro x xs u S' N ⟨dn,v,v4,v5,e1,e2,rfl,rfl,Z⟩ hN;cases v with
   |nil=>simp at e1
   |cons r v=>
    rw[zch] at e1;injection e1 with e1 e3;subst e1;subst e3;have t:r∈a:=by rw[<-e2];simp
    refine⟨trivial,_,rfl,rfl,_,_,rfl,_,_,rfl,rfl,?_⟩;push_cast[Hs,fR,mD,aS,gf,tL];have U:¬(r.1∈nms e/\(0<=r.2/\r.2<(n:Int)))->M.ret S S3 (R.dat (D.bl false)) Q:=λhh=>eE k3 l3 (q false ⟨λz=>(nomatch z),λhC=>absurd ⟨(hC r t).1,(hC r t).2.1⟩ hh⟩);refine⟨.inr r.1,rfl,?_⟩;rw[show gu (oi e) (.inr r.1)=decide (r.1∈nms e) from uY e r.1];by_cases hx:r.1∈nms e
    ·rw[yDt hx,yIn (by decide)];by_cases h0:0<=r.2
     ·rw[yIp (yDt h0)];by_cases h1:r.2<(n:Int)
      ·rw[yDt h1,yIn (by decide)];have er:D.tup [D.str r.1,D.int r.2]=PN (r.1,r.2.toNat):=by unfold PN PD;rw[show((r.2.toNat:Nat):Int)=r.2 by lia]
       push_cast[dD,fM];refine⟨sz rfl,e,ts,n,b,es,mv,r.1,r.2.toNat,by rw[er];rfl,hRO,hmv,hml,hx,λL hL o=>?_⟩;have okL:∀y∈L,cP y.1=true:=λy Y=>by
        obtain⟨m,_,_,_,⟨h4,_⟩|⟨bb,wd,j,_,h5,_,_,h8⟩⟩:=(o y).mp Y
        ·rw[h4];exact hok r t
        ·rw[h8];rcases h5 with⟨_,h2⟩|⟨_,h2⟩
         ·exact(dR (hRO.qq _ h2)).2.2
         ·exact(dR (hRO.qq _ h2)).1
       refine bg (α:=Str×Nat) PN (λy=>!decide ((y.1,(y.2:Int))∈a)) PN (λy=>[some (PN y),some (.loc S.length)]) (λu=>∃v0,u=[v0,some (.loc S.length)]) trivial (λj=>⟨_,rfl⟩) L [] _ ⟨none,rfl⟩ (λz hz u X Q' g=>?_) (λj hj Q' g=>?_) (λj hj Q' g=>⟨_,rfl,g⟩) ?_ ?_
       ·obtain⟨v0,rfl⟩:=X;exact g
       ·refine⟨_,rfl,_,rfl,S.length,_,rfl,pn,nv (okL j hj),good,_,rfl,?_⟩;rw[fy,show gb (I.map PD) (PN j)=decide ((j.1,(j.2:Int))∈I) from JY I _,show decide ((j.1,(j.2:Int))∈I)=decide ((j.1,(j.2:Int))∈a) from by congr 1;exact propext (jg _)];rw[show(true != decide ((j.1,(j.2:Int))∈a))= !decide ((j.1,(j.2:Int))∈a) by cases decide ((j.1,(j.2:Int))∈a)<;>rfl];exact g
       ·rw[yaf];simp;lia
       rw[zbR];refine⟨zcI _,?_⟩;rw[show(L.filter λy=>!decide ((y.1,(y.2:Int))∈a)).map PN=((L.filter λy=>!decide ((y.1,(y.2:Int))∈a)).map λy=>(y.1,(y.2:Int))).map PD by rw[zct];rfl];refine Mq (λp l=>?_) ⟨_,rfl,?_⟩
       ·obtain⟨y,Y,rfl⟩:=zcu.mp l;exact okL y (zbI.mp Y).1
       ·cases hf:L.filter λy=>!decide ((y.1,(y.2:Int))∈a) with
        |nil=>
         rw[yIn (by simp)];refine hN _ _ ⟨dn++[r],v,_,_,rfl,by rw[<-e2];simp,rfl,rfl,λp l=>?_⟩;rcases zbJ.mp l with l|l
         ·exact Z p l
         ·obtain rfl:p=r:=by simpa using l
          refine⟨hx,⟨h0,h1⟩,λy Y=>?_⟩;have:=List.filter_eq_nil_iff.mp hf y ((o y).mpr Y);simpa using this
        |cons y ys=>
         rw[yIp (by simp)];have Y:y∈L.filter λy=>!decide ((y.1,(y.2:Int))∈a):=by rw[hf];simp
         obtain⟨y1,y2⟩:=zbI.mp Y;refine eE k3 l3 (q false ⟨λz=>(nomatch z),λhC=>?_⟩);exact absurd ((hC r t).2.2 y ((o y).mp y1)) (by simpa using y2)
      ·rw[yDf h1,yIp (by decide)];exact U λz=>h1 z.2.2
     ·rw[yIn (by simpa using h0)];exact U λz=>h0 z.2.1
    ·rw[yDf hx,yIp (by decide)];exact U λz=>hx z.1
end
open PySem L2 M M6
noncomputable abbrev wJ:Stmt:=top 32
noncomputable abbrev qP:List Str:=["_law_cell","_law_most","_law_ds","_law_many","_law_ends","_law_moves_here","_law_j","_law_one","_law_way","_law_number","_law_other"]
noncomputable abbrev jB:List Str:=["_law_cell","_law_most"]
theorem fq:az qP jB (ai wJ):=L2.cM
theorem ja{n:Nat}{m:Mv}(h:qR n m):bS (vD m):=by
 obtain⟨c,e,a⟩:=G2 h.2.1;refine⟨by simp only[vD,dz,ck,a,zco],?_,?_,_,rfl⟩
 ·simp only[vD,py,gp,bF,cL,c,zco]
 ·simp only[vD,py,gp,PyData.depth,PyData.depthAll];lia
theorem JL(l k:Lf):aE (py (lD l)) (py (lD k))=true:=by cases l<;>cases k<;>simp[lD,py,gp,aE,dh]
theorem JF(m k:Mv):aE (py (vD m)) (py (vD k))=true:=by simp only[vD,py,gp,aE,dh,JL,zco]
theorem JE(m:Mv):∃p r,py (vD m)=PyData.tuple (.int p::r):=⟨_,_,rfl⟩
theorem wW{n:Nat}:∀{a:List Mv},(∀m∈a,qR n m)->ck (a.map vD)=true
 |[],_=>rfl
 |m::a,h=>by
  simp only[zch,ck,(ja (h m (by simp))).1,wW λk c=>h k (zaz _ c),zco]
theorem Jd{n b:Nat}{es:List Nat}{a:List Mv}(h:∀m∈a,qR n m):dz (mD n b es a)=true:=by
 simp only[mD,dz,ck,qj,wW h,zco]
theorem Jb(c:List Mv)(m:Mv):∃a,putN (c.map vD) (vD m)=a.map vD/\(a=c∨a=c++[m]):=by
 unfold putN;split
 ·exact⟨c,rfl,.inl rfl⟩
 ·exact⟨c++[m],by rw[zbS];rfl,.inr rfl⟩
theorem dY{n a k:Nat}(h:k<=n):HT.cy n a (some (k:Int))=k:=by
 rw[HT.dY];lia
noncomputable def SS:List Nat:=[6,6,8,18]++(zcb 6 (zcb 3 [6,5,16,6]).flatten).flatten
theorem SS4:∀j,j<18->SS[4+4*j]? =some 6/\SS[4+4*j+1]? =some 5/\SS[4+4*j+2]? =some 16/\SS[4+4*j+3]? =some 6:=by decide
theorem MX{f:List Nat}{i a b c d:Nat}(h1:f[i]? =some a)(n:f[i+1]? =some b)(m:f[i+2]? =some c)(l:f[i+3]? =some d):M.cutD (nL f) (some (i:Int)) (some ((i+4:Nat):Int))=nL [a,b,c,d]:=by
 have o:i+3<f.length:=(zae.mp l).1;have g:∀{j x:Nat},f[j]? =some x->∀h:j<f.length,f[j]=x:=λ{j x} e h=>by rw[zak h] at e;simpa using e
 have e:(f.drop i).take 4=[a,b,c,d]:=by
  rw[zag (by lia),zag (by lia),zag (by lia),zag (by lia)];simp only[List.take_succ_cons,List.take_zero,g h1,g n,g m,g l]
 unfold M.cutD;rw[dY (by simp[nL];lia),dY (by simp[nL];lia),show i+4 - i=4 by lia];unfold nL;rw[<-zcl,<-zck,e]
section
variable {P:yaj}{w:yak}{K:yaI}{mg:Str->Option yai}{base:Heap}{C fi G gi:Addr}
def Ao:AN:=λf S Q=>∃z:Int,f=[.int z,.int 6]/\∀(n b:Nat)(c:List Nat)(a:List Mv),1<=n->n<=6->b<n->(∀e∈c,e<n)->(∀m∈a,qR n m)->a.length<=17->Q (.dat (mD n b c a)) S
theorem Kf(T:Txt K mg C fi G gi)(F:Src K mg "_law_machine" jB wJ)(g:Def P w K mg base 1 "_law_draws" eW (aM K k7))(t:Def P w K mg base 2 "_law_leaf" jD (aM K Ar)):Def P w K mg base 3 "_law_machine" jB (aM K Ao):=by
 refine iu F fq (λds S Q h=>?_) (λf cdv A outer s H E hr=>?_)
 ·obtain⟨z,rfl,_⟩:=h;rfl
 ·refine⟨_,(M.ah (M.aO (i:=2) fq.nd rfl (Or.inr rfl) (M.ow g hr (M.au (M.pv 0) (M.au (M.av M.bB (M.aZ (M.au (M.pv 1) (M.au (M.pv 1) (M.au M.aa (M.au (M.av M.dB M.aa (M.pv 1)) M.af))))) (M.av M.dB (M.av M.dB (M.aZ (M.au (M.pv 1) (M.au M.aa (M.au M.aa (M.au (M.pv 1) M.af))))) M.aa) (M.pv 1))) M.af)))) (M.ah (M.aO (i:=3) fq.nd rfl (Or.inl rfl) (M.av M.bB M.aa (M.ao M.aF (M.pv 2) M.aa (λ_ _=>rfl)))) (M.ah (M.eG (i:=4) fq.nd rfl rfl (N:=["_law_stand","_law_ds"]) (caps:=[none,some 2]) (cU (by decide+kernel)) (by rfl) (by rfl) rfl (M.bN (by rfl) T.range (M.au (M.pv 3) M.af)) (λ_ _ _ _=>(M.aq (i:=0) (by decide+kernel:List.Nodup (["_law_stand","_law_ds"]:List Str)) rfl (Or.inl rfl))) (λ_ _ _ _=>(M.cY (M.aH (M.fB hr) (M.av M.b7 (M.av M.qt (M.ao M.aF (M.pv 1) M.aa (λ_ _=>rfl)) (M.ao M.aF (M.aZ (M.au M.aa (M.au M.aa (M.au M.aa M.af)))) (M.av M.b7 (M.pv 0) M.aa) (λ_ _=>rfl))) M.aa) M.aa (bf _)))) (λ_ _ _ _=>(M.pv 0))) (M.ah (M.aO (i:=5) fq.nd rfl (Or.inl rfl) (M.nK M.fJ)) (M.ah (M.cA PassesOwn.never rfl (M.bN (by rfl) T.range (M.au (M.ao M.aF (M.pv 2) M.aa (λ_ _=>rfl)) M.af)) (M.aq (i:=6) fq.nd rfl (Or.inl rfl)) (M.ah (M.uG (M.cB M.i8 (M.pv 2) (M.cK (M.av M.bB M.aa (M.av M.dB M.aa (M.pv 6)))) (M.cK (M.av M.bB M.aa (M.av M.dB M.aa (M.pv 6))))) (M.ql (n:=4) rfl (M.aL (M.aq (i:=7) fq.nd rfl (Or.inl rfl)) (M.aL (M.aq (i:=8) fq.nd rfl (Or.inl rfl)) (M.aL (M.aq (i:=9) fq.nd rfl (Or.inl rfl)) (M.aL (M.aq (i:=10) fq.nd rfl (Or.inl rfl)) M.cR)))))) (M.aj (M.fX hr (M.pv 5) (M.aP (M.au (M.av M.b7 (M.pv 7) (M.pv 3)) (M.au (M.ow t hr (M.au (M.pv 8) (M.au (M.pv 9) M.af))) (M.au (M.av M.b7 (M.pv 10) (M.pv 3)) M.af)))) M.c9 rfl)))) (M.aj (M.aK (M.aP (M.au (M.pv 3) (M.au (M.av M.b7 (M.ao M.aF (M.pv 2) M.aa (λ_ _=>rfl)) (M.pv 3)) (M.au (M.uM M.pB (by rfl) T.tuple (by decide+kernel) (M.au (M.pv 4) M.af)) (M.au (M.uM M.pB (by rfl) T.tuple (by decide+kernel) (M.au (M.mL (M.EW hr) (by rfl) T.sorted (by decide+kernel) (M.au (M.pv 5) M.af)) M.af)) M.af)))))))))))),λds S Q h=>?_⟩;obtain⟨z,rfl,q⟩:=h;have e0:aG qP [.int z,.int 6]=[some (.int z),some (.int 6),none,none,none,none,none,none,none,none,none]:=rfl;rw[e0];push_cast[nQ,gy];rw[mU];refine⟨.inl ⟨by decide,by decide⟩,sz rfl,sz rfl,?_⟩;refine⟨⟨by decide,by decide⟩,sz rfl,⟨by decide,by decide⟩,sz rfl,sz rfl,z,SS,rfl,by decide,by decide,λY hl hlt=>?_⟩;have get:∀(i b:Nat),SS[i]? =some b->∃a,Y[i]? =some a/\a<b:=λi b h=>by
   have hi:i<Y.length:=by rw[hl];exact(zae.mp h).1
   exact⟨Y[i],zak hi,hlt i _ b (zak hi) h⟩
  obtain⟨y0,g0,l0⟩:=get 0 6 rfl;obtain⟨y1,g1,l1⟩:=get 1 6 rfl;obtain⟨y2,g2,l2⟩:=get 2 8 rfl;obtain⟨y3,g3,l3⟩:=get 3 18 rfl;have a0:fS (nL Y) (0:Int)=some (.int (y0:Int)):=di g0;have a1:fS (nL Y) (1:Int)=some (.int (y1:Int)):=di g1;have a2:fS (nL Y) (2:Int)=some (.int (y2:Int)):=di g2;have a3:fS (nL Y) (3:Int)=some (.int (y3:Int)):=di g3;refine⟨_,a0,?_⟩;push_cast[true_and];rw[show(1:Int)+(y0:Int)=((1+y0:Nat):Int) by lia];obtain⟨n,hn⟩:∃n,n=1+y0:=⟨_,rfl⟩
  rw[<-hn];have n1:1<=n:=by lia
  have n6:n<=6:=by lia
  generalize (iO jL P w K mg base qP "_law_machine" (ai wJ) f cdv A outer s H E).w=W;push_cast[dD,kO];refine⟨by lia,by lia,?_⟩;refine ic (λrest acc δ S'=>∃(es:List Nat)(v:Option D),acc=nL es/\(∀e∈es,e<n)/\(∀x∈rest,∃k:Nat,k<n/\x=.int k)/\es.length+rest.length<=n/\S'=S/\δ=[v,some (.lst (nL Y))]) ?_ ?_ _ [] _ _ ⟨[],none,rfl,by simp,λx I=>?_,by simp[b9],rfl,rfl⟩
  ·rintro acc δ S' ⟨es,v,rfl,he,_,hel,rfl,rfl⟩;refine⟨trivial,?_⟩;push_cast[cF,nR,iy,kO];refine⟨_,a3,?_⟩;push_cast[true_and];refine⟨by lia,by lia,?_⟩;refine bY (λrest δ S''=>∃(X:List Mv)(v6 v7 v8 v9 v10:Option D),S''=S'++[some (nO W (X.map vD))]/\(∀m∈X,qR n m)/\(∀x∈rest,∃k:Nat,k<18/\x=.int k)/\X.length+rest.length<=17/\δ=[some (.int z),some (.int 6),some (.lst (nL Y)),some (.int n),some (.lst (nL es)),some (.loc S'.length),v6,v7,v8,v9,v10]) ?_ ?_ _ _ _ ⟨[],none,none,none,none,none,rfl,by simp,λx I=>?_,by simp[b9];lia,rfl⟩
   ·rintro δ S'' ⟨X,v6,v7,v8,v9,v10,rfl,u,_,hml,rfl⟩;refine⟨trivial,?_⟩;push_cast[bI,a1,zcJ.injEq,exists_eq_left',tF];rw[show((y1:Int) % (n:Int))=((y1 % n:Nat):Int) by simp];refine⟨by lia,S'.length,X.map vD,rfl,by simp,λk hk=>?_,λk hk l hl=>?_,by rw[zbK];lia,λks' hp=>?_⟩
    ·obtain⟨m,y,rfl⟩:=zcu.mp hk;exact⟨ja (u m y),JE m⟩
    ·obtain⟨m,y,rfl⟩:=zcu.mp hk;obtain⟨m',hm',rfl⟩:=zcu.mp hl;exact JF m m'
    ·obtain⟨L,p1,rfl⟩:=eO hp;have hmv':∀m∈L,qR n m:=λm y=>u m (p1.mem_iff.mp y);push_cast[true_and];refine⟨sz rfl,⟨_,w6 (Jd (es:=es) (b:=y1 % n) hmv'),λk o hk e=>.inl ?_,?_⟩⟩
     ·rw[zaf hk] at e;exact e
     ·rw[List.take_left];exact q n (y1 % n) es L n1 n6 (zcL _ (by lia)) he hmv' (by have:=p1.length_eq;lia)
   ·rintro x rest δ S'' N' ⟨X,v6,v7,v8,v9,v10,rfl,u,I,hml,rfl⟩ Z;obtain⟨j,hj,rfl⟩:=I x (by simp);obtain⟨s1,s2,s3,s4⟩:=SS4 j hj;obtain⟨b1,f1,m1⟩:=get _ _ s1;obtain⟨b2,f2,m2⟩:=get _ _ s2;obtain⟨b3,f3,m3⟩:=get _ _ s3;obtain⟨b4,f4,m4⟩:=get _ _ s4;refine⟨trivial,?_⟩;push_cast[mU];refine⟨.inl ⟨by decide,by decide⟩,.inl ⟨by decide,by decide⟩,?_⟩;rw[show(4:Int)+4*(j:Int)=((4+4*j:Nat):Int) by lia,show(8:Int)+4*(j:Int)=((4+4*j+4:Nat):Int) by lia];unfold qK;rw[eB];dsimp only;rw[MX f1 f2 f3 f4];refine⟨nL [b1,b2,b3,b4],rfl,rfl,_,_,rfl,_,_,rfl,_,_,rfl,_,_,rfl,rfl,?_⟩;push_cast[tH];refine⟨by lia,b2,b3,rfl,m2,λl hlf=>?_⟩;push_cast[true_and];rw[show((b1:Int) % (n:Int))=((b1 % n:Nat):Int) by simp,show((b4:Int) % (n:Int))=((b4 % n:Nat):Int) by simp];have ok:qR n (b1 % n,l,b4 % n):=⟨zcL _ (by lia),hlf,zcL _ (by lia)⟩
    refine⟨by lia,sz rfl,S'.length,rfl,X.map vD,by simp,ja ok,λk hk=>?_,by rw[zbK];lia,?_⟩
    ·obtain⟨m,y,rfl⟩:=zcu.mp hk;exact ja (u m y)
    ·obtain⟨L,e1,e2⟩:=Jb X (b1 % n,l,b4 % n);have e1:putN (X.map vD) (.tup [.int ((b1 % n:Nat):Int),lD l,.int ((b4 % n:Nat):Int)])=L.map vD:=e1;rw[e1,zav _ _ (zcH _),zcA];refine Z _ _ ⟨L,_,_,_,_,_,rfl,λm y=>?_,λx O=>I x (zaz _ O),?_,rfl⟩
     ·rcases e2 with rfl|rfl
      ·exact u m y
      ·rcases zbJ.mp y with y|y
       ·exact u m y
       ·rw[zaO.mp y];exact ok
     ·simp only[zbq] at hml;rcases e2 with rfl|rfl
      ·lia
      ·rw[zaL];show X.length+1+_<=_;lia
   ·simp only[b9,zcu,zca] at I;obtain⟨a,ha,rfl⟩:=I;exact⟨a,by lia,by simp⟩
  ·rintro x rest acc δ S' N' ⟨es,v,rfl,he,I,hel,rfl,rfl⟩ Z;obtain⟨j,hj,rfl⟩:=I x (by simp);refine⟨trivial,?_⟩;push_cast[bI,a2,zcJ.injEq,exists_eq_left',nQ];rw[show((j:Int) % 3)=((j % 3:Nat):Int) by lia];obtain⟨e,ea,em⟩:=Hr (ds:=[D.int 1,D.int 2,D.int 4]) (z:=j % 3) (by show j % 3<3;lia);refine⟨sz rfl,by decide,e,ea,?_⟩;obtain⟨c,rfl,c0,c1⟩:∃c:Int,e=.int c/\0<c/\c<10:=by
    simp only[zcg,zbA,or_false] at em;rcases em with rfl|rfl|rfl<;>exact⟨_,rfl,by decide,by decide⟩
   push_cast[true_and];simp only[zbq] at hel;refine⟨⟨c0,by lia⟩,by decide,nh (λ_=>⟨?_,Z _ _ _ ⟨es++[j],_,by simp[nL],λe U=>?_,λx O=>I x (zaz _ O),by rw[zaL];show es.length+1+_<=_;lia,rfl,rfl⟩⟩) (λ_=>Z _ _ _ ⟨es,_,rfl,he,λx O=>I x (zaz _ O),by lia,rfl,rfl⟩)⟩
   ·rw[nL,zbK,yaf];lia
   ·rcases zbJ.mp U with U|U
    ·exact he e U
    ·rw[zaO.mp U];exact hj
  ·simp only[b9,zcu,zca] at I;obtain⟨a,ha,rfl⟩:=I;exact⟨a,by lia,by simp⟩
end
open PySem PySem.Spec L2 M M6 PyProof.Rows
noncomputable abbrev A6:Stmt:=top 35
noncomputable abbrev yc:List Str:=["_law_cell","_law_rows_here","_law_machine_here","_law_ds","_law_knots_here","_law_found","_law_at","_law_knot","_law_cut","_law_strange"]
noncomputable abbrev jC:List Str:=["_law_cell","_law_rows_here","_law_machine_here"]
theorem dQ:az yc jC (ai A6):=L2.cM
noncomputable def LS:List Nat:=[8,6,6,36,36,6,4,2]++(zcb 4 [6,6]).flatten
theorem oR{S S':aA}(h1:∀k,k<S.length->S'[k]? =S[k]?)(a:S.length<=S'.length):S'.take S.length=S:=by
 refine zbd λk=>?_;rw[zaM];split
 ·next h=>exact h1 k h
 ·next h=>rw[zau (by lia)]
theorem rE{S S':aA}{ds:List D}{Q:AK}(h1:∀k,k<S.length->S'[k]? =S[k]?)(c:S.length<=S'.length)(h:ck ds=true)(q:Q (.new (.lst ds)) S):M.ret S S' (.new (.lst ds)) Q:=by
 refine⟨.new (.lst ds),?_,λk o a e=>.inl (by rw[<-h1 k a];exact e),by rw[oR h1 c];exact q⟩;show(if j9 S.length (.lst ds)=true then _ else _)=_;rw[yIp (show j9 S.length (.lst ds)=true from cE _ _ h)]
theorem pM{n b:Nat}{es:List Nat}{a:List Mv}{S:aA}{Q:AK}:vJ (mD n b es a) (.int 0) S Q=Q (.dat (.int (n:Nat))) S:=by
 unfold mD;rw[aS];exact propext ⟨λ⟨e,h,q⟩=>by rw[gf] at h;cases h;exact q,λq=>⟨_,gf,q⟩⟩
theorem MA{ks:List Kn}{ts:List Ti}{S:aA}{Q:AK}:vJ (fR ks ts) (.int 0) S Q=Q (.dat (.dct (oi ks) (ks.map λk=>.lst (k.2.map D.str)))) S:=by
 unfold fR;rw[aS];exact propext ⟨λ⟨e,h,q⟩=>by rw[gf] at h;cases h;exact q,λq=>⟨_,gf,q⟩⟩
noncomputable def gr(n:Nat)(l:List Str):List (Str×Nat):=l.flatMap λx=>(zcK n).map λi=>(x,i)
theorem xU{ks:List Kn}{n:Nat}(e:ks.length<=6)(c:n<=6):((nms ks).flatMap λx=>(zcK n).map λi=>(x,i)).length<=36:=by
 have f:∀l:List Str,(l.flatMap λx=>(zcK n).map λi=>(x,i)).length=l.length*n:=λl=>by
  induction l with
  |nil=>simp
  |cons a l ih=>rw[List.flatMap_cons,zaL,ih,zbK,zbe,zbq,Nat.succ_mul];lia
 rw[f,zbK];exact Nat.mul_le_mul e c
theorem Hh{ks:List Kn}{n:Nat}{L:List (Str×Nat)}(f:ks.length<=6)(c:n<=6)(e:L.Nodup)(h:∀p∈L,p.1∈nms ks/\p.2<n):L.length<=36:=by
 have j:∀p∈L,p∈(nms ks).flatMap λx=>(zcK n).map λi=>(x,i):=λp a=>zbF.mpr ⟨p.1,(h p a).1,zcu.mpr ⟨p.2,zca.mpr (h p a).2,rfl⟩⟩;have g:=M8.qD e j;exact zcw g (xU f c)
theorem Cs(a b:Str×Int):PyData.eqv (py (PD a)) (py (PD b))=decide (a=b):=by
 obtain⟨i,h⟩:=a;obtain⟨g,f⟩:=b;rw[iY,iY];by_cases e:i=g<;>by_cases c:h=f<;>simp[PyData.eqv,PyData.eqvAll,e,c]
theorem J4{p:Str×Int}(h:cP p.1=true):fit (PD p)=true:=by
 obtain⟨a,f,_⟩:=qx [p] λq c=>by rw[show q=p by simpa using c];exact h
 unfold fit PySem.SeqAt.shaped;simp only[zch,zcr,gp,PyData.canLayAll0,PyData.depthAll,zcp] at a f;have e:dz (PD p)=true:=rfl;rw[e,a];simp only[Bool.true_and];exact yDt (by lia)
theorem ME{L:List (Str×Int)}{y:D}{p:Str×Int}{a:Bool}{S:aA}{Q:AK}(e:bz S y=.lst (L.map PD))(f:cP p.1=true)(g:∀q∈L,cP q.1=true)(q:Q (.dat (.bl (a != decide (p∈L)))) S):C2 a (PD p) y S Q:=by
 unfold C2;rw[e];refine⟨J4 f,qC g,?_⟩;have:inD (bz S (PD p)) (L.map PD)=decide (p∈L):=by
  show inD (PD p) _=_;unfold inD;rw[zcs];by_cases h:p∈L
  ·rw[yDt h];exact zbC.mpr ⟨p,h,by simp[Cs]⟩
  ·rw[yDf h];refine zaY.mpr λx c z=>h ?_;have z:PyData.eqv (py (PD x)) (py (PD p))=true:=z;rw[Cs] at z;rw[<-of_decide_eq_true z];exact c
 rw[this];exact q
structure NG(S S':aA)(p:Nat)(L:List (Str×Int)):Prop where
 le:S.length<=p
 at_:S'[p]? =some (some (.lst (L.map PD)))
 kp:∀k,k<S.length->S'[k]? =S[k]?
 ln:S.length<=S'.length
 ne:L≠[]
 few:L.length<=36
 ok:∀q∈L,cP q.1=true
theorem Cz{α:Type}{a:List α}{k:Nat}(h:k<=a.length):M.cutD a (some (k:Int)) none=a.drop k:=by
 unfold M.cutD;rw[dY h];show List.take (a.length - k) (a.drop k)=a.drop k;exact List.take_of_length_le (by rw[zbs];lia)
theorem Kv{α:Type}{a:List α}{k:Nat}(h:k<=a.length):M.cutD a none (some (k:Int))=a.take k:=by
 unfold M.cutD;rw[dY h];show List.take (k - 0) (a.drop 0)=a.take k;rw[Nat.sub_zero,List.drop_zero]
theorem oW{S':aA}{p:Nat}{L:List (Str×Int)}{k:Nat}{Q:AK}(e:S'[p]? =some (some (.lst (L.map PD))))(h:k<=L.length):(Q (.new (.lst ((L.drop k).map PD))) S'->qK (.loc p) (some (k:Int)) none S' Q)/\(Q (.new (.lst ((L.take k).map PD))) S'->qK (.loc p) none (some (k:Int)) S' Q):=by
 have g:∀a c,qK (.loc p) a c S' Q=Q (.new (.lst (M.cutD (L.map PD) a c))) S':=λa c=>by
  unfold qK;rw[aT e];rfl
 rw[g,g,Cz (by rw[zbK];exact h),Kv (by rw[zbK];exact h),<-zcl,<-zck];exact⟨id,id⟩
theorem tE{a b:List (Str×Int)}{S':aA}{Q:AK}(h:a.length+b.length<=1000)(q:Q (.new (.lst ((a++b).map PD))) S'):tN (.lst (a.map PD)) (.lst (b.map PD)) S' Q:=by
 refine⟨by rw[zbK,zbK,yaf];lia,?_⟩;rw[<-zbS];exact q
theorem NG.cons{S S':aA}{p:Nat}{L L':List (Str×Int)}(F:NG S S' p L)(h1:L'≠[])(e:L'.length<=36)(c:∀q∈L',cP q.1=true):NG S (S'++[some (.lst (L'.map PD))]) S'.length L':=
 ⟨F.ln,aR,λk a=>by rw[bD (by have:=F.ln;lia)];exact F.kp k a,by rw[zaL];have:=F.ln;lia,h1,e,c⟩
section
variable {P:yaj}{w:yak}{K:yaI}{mg:Str->Option yai}{base:Heap}{C fi G gi:Addr}
def Aq:AN:=λh S Q=>∃(z:Int)(f:List Kn)(e:List Ti)(n b:Nat)(g:List Nat)(c:List Mv),h=[.int z,fR f e,mD n b g c]/\RO f e/\1<=n/\n<=6/\(∀m∈c,qR n m)/\c.length<=17/\∀a:List (Str×Int),(∀p∈a,cP p.1=true)->a.length<=100->Q (.new (.lst (a.map PD))) S
theorem Kg(T:Txt K mg C fi G gi)(F:Src K mg "_law_list" jC A6)(Y:Def P w K mg base 1 "_law_draws" eW (aM K k7))(X:Def P w K mg base 2 "_law_moves" kh (aM K An)):Def P w K mg base 3 "_law_list" jC (aM K Aq):=by
 refine iu F dQ (λds S Q h=>?_) (λf cdv A outer s H E hr=>?_)
 ·obtain⟨z,g,ts,n,b,es,mv,rfl,_⟩:=h;rfl
 ·refine⟨_,(M.ah (M.aO (i:=3) dQ.nd rfl (Or.inr rfl) (M.ow Y hr (M.au (M.pv 0) (M.au (M.av M.bB (M.aZ (M.au M.aa (M.au M.aa (M.au M.aa (M.au M.aa (M.au M.aa (M.au M.aa (M.au M.aa (M.au M.aa M.af))))))))) (M.av M.dB (M.aZ (M.au M.aa (M.au M.aa M.af))) M.aa)) M.af)))) (M.ah (M.aO (i:=4) dQ.nd rfl (Or.inr rfl) (M.uM (M.xh hr) (by rfl) T.list (by decide+kernel) (M.au (M.ao M.aF (M.pv 1) M.aa (λ_ _=>rfl)) M.af))) (M.ah (M.aO (i:=5) dQ.nd rfl (Or.inr rfl) (M.nK (M.aZ (M.au (M.aP (M.au (M.ao M.aF (M.pv 4) (M.av M.b7 (M.ao M.aF (M.pv 3) M.aa (λ_ _=>rfl)) (M.mL M.fK (by rfl) T.len (by decide+kernel) (M.au (M.pv 4) M.af))) (λ_ _=>rfl)) (M.au (M.av M.b7 (M.ao M.aF (M.pv 3) M.aa (λ_ _=>rfl)) (M.ao M.aF (M.pv 2) M.aa (λ_ _=>rfl))) M.af))) M.af)))) (M.ah (M.bR (M.aH (M.fB hr) (M.ao M.aF (M.pv 3) M.aa (λ_ _=>rfl)) M.aa (bf _)) (M.aj (M.aK (M.bH (N:=["_law_k","_law_knots_here","_law_ds","_law_machine_here"]) (caps:=[none,some 4,some 3,some 2]) (cU (by decide+kernel)) (by rfl) (by rfl) rfl (M.bN (by rfl) T.range (M.au (M.av M.b7 (M.ao M.aF (M.pv 3) M.aa (λ_ _=>rfl)) M.aa) M.af)) (λ_ _ _ _=>(M.aq (i:=0) (by decide+kernel:List.Nodup (["_law_k","_law_knots_here","_law_ds","_law_machine_here"]:List Str)) rfl (Or.inl rfl))) (λ_ _ _ _=>M.cJ) (λ_ _ _ _=>(M.aP (M.au (M.ao M.aF (M.pv 1) (M.av M.b7 (M.ao M.aF (M.pv 2) (M.av M.bB M.aa (M.av M.dB M.aa (M.pv 0))) (λ_ _=>rfl)) (M.mL M.fK (by rfl) T.len (by decide+kernel) (M.au (M.pv 1) M.af))) (λ_ _=>rfl)) (M.au (M.av M.b7 (M.ao M.aF (M.pv 2) (M.av M.bB M.aa (M.av M.dB M.aa (M.pv 0))) (λ_ _=>rfl)) (M.ao M.aF (M.pv 3) M.aa (λ_ _=>rfl))) M.af))))))) M.aV) (M.ah (M.aO (i:=6) dQ.nd rfl (Or.inl rfl) M.aa) (M.ah (M.mj PassesOwn.never (M.aH M.EX (M.pv 6) (M.mL M.fK (by rfl) T.len (by decide+kernel) (M.au (M.pv 5) M.af)) (bf _)) (M.ah (M.bL (M.iD PySem.F.plainAttrs_list PySem.F.slot_list_extend PySem.F.type_list_extend M.jc (M.pv 5) (M.au (M.bH (N:=["_law_one","_law_found"]) (caps:=[none,some 5]) (cU (by decide+kernel)) (by rfl) (by rfl) rfl (M.bK (M.gF hr rfl (by rfl) T.sorted (by rfl) T.set (M.ow X hr (M.au (M.pv 1) (M.au (M.pv 2) (M.au (M.ao M.aF (M.pv 5) (M.pv 6) (λ_ _=>rfl)) M.af)))))) (λ_ _ _ _=>(M.aq (i:=0) (by decide+kernel:List.Nodup (["_law_one","_law_found"]:List Str)) rfl (Or.inl rfl))) (λ_ _ _ _=>(M.cY (M.aH (M.xg hr) (M.pv 0) (M.pv 1) rfl))) (λ_ _ _ _=>(M.pv 0))) M.af))) (M.aj (M.aO (i:=6) dQ.nd rfl (Or.inl rfl) (M.av M.bB (M.pv 6) M.aa))))) (M.ah (M.bR (M.aH (M.fB hr) (M.ao M.aF (M.pv 3) M.aa (λ_ _=>rfl)) M.aa (bf _)) (M.ah (M.aO (i:=5) dQ.nd rfl (Or.inr rfl) (M.nK (M.aZ M.af))) (M.aj (M.cA PassesOwn.never rfl (M.bK (M.pv 4)) (M.aq (i:=7) dQ.nd rfl (Or.inr rfl)) (M.aj (M.bL (M.iD PySem.F.plainAttrs_list PySem.F.slot_list_extend PySem.F.type_list_extend M.jc (M.pv 5) (M.au (M.bH (N:=["_law_stand","_law_knot"]) (caps:=[none,some 7]) (cU (by decide+kernel)) (by rfl) (by rfl) rfl (M.bN (by rfl) T.range (M.au (M.ao M.aF (M.pv 2) M.aa (λ_ _=>rfl)) M.af)) (λ_ _ _ _=>(M.aq (i:=0) (by decide+kernel:List.Nodup (["_law_stand","_law_knot"]:List Str)) rfl (Or.inl rfl))) (λ_ _ _ _=>M.cJ) (λ_ _ _ _=>(M.aP (M.au (M.pv 1) (M.au (M.pv 0) M.af))))) M.af))))))) M.aV) (M.ah (M.aO (i:=8) dQ.nd rfl (Or.inl rfl) (M.av M.b7 (M.ao M.aF (M.pv 3) M.aa (λ_ _=>rfl)) (M.mL M.fK (by rfl) T.len (by decide+kernel) (M.au (M.pv 5) M.af)))) (M.ah (M.aO (i:=5) dQ.nd rfl (Or.inr rfl) (M.nK (M.av M.bB (M.cB M.i8 (M.pv 5) (M.cK (M.pv 8)) M.dZ) (M.cB M.i8 (M.pv 5) M.dZ (M.cK (M.pv 8)))))) (M.ah (M.aO (i:=6) dQ.nd rfl (Or.inl rfl) (M.av M.b7 (M.ao M.aF (M.pv 3) M.aa (λ_ _=>rfl)) (M.mL M.fK (by rfl) T.len (by decide+kernel) (M.au (M.pv 5) M.af)))) (M.ah (M.bR (M.aH (M.fB hr) (M.ao M.aF (M.pv 3) M.aa (λ_ _=>rfl)) M.aa (bf _)) (M.aj (M.aK (M.av M.bB (M.cB M.i8 (M.pv 5) M.dZ (M.cK (M.pv 6))) (M.cB M.i8 (M.pv 5) (M.cK (M.av M.bB (M.pv 6) M.aa)) M.dZ)))) M.aV) (M.ah (M.bR (M.aH (M.fB hr) (M.ao M.aF (M.pv 3) M.aa (λ_ _=>rfl)) M.aa (bf _)) (M.aj (M.aK (M.av M.bB (M.pv 5) (M.aZ (M.au (M.ao M.aF (M.pv 5) (M.pv 6) (λ_ _=>rfl)) M.af))))) M.aV) (M.ah (M.bR (M.aH (M.fB hr) (M.ao M.aF (M.pv 3) M.aa (λ_ _=>rfl)) M.aa (bf _)) (M.ah (M.aO (i:=9) dQ.nd rfl (Or.inl rfl) (M.aZ (M.au (M.aP (M.au M.aW (M.au M.aa M.af))) (M.au (M.aP (M.au (M.ao M.aF (M.pv 4) M.aa (λ_ _=>rfl)) (M.au (M.BH M.Me M.aa) M.af))) (M.au (M.aP (M.au (M.ao M.aF (M.pv 4) M.aa (λ_ _=>rfl)) (M.au (M.ao M.aF (M.pv 2) M.aa (λ_ _=>rfl)) M.af))) (M.au (M.aP (M.au (M.ao M.aF (M.pv 4) M.aa (λ_ _=>rfl)) (M.au (M.av M.BO M.aa M.aa) M.af))) M.af)))))) (M.aj (M.aK (M.av M.bB (M.av M.bB (M.cB M.i8 (M.pv 5) M.dZ (M.cK (M.pv 6))) (M.aZ (M.au (M.ao M.aF (M.pv 9) (M.ao M.aF (M.pv 3) M.aa (λ_ _=>rfl)) (λ_ _=>rfl)) M.af))) (M.cB M.i8 (M.pv 5) (M.cK (M.pv 6)) M.dZ))))) M.aV) (M.ah (M.bR (M.aH (M.fB hr) (M.ao M.aF (M.pv 3) M.aa (λ_ _=>rfl)) M.aa (bf _)) (M.aj (M.aK (M.av M.bB (M.pv 5) (M.aZ (M.au (M.aP (M.au (M.ao M.aF (M.pv 4) (M.av M.b7 (M.ao M.aF (M.pv 3) M.aa (λ_ _=>rfl)) (M.mL M.fK (by rfl) T.len (by decide+kernel) (M.au (M.pv 4) M.af))) (λ_ _=>rfl)) (M.au (M.av M.b7 (M.ao M.aF (M.pv 3) M.aa (λ_ _=>rfl)) (M.ao M.aF (M.pv 2) M.aa (λ_ _=>rfl))) M.af))) M.af))))) M.aV) (M.aj (M.aK (M.pv 5))))))))))))))))),λds S Q h=>?_⟩;obtain⟨z,g,ts,n,b,es,mv,rfl,hRO,hn1,hn6,hmv,hml,q⟩:=h;have e0:aG yc [.int z,fR g ts,mD n b es mv]=[some (.int z),some (fR g ts),some (mD n b es mv),none,none,none,none,none,none,none]:=rfl;rw[e0];refine eu λN1 h1=>?_;push_cast[vG];have er:[D.int 8,D.int 6,D.int 6,D.int 36,D.int 36,D.int 6,D.int 4,D.int 2]++(zcb (Int.toNat 4) [D.int 6,D.int 6]).flatten=nL LS:=rfl;rw[er];refine⟨sz rfl,sz rfl,by decide,by decide,sz rfl,sz rfl,z,LS,rfl,by decide,by decide,λys hl hlt=>h1 _ _ ?_⟩;clear h1;have ya:∀i,i<16->∃a,ys[i]? =some a/\∀b,LS[i]? =some b->a<b:=λi hi=>by
   have:i<ys.length:=by rw[hl];exact hi
   exact⟨_,zak this,λb hb=>hlt i _ b (zak this) hb⟩
  have kl:(nms g).length=g.length:=zbK _;have hk1:=hRO.k1;have hk6:=hRO.k6;have ET:∀x∈nms g,cP x=true:=λx hx=>by
   obtain⟨k,hk,rfl⟩:=zcu.mp hx;exact jf (hRO.nm k hk).1
  have ekn:(oi g).map kD=(nms g).map D.str:=by unfold oi nms;rw[zct,zct];rfl
  have plc:∀(i j:Nat)(i' j':Int)(S':aA)(W:D->D->aA->Prop),i'=i->j'=j->i<16->j<16->(∀p:Str×Nat,p.1∈nms g->p.2<n->W (.str p.1) (.int (p.2:Nat)) S')->
    ∃e,fS (nL ys) i'=some e/\∃x,gq (.lst ((nms g).map D.str))=some x/\aI (λ_ j=>0<j) (λi j=>D.int (i % j)) e (.int (x:Nat)) S' λy S2=>vJ (.lst ((nms g).map D.str)) y.d S2 λx S1=>∃e,fS (nL ys) j'=some e/\aI (λ_ j=>0<j) (λi j=>D.int (i % j)) e (.int (n:Nat)) S1 λx1 S1=>W x.d x1.d S1:=λi j i' j' S' W ei ej hi hj k=>by
   subst ei ej;obtain⟨a,ha,_⟩:=ya i hi;obtain⟨c,hc,_⟩:=ya j hj;have hx:a % g.length<(nms g).length:=by rw[kl];exact zcL _ (by lia)
   refine⟨_,di ha,g.length,by simp[gq],?_⟩;push_cast[true_and];refine⟨by lia,?_⟩;rw[show((a:Int) % (g.length:Int))=((a % g.length:Nat):Int) by lia,bI];refine⟨_,kc hx,_,di hc,?_⟩;push_cast[true_and];refine⟨by lia,?_⟩;rw[show((c:Int) % (n:Int))=((c % n:Nat):Int) by lia];exact k ((nms g)[a % g.length],c % n) (zby _) (zcL _ (by lia))
  refine eu λN2 h2=>?_;push_cast[MA,vH];refine⟨_,⟨_,rfl⟩,h2 _ _ ?_⟩;clear h2;rw[ekn];refine eu λN3 h3=>?_;push_cast[pM,bI,cF];refine plc 1 2 1 2 S (λa c S1=>[a,c].length<=yag/\[D.tup [a,c]].length<=yag/\N3 [some (D.int z),some (fR g ts),some (mD n b es mv),some (D.lst (nL ys)),some (D.lst (zcP D.str (nms g))),some (D.loc S1.length),none,none,none,none] (S1++[some (MO.lst [D.tup [a,c]])])) rfl rfl (by decide) (by decide) λp0 hp0 hp0'=>⟨sz rfl,sz rfl,h3 _ _ ?_⟩
  clear h3;obtain⟨n0,hn0,_⟩:=ya 0 (by decide);have O:=di hn0;refine eu λN4 h4=>?_;push_cast[kW,pM,bI,dD,kO];have kp1:∀(o:MO) k,k<S.length->(S++[some o])[k]? =S[k]?:=λo k hk=>bD hk;have ln1:∀o:MO,S.length<=(S++[some o]).length:=λo=>by rw[zaL];lia
  have okV:∀L:List (Str×Nat),(∀p∈L,p.1∈nms g/\p.2<n)->∀q∈L.map (λp:Str×Nat=>(p.1,(p.2:Int))),cP q.1=true:=λL h q U=>by
   obtain⟨y,I,rfl⟩:=zcu.mp U;exact ET _ (h y I).1
  have eV:∀L:List (Str×Nat),L.map PN=(L.map λp:Str×Nat=>(p.1,(p.2:Int))).map PD:=λL=>by rw[zct];rfl
  refine⟨_,O,?_⟩;push_cast[true_and];refine nh (λ_=>?_) (λhz0=>h4 _ _ ?_)
  ·obtain⟨n5,hn5,_⟩:=ya 5 (by decide);refine⟨_,di (i:=5) hn5,?_⟩;push_cast[true_and];obtain⟨m5,hm5⟩:∃m5:Nat,(n5:Int) % 5=m5:=⟨n5 % 5,by lia⟩
   have hm5':m5<5:=by lia
   rw[hm5];refine⟨by decide,by lia,by lia,?_⟩;rw[show((m5:Nat):Int).toNat=m5 by lia];refine ic (λrest acc δ S'=>∃(i:Nat)(L:List (Str×Nat))(v:Option D),rest=(b9 0 m5).drop i/\acc=L.map PN/\L.length=i/\i<=m5/\(∀p∈L,p.1∈nms g/\p.2<n)/\δ=[v,some (.lst ((nms g).map D.str)),some (.lst (nL ys)),some (mD n b es mv)]/\S'=S++[some (MO.lst [D.tup [D.str p0.1,D.int (p0.2:Nat)]])]) ?_ ?_ _ _ _ _ ⟨0,[],none,rfl,rfl,rfl,zcI _,by simp,rfl,rfl⟩
   ·rintro acc δ S' ⟨i,L,v,e1,rfl,e3,e4,hL,rfl,rfl⟩;refine⟨trivial,rE (kp1 _) (ln1 _) (cI λ_ _=>rfl) ?_⟩;rw[eV];exact q _ (okV L hL) (by rw[zbK];lia)
   ·rintro x xs acc δ S' N ⟨i,L,v,e1,rfl,e3,e4,hL,rfl,rfl⟩ hN;obtain⟨g1,rfl,rfl⟩:=iT e1;refine⟨trivial,?_⟩;push_cast[pM,bI,vG,oH,if_true];refine⟨.inl (by decide),?_⟩;obtain⟨a,ha,_⟩:=ya (8+2*i) (by lia);obtain⟨c,hc,_⟩:=ya (9+2*i) (by lia);have hx:a % g.length<(nms g).length:=by rw[kl];exact zcL _ (by lia)
    rw[show(8:Int)+2*(i:Int)=((8+2*i:Nat):Int) by lia,show(9:Int)+2*(i:Int)=((9+2*i:Nat):Int) by lia];refine⟨_,di ha,g.length,by simp[gq],?_⟩;push_cast[true_and];refine⟨by lia,?_⟩;rw[show((a:Int) % (g.length:Int))=((a % g.length:Nat):Int) by lia,bI];refine⟨_,kc hx,.inl (by decide),_,di hc,?_⟩;push_cast[true_and];refine⟨by lia,sz rfl,by rw[zbK,yaf];lia,?_⟩;rw[show((c:Int) % (n:Int))=((c % n:Nat):Int) by lia];refine hN _ _ _ ⟨i+1,L++[((nms g)[a % g.length],c % n)],_,rfl,by rw[zbS];rfl,by rw[zaL,e3];rfl,g1,λp Z=>?_,rfl,rfl⟩;rcases zbJ.mp Z with Z|Z
    ·exact hL p Z
    ·obtain rfl:p=((nms g)[a % g.length],c % n):=by simpa using Z
     exact⟨zby _,zcL _ (by lia)⟩
  ·clear h4;refine eu λN5 h5=>?_;push_cast[true_and];refine h5 _ _ ?_;clear h5;refine eu λN6 h6=>?_;refine⟨λm δ S'=>∃(L:List (Str×Nat))(a:Nat),m=37 - a/\a<=L.length/\L.Nodup/\L≠[]/\(∀p∈L,p.1∈nms g/\p.2<n)/\S'=S++[some (.lst (L.map PN))]/\δ=[some (D.int z),some (fR g ts),some (mD n b es mv),some (D.lst (nL ys)),some (D.lst (zcP D.str (nms g))),some (D.loc (zcG S)),some (.int (a:Nat)),none,none,none],⟨_,[p0],0,rfl,zcI _,by simp,by simp,λp Z=>by rw[show p=p0 by simpa using Z];exact⟨hp0,hp0'⟩,rfl,rfl⟩,?_⟩;rintro m δ S' ⟨L,a,rfl,haL,hLn,hLe,hL,rfl,rfl⟩;have OW:L.length<=36:=Hh hk6 hn6 hLn hL;push_cast[vI];rw[aT aR];refine⟨L.length,by simp[gq,MO.d],?_⟩;by_cases hlt:a<L.length
   ·rw[yIp (yDt (by lia))];refine⟨λδ' S'=>∃L':List (Str×Nat),a+1<=L'.length/\L'.Nodup/\L'≠[]/\(∀p∈L',p.1∈nms g/\p.2<n)/\S'=S++[some (.lst (L'.map PN))]/\δ'=[some (D.int z),some (fR g ts),some (mD n b es mv),some (D.lst (nL ys)),some (D.lst (zcP D.str (nms g))),some (D.loc (zcG S)),some (.int ((a:Int)+1)),none,none,none],λδ' S' ⟨L',g1,g2,g3,g4,g5,g6⟩=>⟨37 - (a+1),by lia,L',a+1,rfl,g1,g2,g3,g4,g5,g6⟩,?_⟩;push_cast[xX,dD,fM,kg];rw[aT aR];refine⟨rfl,?_⟩;have hix:vJ (.loc S.length) (.int (a:Nat)) (S++[some (.lst (L.map PN))])=λQ=>∃e,fS (L.map PN) (a:Int)=some e/\Q (.dat e) (S++[some (.lst (L.map PN))]):=by
     funext W;unfold vJ;rw[aT aR];rfl
    rw[hix];refine⟨PN L[a],dj (by rw[zaZ,zak hlt];rfl),?_⟩;have hLa:=hL L[a] (zby _);refine⟨g,ts,n,b,es,mv,L[a].1,L[a].2,rfl,hRO,hmv,by lia,hLa.1,λL2 hL2 hmem=>?_⟩;have ze:∀y∈L2,y.1∈nms g/\y.2<n:=λy I=>by
     obtain⟨m,h1,_,h3,h4⟩:=(hmem y).mp I;refine⟨?_,by rw[<-h3];exact(hmv m h1).2.2⟩;rcases h4 with⟨h4,_⟩|⟨bb,wd,j,_,h5,_,_,h8⟩
     ·rw[h4];exact hLa.1
     ·rw[h8];rcases h5 with⟨_,h6⟩|⟨_,h6⟩
      ·exact(hRO.tk _ h6).2.1
      ·exact(hRO.tk _ h6).1
    have okP:∀y:Str×Nat,y.1∈nms g->cP ((y.1,(y.2:Int)):Str×Int).1=true:=λy I=>ET _ I;refine⟨L2.map PN,rfl,λk hk=>?_,λk hk l hl=>?_,⟨((nms g).flatMap λx=>(zcK n).map λi=>(x,i)).map λy:Str×Nat=>py (PN y),?_,λk hk=>?_⟩,λks' w1 w2 w3 w4=>?_⟩
    ·obtain⟨y,I,rfl⟩:=zcu.mp hk;exact⟨nv (okP y (ze y I).1),_,_,iY _⟩
    ·obtain⟨y,I,rfl⟩:=zcu.mp hk;obtain⟨y',hy',rfl⟩:=zcu.mp hl;show aE (py (PD _)) (py (PD _))=true;rw[iY,iY];simp[aE,dh]
    ·rw[zbK];have:=xU (n:=n) hk6 hn6;lia
    ·obtain⟨y,I,rfl⟩:=zcu.mp hk;exact zcu.mpr ⟨y,zbF.mpr ⟨y.1,(ze y I).1,zcu.mpr ⟨y.2,zca.mpr (ze y I).2,rfl⟩⟩,rfl⟩
    ·obtain⟨o',o1,rfl⟩:=mw w1;have hon:o'.Nodup:=by
      rw[zct] at w3;exact List.Pairwise.of_map _ (λx y h e=>h (by rw[e])) w3
     have Mu:∀y:Str×Nat,decide (((y.1,(y.2:Int)):Str×Int)∈L.map λp:Str×Nat=>(p.1,(p.2:Int)))=decide (y∈L):=λy=>by
      congr 1;refine propext ⟨λh=>?_,λh=>zcu.mpr ⟨y,h,rfl⟩⟩;obtain⟨u,hu,e⟩:=zcu.mp h;obtain⟨e1,e2⟩:=Prod.mk.inj e;have:u=y:=Prod.ext e1 (by lia);rw[<-this];exact hu
     have ho36:=Hh hk6 hn6 hon λy I=>ze y (o1 y I);show ff _ (bZ 0) _ _ (o'.map PN) [] _ _ _;refine bg (α:=Str×Nat) PN (λy=>!decide (y∈L)) PN (λy=>[some (PN y),some (.loc S.length)]) (λδ=>∃v0,δ=[v0,some (.loc S.length)]) trivial (λj=>⟨_,rfl⟩) o' [] _ ⟨none,rfl⟩ (λz hz δ hδ W q'=>?_) (λy I W q'=>?_) (λj hj W q'=>⟨_,rfl,q'⟩) ?_ ?_
     ·obtain⟨v0,rfl⟩:=hδ;exact q'
     ·refine⟨_,rfl,_,rfl,ME (L:=L.map λp:Str×Nat=>(p.1,(p.2:Int))) (p:=(y.1,(y.2:Int))) ?_ (okP y (ze y (o1 y I)).1) (okV L hL) ⟨_,rfl,?_⟩⟩
      ·rw[fy,aT aR,<-eV];rfl
      ·rw[Mu,show(true != decide (y∈L))= !decide (y∈L) by cases decide (y∈L)<;>rfl];exact q'
     ·rw[yaf];simp;lia
     rw[zbR];have hfl:=zaw (λy=>!decide (y∈L)) o';refine⟨S.length,_,_,_,rfl,rfl,aR,.inl rfl,by rw[zbK,zbK,yaf];lia,L++o'.filter (λy=>!decide (y∈L)),by rw[zaL];lia,?_,by simp[hLe],λp Z=>?_,?_⟩
     ·rw[zbg];refine⟨hLn,hon.filter _,λx hx y I e=>?_⟩;have:=(zbI.mp I).2;rw[<-e] at this;simp[hx] at this
     ·rcases zbJ.mp Z with Z|Z
      ·exact hL p Z
      ·exact ze p (o1 p (zbI.mp Z).1)
     ·rw[zav _ _ (zcH _),zcA,zbS];rfl
   ·rw[yIn (by simp;lia)];refine h6 _ _ ?_;clear h6;have F0:NG S (S++[some (.lst (L.map PN))]) S.length (L.map λp:Str×Nat=>(p.1,(p.2:Int))):=
     ⟨zcH _,by rw[aR,eV],kp1 _,ln1 _,by simp[hLe],by rw[zbK];exact OW,okV L hL⟩
    generalize S++[some (.lst (L.map PN))]=S0 at F0;generalize (L.map λp:Str×Nat=>(p.1,(p.2:Int)))=L0 at F0;refine eu λN7 h7=>?_;have H:∀(p:Nat)(L:List (Str×Int))(v6 v7:Option D)(S':aA),NG S S' p L->N7 [some (D.int z),some (fR g ts),some (mD n b es mv),some (D.lst (nL ys)),some (D.lst (zcP D.str (nms g))),some (D.loc p),v6,v7,none,none] S':=by
     intro p L v6 v7 S' F;refine h7 _ _ ?_;clear h7;have hL0:0<L.length:=List.length_pos_iff.mpr F.ne;obtain⟨n3,hn3,_⟩:=ya 3 (by decide);obtain⟨n4,hn4,_⟩:=ya 4 (by decide);refine eu λN8 h8=>?_;push_cast[bI,vI];refine⟨_,di (i:=3) hn3,L.length,by rw[aT F.at_];simp[gq,MO.d],?_⟩;push_cast[true_and];obtain⟨c3,hc3⟩:∃c3:Nat,(n3:Int) % (L.length:Int)=c3:=⟨n3 % L.length,by lia⟩
     have hc3':c3<L.length:=by have:=zaR (n3:Int) (show(0:Int)<L.length by lia);lia
     rw[hc3];refine⟨by lia,h8 _ _ ?_⟩;clear h8;refine eu λN9 h9=>?_;push_cast[cF];refine(oW F.at_ (by lia)).1 ((oW F.at_ (by lia)).2 ?_);simp only[fu,MO.d];have hf:=F.few;refine tE (by rw[zbs,zbr];lia) (h9 _ _ ?_);clear h9;have t:=F.cons (L':=L.drop c3++L.take c3) (λz=>by have:=congrArg zcG z;rw[zaL,zbs,zbr] at this;simp at this;lia) (by rw[zaL,zbs,zbr];lia) (λq U=>by
      rcases zbJ.mp U with U|U
      ·exact F.ok q (List.mem_of_mem_drop U)
      ·exact F.ok q (List.mem_of_mem_take U))
     generalize L.drop c3++L.take c3=M1 at t;generalize S'++[some (.lst (M1.map PD))]=S2 at t;generalize S'.length=p2 at t;have hM0:0<M1.length:=List.length_pos_iff.mpr t.ne;have hM36:=t.few;have HW:=aT t.at_;refine eu λN10 h10=>?_;push_cast[bI,vI];refine⟨_,di (i:=4) hn4,M1.length,by rw[HW];simp[gq,MO.d],?_⟩;push_cast[true_and];obtain⟨c4,hc4⟩:∃c4:Nat,(n4:Int) % (M1.length:Int)=c4:=⟨n4 % M1.length,by lia⟩
     have hc4':c4<M1.length:=by have:=zaR (n4:Int) (show(0:Int)<M1.length by lia);lia
     rw[hc4];refine⟨by lia,h10 _ _ ?_⟩;clear h10;have rT:∀(A B:List (Str×Int)),(∀q∈A,cP q.1=true)->(∀q∈B,cP q.1=true)->∀q∈A++B,cP q.1=true:=λA B h1 h2 q U=>(zbJ.mp U).elim (h1 q) (h2 q);have Mb:∀k,∀q∈M1.take k,cP q.1=true:=λk q U=>t.ok q (List.mem_of_mem_take U);have Mc:∀k,∀q∈M1.drop k,cP q.1=true:=λk q U=>t.ok q (List.mem_of_mem_drop U);have fin:∀(S3:aA)(R:List (Str×Int)),(∀k,k<S.length->S3[k]? =S[k]?)->S.length<=S3.length->(∀q∈R,cP q.1=true)->R.length<=100->M.ret S S3 (.new (.lst (R.map PD))) Q:=λS3 R g1 g2 g3 g4=>rE g1 g2 (cI λ_ _=>rfl) (q R g3 g4);refine eu λN11 h11=>?_;push_cast[bI,kW];refine⟨_,O,?_⟩;push_cast[true_and];refine nh (λ_=>?_) (λ_=>h11 _ _ ?_)
     ·refine(oW t.at_ (by lia)).2 ?_;push_cast[true_and];rw[show(c4:Int)+1=((c4+1:Nat):Int) by lia];refine(oW t.at_ (by lia)).1 ?_;simp only[fu,MO.d];refine tE (by rw[zbs,zbr];lia) ?_;exact fin _ _ t.kp t.ln (rT _ _ (Mb _) (Mc _)) (by rw[zaL,zbs,zbr];lia)
     clear h11;refine eu λN12 h12=>?_;push_cast[bI,kW];refine⟨_,O,?_⟩;push_cast[true_and];have ixF:∀W:AK,W (.dat (PD M1[c4])) S2->vJ (.loc p2) (.int (c4:Int)) S2 W:=λW q'=>by
      unfold vJ;rw[HW];exact⟨PD M1[c4],dj (by rw[zaZ,zak hc4'];rfl),q'⟩
     have Nr:∀(B:List (Str×Int))(W:AK),B.length<=10->W (.new (.lst ((M1++B).map PD))) S2->tN (.loc p2) (.lst (B.map PD)) S2 W:=λB W hb q'=>by
      have:=tE (a:=M1) (b:=B) (S':=S2) (Q:=W) (by lia) q';unfold tN at this⊢;rw[HW];exact this
     refine nh (λ_=>?_) (λ_=>h12 _ _ ?_)
     ·refine ixF _ ⟨sz rfl,Nr [M1[c4]] _ (by simp) ?_⟩;exact fin _ _ t.kp t.ln (rT _ _ t.ok λq U=>by rw[show q=M1[c4] by simpa using U];exact t.ok _ (zby _)) (by rw[zaL];simp;lia)
     clear h12;refine eu λN13 h13=>?_;push_cast[bI,pM,kW];refine⟨_,O,?_⟩;push_cast[true_and];refine nh (λ_=>?_) (λ_=>h13 _ _ ?_)
     ·have hx0:0<(nms g).length:=by lia
      obtain⟨x0,ex0⟩:∃x0,x0=(nms g)[0]:=⟨_,rfl⟩
      have ax0:fS ((nms g).map D.str) (0:Int)=some (.str x0):=by rw[ex0];exact kc hx0
      have ok0:cP x0=true:=ET _ (by rw[ex0];exact zby _);obtain⟨n6',hn6',hb6⟩:=ya 6 (by decide);have hb6:n6'<4:=hb6 4 rfl;refine⟨sz rfl,_,ax0,sz rfl,_,ax0,sz rfl,_,ax0,⟨by decide,by decide,by decide⟩,sz rfl,sz rfl,(oW t.at_ (by lia)).2 ⟨_,di (i:=6) hn6',?_⟩⟩;refine pick (by show n6'<4;exact hb6) λe he=>?_;obtain⟨y,rfl,I⟩:∃y:Str×Int,e=PD y/\cP y.1=true:=by
       simp only[zcg,zbA,or_false] at he;rcases he with rfl|rfl|rfl|rfl
       ·exact⟨("strange",0),rfl,by decide+kernel⟩
       ·exact⟨(x0,-1),rfl,ok0⟩
       ·exact⟨(x0,(n:Int)),rfl,ok0⟩
       ·exact⟨(x0,10 ^ Int.toNat 19),rfl,ok0⟩
      refine⟨sz rfl,?_⟩;simp only[fu,fy,MO.d];refine tE (b:=[y]) (by rw[zbr];simp;lia) ?_;refine(oW t.at_ (by lia)).1 ?_;simp only[fu,MO.d];refine tE (by rw[zaL,zbs,zbr];simp;lia) ?_;exact fin _ _ t.kp t.ln (rT _ _ (rT _ _ (Mb _) λq U=>by rw[show q=y by simpa using U];exact I) (Mc _)) (by rw[zaL,zaL,zbs,zbr];simp;lia)
     clear h13;refine eu λN14 h14=>?_;push_cast[bI,pM,kW];refine⟨_,O,?_⟩;push_cast[true_and];refine nh (λ_=>?_) (λ_=>h14 _ _ ?_)
     ·refine plc 8 9 8 9 S2 (λa c S3=>[a,c].length<=yag/\[D.tup [a,c]].length<=yag/\tN (.loc p2) (.lst [D.tup [a,c]]) S3 λr S'=>M.ret S S' r Q) rfl rfl (by decide) (by decide) λy I _=>⟨sz rfl,sz rfl,?_⟩
      refine Nr [(y.1,(y.2:Int))] _ (by simp) ?_;exact fin _ _ t.kp t.ln (rT _ _ t.ok λq U=>by rw[show q=(y.1,(y.2:Int)) by simpa using U];exact ET _ I) (by rw[zaL];simp;lia)
     ·refine⟨_,rfl,lY t.le t.at_ (oR t.kp t.ln) (cE _ _ (cI λ_ _=>rfl)) (q M1 t.ok (by lia))⟩
    push_cast[bI,kW];refine⟨_,O,?_⟩;push_cast[true_and];refine nh (λ_=>?_) (λ_=>H _ _ _ _ _ F0);have l0:=F0.ln;refine⟨zcI _,?_⟩;push_cast[iy,fM,dU];refine bY (λrest δ S'=>∃(dn rs:List Str)(v7:Option D),rest=rs.map D.str/\dn++rs=nms g/\δ=[some (D.int z),some (fR g ts),some (mD n b es mv),some (D.lst (nL ys)),some (D.lst (zcP D.str (nms g))),some (D.loc S0.length),some (D.int (a:Nat)),v7,none,none]/\S'=S0++[some (.lst ((gr n dn).map PN))]) ?_ ?_ _ _ _ ⟨[],nms g,none,rfl,rfl,rfl,rfl⟩
    ·rintro δ S' ⟨dn,rs,v7,e1,e2,rfl,rfl⟩;have:rs=[]:=by cases rs with|nil=>rfl|cons _ _=>simp at e1
     subst this;rw[zbL] at e2;subst e2;refine⟨trivial,H _ ((gr n (nms g)).map λp:Str×Nat=>(p.1,(p.2:Int))) _ _ _ ?_⟩;rw[eV];refine F0.cons (λz=>?_) (by rw[zbK];exact xU hk6 hn6) (okV _ λp Z=>?_)
     ·have hx0:0<(nms g).length:=by lia
      have:((nms g)[0],0)∈gr n (nms g):=zbF.mpr ⟨_,zby _,zcu.mpr ⟨0,zca.mpr hn1,rfl⟩⟩;rw[List.map_eq_nil_iff.mp z] at this;simp at this
     ·obtain⟨x,hx,Z⟩:=zbF.mp Z;obtain⟨i,hi,rfl⟩:=zcu.mp Z;exact⟨hx,zca.mp hi⟩
    ·rintro x xs δ S' N ⟨dn,rs,v7,e1,e2,rfl,rfl⟩ hN;cases rs with
     |nil=>simp at e1
     |cons r rs=>
      rw[zch] at e1;injection e1 with e1 e3;subst e1;subst e3;have hdl:(gr n dn).length<=36:=by
       have:(gr n dn).length<=(gr n (nms g)).length:=by
        rw[<-e2];unfold gr;rw[List.flatMap_append,zaL];lia
       exact zcw this (xU hk6 hn6)
      refine⟨trivial,?_⟩;push_cast[xX,dD,kO,pM];rw[aT aR];refine⟨rfl,by lia,by lia,?_⟩;rw[show b9 0 ((n:Int)).toNat=(zcK n).map λi:Nat=>D.int (i:Int) by rw[show((n:Int)).toNat=n by lia];simp[b9]];refine bg (α:=Nat) (λi:Nat=>D.int (i:Int)) (λ_=>true) (λi=>PN (r,i)) (λi=>[some (.int (i:Int)),some (.str r)]) (λδ=>∃v0,δ=[v0,some (.str r)]) trivial (λj=>⟨_,rfl⟩) (zcK n) [] _ ⟨none,rfl⟩ (λz hz δ hδ W q'=>?_) (λj hj W q'=>q') (λj hj W q'=>⟨_,rfl,_,rfl,sz rfl,q'⟩) ?_ ?_
      ·obtain⟨v0,rfl⟩:=hδ;exact q'
      ·rw[yaf];simp;lia
      rw[zbR,zaH.mpr (by simp)];refine⟨S0.length,_,_,_,rfl,rfl,aR,.inl rfl,by rw[zbK,zbK,zbe,yaf];lia,?_⟩;refine hN _ _ ⟨dn++[r],rs,_,rfl,by rw[<-e2];simp,rfl,?_⟩;rw[zav _ _ (zcH _),zcA];unfold gr;rw[List.flatMap_append,zbS];simp
end
open PySem PySem.Spec L2 M M6 PyProof.Rows
noncomputable abbrev uz:Stmt:=top 36
noncomputable abbrev Dz:List Str:=["_law_script","_law_rows_here","_law_machine_here","_law_web","_law_k","_law_stands","_law_kept","_law_found"]
noncomputable abbrev qO:List Str:=["_law_script"]
theorem kj:az Dz qO (ai uz):=L2.cM
theorem yy{S':aA}{b:Bool}{Q:AK}(q:Q (.dat (.bl b)) []):M.ret [] S' (.dat (.bl b)) Q:=eE (λk a=>absurd a (zbV _)) (zcI _) q
section
variable {P:yaj}{w:yak}{K:yaI}{mg:Str->Option yai}{base:Heap}{C fi G gi:Addr}
def Av:AN:=λa S Q=>∃ns:List Int,a=[.k8 ns]/\S=[]/\Q (.dat (.bl true)) []
theorem Ko{f:Addr}{fd:yap}(T:Txt K mg C fi G gi)(F:zP K "law" "law" uz f fd)(a:Def P w K mg base 1 "_law_cell_at" jJ (aM K AB))(o:Def P w K mg base 2 "_law_rows" jx (aM K Aj))(g:Def P w K mg base 3 "_law_machine" jB (aM K Ao))(v:Def P w K mg base 3 "_law_laid" gU (aM K (wz C w)))(c:Def P w K mg base 5 "is_closed" n8 (aM K (Az C w)))(u:Def P w K mg base 3 "_law_list" jC (aM K Aq))(l:Def P w K mg base 3 "_law_closed" jG (aM K (um w))):cW P w K mg base jL 6 f fd qO (aM K Av):=by
 refine PF F kj (λds S Q h=>?_) (λf cdv A outer s H E m=>?_)
 ·obtain⟨ns,rfl,_⟩:=h;rfl
 ·refine⟨_,(M.ah (M.aO (i:=1) kj.nd rfl (Or.inl rfl) (M.ow o m (M.au (M.ow a m (M.au (M.pv 0) (M.au M.aa M.af))) (M.au M.aa M.af)))) (M.ah (M.aO (i:=2) kj.nd rfl (Or.inl rfl) (M.ow g m (M.au (M.ow a m (M.au (M.pv 0) (M.au M.aa M.af))) (M.au M.aa M.af)))) (M.ah (M.aO (i:=3) kj.nd rfl (Or.inl rfl) (M.ow v m (M.au (M.pv 1) M.af))) (M.ah (M.bR (M.aH M.Jx (M.ow c m (M.au (M.pv 3) (M.au (M.pv 2) (M.au (M.aZ M.af) M.af)))) M.c9 (bf _)) (M.aj (M.aK M.c9)) M.aV) (M.ah (M.cA PassesOwn.never rfl (M.bN (by rfl) T.range (M.au (M.av M.bB M.aa (M.mL M.fK (by rfl) T.len (by decide+kernel) (M.au (M.cB M.i8 (M.pv 0) (M.cK M.aa) (M.cK M.aa)) M.af))) M.af)) (M.aq (i:=4) kj.nd rfl (Or.inl rfl)) (M.ah (M.aO (i:=5) kj.nd rfl (Or.inl rfl) (M.ow u m (M.au (M.ow a m (M.au (M.pv 0) (M.au (M.av M.bB M.aa (M.pv 4)) M.af))) (M.au (M.pv 1) (M.au (M.pv 2) M.af))))) (M.ah (M.aO (i:=6) kj.nd rfl (Or.inl rfl) (M.uM M.rX (by rfl) T.list (by decide+kernel) (M.au (M.pv 5) M.af))) (M.ah (M.aO (i:=7) kj.nd rfl (Or.inl rfl) (M.ow c m (M.au (M.pv 3) (M.au (M.pv 2) (M.au (M.pv 5) M.af))))) (M.aj (M.bR (M.pw_pt (M.pw_or (M.jS (M.l9 (M.mL M.Mf (by rfl) T.isinstance (by decide+kernel) (M.au (M.pv 7) (M.au (M.BI "bool" (by rfl) T.bool (by decide+kernel)) M.af))))) (M.pw_or (M.aH (M.Jy m) (M.pv 7) (M.ow l m (M.au (M.pv 1) (M.au (M.pv 2) (M.au (M.pv 5) M.af)))) (bf _)) (M.pw_or1 (M.aH (M.Jy m) (M.pv 5) (M.pv 6) (bf _)))))) (M.aj (M.aK M.c9)) M.aV)))))) (M.aj (M.aK M.c9))))))),λds S Q h=>?_⟩;obtain⟨ns,rfl,rfl,q⟩:=h;have e0:aG Dz [.k8 ns]=[some (.k8 ns),none,none,none,none,none,none,none]:=rfl;rw[e0];refine eu λN1 Z=>?_;push_cast[true_and];refine⟨ns,0,rfl,λz=>⟨z,rfl,λI O L=>Z _ _ ?_⟩⟩;clear Z;refine eu λN2 h2=>?_;push_cast[true_and];refine⟨ns,1,rfl,λz=>⟨z,rfl,λn b es U hn1 hn6 hb hes Y hml=>h2 _ _ ?_⟩⟩;clear h2;refine eu λN3 h3=>?_;push_cast[true_and];refine⟨I,O,rfl,L,λS1 own X1 o1 k1 l1=>h3 _ _ ?_⟩;clear h3;have hks:∀k∈I,texts k.2:=λk hk=>⟨by have:=(L.nm k hk).2.1;lia,λy hy=>mV ((L.nm k hk).2.2.2 y hy)⟩
  have htl:=L.tl;have htw:∀t∈O,t.2.1≠"*":=λt ht e=>by
   have:=(L.tk t ht).2.2;rw[e] at this;exact absurd this (by decide+kernel)
  have hkr:∀k,k∈I.reverse↔k∈I:=λk=>List.mem_reverse;have hnr:∀x,x∈nms I.reverse↔x∈nms I:=λx=>by unfold nms;rw[List.map_reverse,List.mem_reverse]
  have O6:∀j,vW I.reverse O U n j↔vW I O U n j:=λj=>by
   unfold vW Led;simp only[hkr,hnr]
  have clo:∀(j:List (Str×Int))(W:AK),(∀p∈j,cP p.1=true)->j.length<=500->(∀r:Bool,(r=true↔vW I O U n j)->W (.dat (.bl r)) S1)->Az C w [.loc 0,mD n b es U,.lst (j.map PD)] S1 W:=λj W Z h2 h3=>
   ⟨0,own,I.reverse,O,n,b,es,U,j,rfl,X1,by lia,Y,by lia,by lia,htw,λk hk=>hks k ((hkr k).mp hk),Z,h2,λr m=>h3 r (m.trans (O6 j))⟩
  have ON:∀(j:List (Str×Int))(W:AK),(∀p∈j,cP p.1=true)->j.length<=500->(∀r:Bool,(r=true↔vW I O U n j)->W (.dat (.bl r)) S1)->um w [fR I O,mD n b es U,.lst (j.map PD)] S1 W:=λj W Z h2 h3=>
   ⟨I,O,n,b,es,U,j,rfl,L,Y,by lia,Z,h2,h3⟩
  refine eu λN4 h4=>?_;push_cast[kW,Hu];refine⟨zcI _,clo [] _ (by simp) (by simp) λr m=>?_⟩;obtain rfl:r=true:=m.mpr λp hp=>by simp at hp
  refine⟨true,rfl,?_⟩;rw[yIn (by decide)];refine h4 _ _ ?_;clear h4;refine eu λN5 h5=>?_;push_cast[iy,kO,vI,qK];obtain⟨L9,hL9,hL9l⟩:∃L9:List Int,L9=M.cutD ns (some 3) (some 12)/\L9.length<=9:=⟨_,rfl,by
   unfold M.cutD;rw[zbr];have Z:=HT.dY;have a1:HT.cy ns.length ns.length (some (12:Int))<=12:=by rw[show(12:Int)=((12:Nat):Int) from rfl,HT.dY];lia
   have a2:ns.length<=3∨HT.cy ns.length 0 (some (3:Int))=3:=by rw[show(3:Int)=((3:Nat):Int) from rfl,HT.dY];lia
   rcases a2 with a2|a2
   ·rw[zbs];lia
   ·rw[a2];lia⟩
  rw[<-hL9];refine⟨L9.length,by simp[gq],by lia,by lia,?_⟩;rw[show((1:Int)+(L9.length:Int)).toNat=L9.length+1 by lia];refine bY (λrest δ S'=>∃(i:Nat)(v4 v5 v6 v7:Option D),rest=(b9 0 (L9.length+1)).drop i/\δ=[some (D.k8 ns),some (fR I O),some (mD n b es U),some (D.loc 0),v4,v5,v6,v7]/\S1=S') ?_ ?_ _ _ _ ⟨0,none,none,none,none,rfl,rfl,rfl⟩
  ·rintro δ S' ⟨i,v4,v5,v6,v7,_,rfl,rfl⟩;exact⟨trivial,h5 _ _ (yy q)⟩
  ·rintro x xs δ S' N ⟨i,v4,v5,v6,v7,e1,rfl,rfl⟩ hN;obtain⟨g1,rfl,rfl⟩:=iT e1;refine⟨trivial,?_⟩;simp only[bZ,List.set_cons_succ,zaP];refine eu λN6 h6=>?_;push_cast[true_and];refine⟨ns,2+i,by rw[show(2:Int)+(i:Int)=((2+i:Nat):Int) by lia],λz=>⟨z,I,O,n,b,es,U,rfl,L,hn1,hn6,Y,hml,λj X hpl=>h6 _ _ ?_⟩⟩;clear h6;refine eu λN7 h7=>?_;push_cast[qM];refine h7 _ _ ?_;clear h7;refine eu λN8 h8=>?_;push_cast[true_and];refine clo j _ X (by lia) λr m=>h8 _ _ ?_;clear h8;push_cast[kW,Hs,C0,CY,KL];refine⟨true,rfl,?_⟩;rw[yIn (by decide)];refine ON j _ X (by lia) λr' hr'=>?_;obtain rfl:r=r':=by
    have:=m.trans hr'.symm;cases r<;>cases r'<;>simp at this⊢
   rw[fy,show∀(S':aA)(W:AK),KI (.bl r) (.bl r) S' W=W (.dat (.bl (!decide (r=r)))) S' from λ_ _=>rfl];refine⟨false,by rw[yDt rfl];rfl,?_⟩;rw[yIn (by decide)];refine ne_self X ⟨_,rfl,?_⟩;rw[yIn (by decide)];exact hN _ _ ⟨i+1,_,_,_,_,rfl,rfl,rfl⟩
def wu(K:yaI):L2.Sp:=λc H Q _=>∃(a:Addr)(ns:List Int),c=[.ref a]/\cV K H a (ns.map V.int)/\ns.length<=63/\∀e,Q (.bl true) e
theorem HK{f:Addr}{fd:yap}{k:Nat}(h:cW P w K mg base jL k f fd qO (aM K Av)):cW P w K mg base jL k f fd qO (wu K):=h.imp λj H Q E z=>by
 obtain⟨a,ns,rfl,c,_,q⟩:=z;refine⟨⟨H,λ_=>none⟩,[.k8 ns],[],λr S=>r=.dat (.bl true),⟨gz.refl _,λn o e=>by simp at e,λn m o l e=>by simp at e,λ_ _=>rfl⟩,?_,⟨ns,rfl,rfl,rfl⟩,λr s v i g _ _ rep e=>?_⟩
 ·simp only[ak,Rep];exact⟨_,_,rfl,⟨a,rfl,c⟩,rfl⟩
 ·subst e;have:v=.bl true:=iI rep rfl;subst this;exact q g
end
open PySem L2
theorem all_mk{l:PySem.W.OpenLaw}{w:yak}{K:yaI}{h:Heap}{mg:Str->Option yai}{fa:Addr}(X:K.In h)(G:h.Ns yaq mg)(hfa:mg "law"=some (.ref fa)){C:Addr}{t:Addr}{t_ANY:Tok}{t_K:Tok}{t_T:Tok}(a_C:zcD K yaq "Web"=some (some (.ref C)))(a_Gr:zcD K yaq "Ground"=some (some (.ref t)))(I:lJ K "holds" uC)(e_scBy:lJ K "by_stand" Oo)(e_scNear:lJ K "moves_near" A5)(e_scKind:lJ K "steps_by_kind" Ba)(e_scClo:lJ K "is_closed" IM)(e_scCell:lJ K "_law_cell_at" Bd)(L:lJ K "_law_draws" uD)(H:lJ K "_law_knots" uB)(x:lJ K "_law_words" uw)(z:lJ K "_law_marks" uy)(e_scRows:lJ K "_law_rows" AY)(E:lJ K "_law_laid" uA)(y:lJ K "_law_steps" ux)(e_scLeaf:lJ K "_law_leaf" A7)(e_scMach:lJ K "_law_machine" wJ)(e_scMov:lJ K "_law_moves" IF)(e_scLClo:lJ K "_law_closed" A9)(e_scList:lJ K "_law_list" A6)(e_scLaw:lJ K "law" uz)(g:pZ K C "__init__" "Web.__init__" rB)(e_scPutK:pZ K C "put_knot" "Web.put_knot" A3)(e_scPutT:pZ K C "put_tie" "Web.put_tie" AZ)(e_scWKn:pZ K C "knots" "Web.knots" IE)(e_scWMk:pZ K C "marks" "Web.marks" ID)(e_scHas:pZ K C "has_tie" "Web.has_tie" II)(e_scWSt:pZ K C "steps" "Web.steps" IC)(e_scNeed:pZ K C "need_knot" "Web.need_knot" A4)(e_scLayK:pZ K C "lay_knot" "Web.lay_knot" A8)(e_scLayT:pZ K C "lay_tie" "Web.lay_tie" wK)(o:pZ K t "__init__" "Ground.__init__" Bb)(e_scGHas:pZ K t "has" "Ground.has" Bc)(e_scGWo:pZ K t "led_without_step" "Ground.led_without_step" IJ)(e_scGBy:pZ K t "led_by_step" "Ground.led_by_step" IL)(e_scGTo:pZ K t "led_to" "Ground.led_to" IK)(a:zcD K yaq "isinstance"=some none)(z_dict:zcD K yaq "dict"=some none)(j:zcD K yaq "reversed"=some none)(z_len:zcD K yaq "len"=some none)(z_tuple:zcD K yaq "tuple"=some none)(z_list:zcD K yaq "list"=some none)(z_range:zcD K yaq "range"=some none)(O:zcD K yaq "sorted"=some none)(z_set:zcD K yaq "set"=some none)(z_all:zcD K yaq "all"=some none)(z_bool:zcD K yaq "bool"=some none)(m_ANY:zcD K yaq "ANY"=some (some (.str "*" t_ANY)))(m_K:zcD K yaq "MOST_KNOTS"=some (some (.int 40 t_K)))(m_T:zcD K yaq "MOST_TIES"=some (some (.int 300 t_T)))(x_pg:zbH K C Str.empty=true)(x_hd:zbl K C=true)(x_po:zbm K C=true)(x_sa:zcc K (.ref C) "__setattr__"=some (some (.builtin "object.__setattr__")))(S:zcc K (.ref C) "marked"=some none)(x_tied:zcc K (.ref C) "tied"=some none)(x_near:zcc K (.ref C) "near"=some none)(x_mk:zbY K C=true)(x_kp:zcd K (.ref C)=true)(x_pgG:zbH K t Str.empty=true)(x_hdG:zbl K t=true)(x_poG:zbm K t=true)(x_saG:zcc K (.ref t) "__setattr__"=some (some (.builtin "object.__setattr__")))(x_nearG:zcc K (.ref t) "near"=some none)(u:zcc K (.ref t) "marked"=some none)(Q:zcc K (.ref t) "paths"=some none)(x_mkG:zbY K t=true)(x_kpG:zcd K (.ref t)=true):
  ∃fd:yap,(∀(s:yah)(v:yai),yaB s fd ⟨[v],[]⟩ [("_law_script",v)])/\∀base:Heap,K.In base->base.Ns yaq mg->cW l.prog w K mg base jL 6 fa fd ["_law_script"] (wu K):=by
 have zC:=I.src (ps:=gW) X G λ_ _ _ _ _ _=>J.t8 (λ_ _=>rfl);have KS:=e_scBy.src (ps:=tO) X G λ_ _ _ _ _ _=>J.t8 (λ_ _=>rfl);have Dg:=e_scNear.src (ps:=jA) X G λ_ _ _ _ _ _=>J.Ky (λ_=>rfl);have Dp:=e_scKind.src (ps:=jH) X G λ_ _ _ _ _ _=>J.Ky (λ_=>rfl);have Gg:=e_scClo.src (ps:=n8) X G λ_ _ _ _ _ _=>J.FP (λ_ _ _=>rfl);have Dr:=e_scCell.src (ps:=jJ) X G λ_ _ _ _ _ _=>J.t8 (λ_ _=>rfl);have zD:=L.src (ps:=eW) X G λ_ _ _ _ _ _=>J.t8 (λ_ _=>rfl);have zB:=H.src (ps:=gV) X G λ_ _ _ _ _ _=>λus e=>by cases us with|nil=>rfl|cons _ _=>cases e
 have zw:=x.src (ps:=fP) X G λ_ _ _ _ _ _=>λus e=>by cases us with|nil=>rfl|cons _ _=>cases e
 have zy:=z.src (ps:=fQ) X G λ_ _ _ _ _ _=>λus e=>by cases us with|nil=>rfl|cons _ _=>cases e
 have Dc:=e_scRows.src (ps:=jx) X G λ_ _ _ _ _ _=>J.t8 (λ_ _=>rfl);have zA:=E.src (ps:=gU) X G λ_ _ _ _ _ _=>J.Ky (λ_=>rfl);have zx:=y.src (ps:=gT) X G λ_ _ _ _ _ _=>J.t8 (λ_ _=>rfl);have Dj:=e_scLeaf.src (ps:=jD) X G λ_ _ _ _ _ _=>J.t8 (λ_ _=>rfl);have Dh:=e_scMach.src (ps:=jB) X G λ_ _ _ _ _ _=>J.t8 (λ_ _=>rfl);have Ga:=e_scMov.src (ps:=kh) X G λ_ _ _ _ _ _=>J.FP (λ_ _ _=>rfl);have Dn:=e_scLClo.src (ps:=jG) X G λ_ _ _ _ _ _=>J.FP (λ_ _ _=>rfl);have Di:=e_scList.src (ps:=jC) X G λ_ _ _ _ _ _=>J.FP (λ_ _ _=>rfl);have Nz:=g.src (ps:=ig) λ_ _ _ _ _ _=>J.Ky (λ_=>rfl);have De:=e_scPutK.src (ps:=jz) λ_ _ _ _ _ _=>J.FP (λ_ _ _=>rfl);have Dd:=e_scPutT.src (ps:=jy) λ_ _ _ _ _ _=>J.by4 (λ_ _ _ _=>rfl);have F9:=e_scWKn.src (ps:=nV) λ_ _ _ _ _ _=>J.Ky (λ_=>rfl);have F8:=e_scWMk.src (ps:=nU) λ_ _ _ _ _ _=>J.t8 (λ_ _=>rfl);have Gb:=e_scHas.src (ps:=nW) λ_ _ _ _ _ _=>J.by4 (λ_ _ _ _=>rfl);have F7:=e_scWSt.src (ps:=nT) λ_ _ _ _ _ _=>J.t8 (λ_ _=>rfl);have Df:=e_scNeed.src (ps:=gg) λ_ _ _ _ _ _=>J.t8 (λ_ _=>rfl);have Dm:=e_scLayK.src (ps:=jF) λ_ _ _ _ _ _=>J.FP (λ_ _ _=>rfl);have Dk:=e_scLayT.src (ps:=jE) λ_ _ _ _ _ _=>J.by4 (λ_ _ _ _=>rfl);have NX:=o.src (ps:=ki) λ_ _ _ _ _ _=>J.FP (λ_ _ _=>rfl);have Dq:=e_scGHas.src (ps:=jI) λ_ _ _ _ _ _=>J.t8 (λ_ _=>rfl);have Gd:=e_scGWo.src (ps:=nX) λ_ _ _ _ _ _=>J.t8 (λ_ _=>rfl);have Gf:=e_scGBy.src (ps:=nZ) λ_ _ _ _ _ _=>J.t8 (λ_ _=>rfl);have Ge:=e_scGTo.src (ps:=nY) λ_ _ _ _ _ _=>J.t8 (λ_ _=>rfl);obtain⟨f_scLaw,oc_scLaw,od_scLaw,Y,dc_scLaw,U,an_scLaw,cd_scLaw,ct_scLaw,sl_scLaw,a_scLaw,l_scLaw,c_scLaw,k_scLaw⟩:=e_scLaw.ex;obtain⟨f_scInit,oc_scInit,od_scInit,kV_scInit,dc_scInit,pm_scInit,an_scInit,cd_scInit,ct_scInit,sl_scInit,a_scInit,c,i,f,Z⟩:=g.ex;obtain⟨f_scGIn,oc_scGIn,od_scGIn,kV_scGIn,dc_scGIn,pm_scGIn,an_scGIn,cd_scGIn,ct_scGIn,sl_scGIn,a_scGIn,m,q,n,i_scGIn⟩:=o.ex;have e:=hfa.symm.trans (zcq X G a_scLaw);cases e;have F:=gc (st:=uz) l_scLaw c_scLaw k_scLaw;have T:Txt K mg C f_scInit t f_scGIn:=⟨zaV X G a,zaV X G z_dict,zaV X G j,zaV X G z_len,zaV X G z_tuple,zaV X G z_list,zaV X G z_range,zaV X G O,zaV X G z_set,zaV X G z_all,zaV X G z_bool,⟨_,zcq X G m_ANY⟩,⟨_,zcq X G m_K⟩,⟨_,zcq X G m_T⟩,zcq X G a_C,⟨x_pg,x_hd,x_po,x_sa⟩,⟨x_mk,a_scInit,Z,x_kp⟩,S,x_tied,x_near,zcq X G a_Gr,⟨x_pgG,x_hdG,x_poG,x_saG⟩,⟨x_mkG,a_scGIn,i_scGIn,x_kpG⟩,x_nearG,u,Q⟩
 refine⟨zcC "law" "law" (cO uz) (bw uz) (ai uz) .none Y dc_scLaw U an_scLaw cd_scLaw ct_scLaw,λs v=>.of_eq rfl,λbase _ _=>?_⟩;have qT:=FH (P:=l.prog) (w:=w) (base:=base) T zD;have yo:=Fz (P:=l.prog) (w:=w) (base:=base) T zw;have lK:=FD (P:=l.prog) (w:=w) (base:=base) T zy;have vV:=Kd (P:=l.prog) (w:=w) (base:=base) T Df;have KZ:=Kr (P:=l.prog) (w:=w) (base:=base) T (gc (st:=rB) c i f);have K1:=(gc (st:=rB) c i f).binds (ps:=ig) λ_ _ _ _ _ _=>J.Ky (λ_=>rfl);have NH:=Nf (P:=l.prog) (w:=w) (base:=base) T (gc (st:=Bb) m q n) (Ke T Dg (O4 T KS)) (Kq T Dp) (M4 T F9) (M3 T F8 vV) (M0 T F7 vV);have NN:=(gc (st:=Bb) m q n).binds (ps:=ki) λ_ _ _ _ _ _=>J.FP (λ_ _ _=>rfl);have Hz:=Na (P:=l.prog) (w:=w) (base:=base) T Ga (FA T zx);exact HK (Ko T F (Ku T Dr) (J8 T Dc qT (FF T zB) yo lK) (Kf T Dh qT (Kh T Dj yo lK)) (FE T zA KZ K1 (Ka T De (Km T Dm)) (J9 T Dd vV (Nb T Gb) (Kl T Dk))) (Nh T Gg NH NN (Ks T Dq) (Nd T Ge (Nc T Gd (FG T zC)) (Ng T Gf))) (Kg T Di qT Hz) (Kp T Dn Hz))
theorem walk{l:PySem.W.OpenLaw}{q:yaj}{c:List Str}{v:(Str->Option yai)->Heap->Prop}{i:yak->Heap->Prop}{d:DefRec}{K:Params->yaI}(j:l.most=some 63)(e:d.params.defaults=[])(o:∀(w:yak)(h:Heap),i w h->(K w.params).In h)(F:∀(w:yak)(mg:Str->Option yai)(g:Addr)(h:Heap),(K w.params).In h->h.Ns yaq mg->mg d.name=some (.ref g)->∃fd:yap,(∀(s:yah)(u:yai),yaB s fd ⟨[u],[]⟩ [("_law_script",u)])/\∀base:Heap,(K w.params).In base->base.Ns yaq mg->cW l.prog w (K w.params) mg base jL 6 g fd ["_law_script"] (wu (K w.params))):
  PySem.W.WalkO q c v i l.row.toRowW d [] (λf vs=>PySem.call f vs):=
 L2.DR (n:=63) (k:=6) (x:="_law_script") (CX:=λ_=>jL) (sp:=λw=>wu (K w.params)) j (by decide) e ⟨rfl,by decide,by decide,rfl⟩ o F (λ_ _ a ns m _ t=>⟨a,ns,rfl,t,m,λ_=>rfl⟩) λ_ _ _ _ _ z=>z
end K38
open PySem PySem.W PyProof.Rows
namespace PySem.Challenge.cw_pathask_k38_what_is_closed_holds
def tw11204697124989306262:=0
def tw1956077545865388377:=0
def tw5293496183718574168:=0
def tw14911369408460038043:=0
def tw9100082730510697481:=0
def tw12617075783087012377:=0
def tw4429142553988967820:=0
def tw12227166950184796808:=0
def tw14431525105011558056:=0
def tw18397830566139799112:=0
def tw12337598780576525971:=0
def tw12937959034925213979:=0
def tw5589678265274243014:=0
def tw7344448629460750755:=0
def tw8076396841064095626:=0
def tw13856846348718029525:=0
def tw698759407919624124:=0
def tw7212356952347286956:=0
def tw815691109938718154:=0
def tw8816618778702001330:=0
def tw16301950828816891062:=0
def tw10483537950145838751:=0
def tw6610897267442591785:=0
def tw9784652061317918021:=0
def tw12138979388422290669:=0
def tw13581958524482369952:=0
def tw4482242820547123460:=0
def tw11934922473176146024:=0
def tw2018197889738604833:=0
def tw11134751598854839027:=0
def tw9013279210450338301:=0
def tw5131734867963296479:=0
def tw10861538434309070085:=0
def tw16087782996454238197:=0
def tw16853872195570845045:=0
def tw17131940333805383021:=0
def tw11976711032571252851:=0
def tw15675439495616922224:=0
def tw9605854689900034560:=0
def tw18288096406404871605:=0
def tw8168250751062460987:=0
def tw10004851823294539107:=0
def tw226366944976399825:=0
def tw12294833929322953527:=0
def tw9038593198954031967:=0
def tw81713443100821074:=0
def tw2001553701429312042:=0
def tw16608102169627285268:=0
def tw13458914171177602914:=0
def tw12779429927485680787:=0
def tw16887879413652984401:=0
def tw10160184446870215010:=0
def tw3045846956797052311:=0
def tw10718977509784471431:=0
def tw12163966813802931436:=0
def tw7557705049202041475:=0
def tw15860520159097887171:=0
def tw9789324574592481758:=0
def tw4227635330006230800:=0
def tw7736357675020367484:=0
def tw9617280784936871721:=0
def tw9287495752350730728:=0
def tw12413990790439400750:=0
def tw15888428893435985361:=0
def tw14731924365581544378:=0
def tw8443567926886795278:=0
def tw5429184499930902532:=0
def tw10060722999957553413:=0
def tw4089702712302020670:=0
def tw2890535517163056410:=0
def tw12260608018400872654:=0
def tw12289182942039373169:=0
def tw8941074415673214322:=0
def tw961127070862862730:=0
def tw2634336225746408197:=0
def tw6886860530927097628:=0
def tw5651008723474674140:=0
def tw10315449342657486692:=0
def tw13934815168070626936:=0
def tw5191550739134812412:=0
def tw3662220940854896549:=0
def tw7012982544779789572:=0
def tw391323141565812656:=0
def tw1843320475577779258:=0
def tw1090055287666234011:=0
def tw13062682972131866946:=0
def tw473114649730193809:=0
def tw16720401620466573658:=0
def tw18400907068394377676:=0
def tw154042998758134268:=0
def tw2690000271161870014:=0
def tw10383639689748312922:=0
def tw11688000058426184671:=0
def tw1782027901216016596:=0
def tw6623736151277845252:=0
def tw12928747435500946439:=0
def tw7429781101816033039:=0
def tw18079016314419011441:=0
def tw9300762810590014351:=0
def tw16774742207618103197:=0
def tw16296608128026633630:=0
def tw16911186411223338060:=0
def tw10969697137759324836:=0
def tw197370746864991723:=0
def tw7756403678248818622:=0
def tw14131146653787871745:=0
def tw10776338796499651317:=0
def tw4120898422734780595:=0
def tw18073719332606068440:=0
def tw5820664166183866485:=0
def tw4951808548458265423:=0
def tw16805223108223562627:=0
def tw18345935931276407027:=0
def tw17442289285554438205:=0
def tw7526274199939837743:=0
def tw14817038129538767833:=0
def tw2443965769416279514:=0
def tw5960132970699096326:=0
def tw7790402828278392486:=0
def tw4205352360192926779:=0
def tw8283021159638299916:=0
def tw6457641453314053166:=0
def tw7881946736164404991:=0
def tw11115199146707683299:=0
def tw3408814443477102853:=0
def tw18317848828527953293:=0
def tw14582471037811173998:=0
def tw9053772463213490086:=0
def tw10564540333805062328:=0
def tw12959893384364167707:=0
def tw4196313368637172286:=0
def tw16372603768726109881:=0
def tw13112200615422509453:=0
def tw4404106330930314392:=0
def tw8505515692171167838:=0
def tw13980652053988993543:=0
def tw2276858858729259623:=0
def tw14394769154220448765:=0
def tw88698608313311404:=0
def tw6718445573559905493:=0
def tw18348557780840044435:=0
def tw12733836764464221306:=0
def tw17518714656930951515:=0
def tw5260901092065277073:=0
def tw7797021618661176000:=0
def tw13493439953120518043:=0
def tw15280180768072392825:=0
def tw6230310530118592942:=0
def tw10187681481630872312:=0
def tw3324466196153862355:=0
def tw16977049563691565616:=0
def tw17010799707238223924:=0
def tw14838486341508429467:=0
def tw296810353534730284:=0
def tw11998838459495620370:=0
def tw2953658115899672928:=0
def tw3958792550082505259:=0
def tw4047575974650847650:=0
def tw9902254198688786992:=0
def tw12822790574413650125:=0
def tw290524135509076563:=0
def tw6901978641717030225:=0
def tw17820832957259853983:=0
def tw11059113356196181756:=0
def tw8538334871397736587:=0
def tw17955626467552938411:=0
def tw9972427373160652684:=0
def tw5125179473468751647:=0
def tw18371970608296331552:=0
def tw1583493559230141993:=0
def tw15352257072549330750:=0
def tw2461417065086420991:=0
def tw9165154721387533704:=0
def tw4078995981010852785:=0
def tw14831338359549134886:=0
def tw5218217458206857831:=0
def tw3172263242569789861:=0
def tw6122079655754472617:=0
def tw15418796873839887989:=0
def tw12837652560722579544:=0
def tw5615527056387033515:=0
def tw2372720146355459437:=0
def tw5583918228897417360:=0
def tw14068780861863345074:=0
def tw13658897564823082665:=0
def tw3405314426430608657:=0
def tw11617076949872924534:=0
def tw2178567572784086626:=0
def tw9045386787271876263:=0
def tw15693803952567780123:=0
def tw16976849962934760854:=0
def tw16516414426569855936:=0
def tw17262276590623746936:=0
def tw15526656635075448296:=0
def tw10255055330436282684:=0
def tw7206234245657330678:=0
def tw5379364163254708242:=0
def tw11125876424061079277:=0
def tw15091843327242422658:=0
def tw16852775322008917336:=0
def tw1476110002736870732:=0
def tw9892478779490767685:=0
def tw14208874336671224181:=0
def tw16648283447990669019:=0
def tw17527306885655204835:=0
def tw883002355562273:=0
def tw12970587691154604423:=0
def tw8807390644202374870:=0
def tw15769663840929248879:=0
def tw14687451327555707644:=0
def tw9234082668147514576:=0
def tw6978973150234813482:=0
def tw6041799535869214514:=0
def tw12532954469952314987:=0
def tw14449474882195481191:=0
def tw14966285590808310851:=0
def tw15175301324431280263:=0
def tw9891110995649179487:=0
def tw15890373673652951572:=0
def tw16855320380802165008:=0
def tw15190305158325116561:=0
def tw7084330549452734489:=0
def tw12661971307586748019:=0
def tw8003991487437101361:=0
def tw29601265157249954:=0
def tw9155722821081208545:=0
def tw3121039163641076746:=0
def tw15430840562167803935:=0
def tw15963183946964164159:=0
def tw4579833725338064962:=0
def tw4793987420804404321:=0
def tw14507559225335952911:=0
def tw9255589645034069418:=0
def tw879444267596421317:=0
def tw10946652864305482893:=0
def tw700564823179082563:=0
def tw875429072076832703:=0
def tw16266288960015552766:=0
def tw11486381128228313116:=0
def tw13387484189097872177:=0
def tw12110586756044002318:=0
def tw10029651332190264264:=0
def tw7905737055031044217:=0
def tw11161106294655865339:=0
def tw522979832174314515:=0
def tw2294826422014529477:=0
def tw17818141657987199424:=0
def tw15891525263715120541:=0
def tw68394806405047400:=0
def tw2234643471899472859:=0
def tw16555154585119986216:=0
def tw15035547489636346694:=0
def tw14425265324797919830:=0
def tw3425736482957243844:=0
def tw7181894123340395007:=0
def tw11807822383285751888:=0
def tw15187999094414769675:=0
def tw18136451301104506872:=0
def tw4755788665380484073:=0
def tw14569424818870373618:=0
def tw2037982709038418142:=0
def tw16400213688713038594:=0
def tw8507036455310545479:=0
def tw15059199253957629233:=0
def tw5554559222095066096:=0
def tw6322402290833793961:=0
def tw4444249080775583197:=0
def tw8057485689714387469:=0
def tw14659747620931497717:=0
def tw15605800996072230887:=0
def tw10354492148263010067:=0
def tw581128782386402443:=0
def tw11389370638690424474:=0
def tw6426231738196211889:=0
def tw4550261324245903773:=0
def tw5116242271861489085:=0
def tw18294064301700483483:=0
def tw7619748631894107145:=0
end PySem.Challenge.cw_pathask_k38_what_is_closed_holds
set_option Elab.async true in
set_option maxRecDepth 100000 in
set_option maxHeartbeats 0 in
theorem PySem.Challenge.cw_pathask_k38_what_is_closed_holds : PySem.Challenge.rw_pathask_k38_what_is_closed.Holds := by
 w_on;o_law;k_head;(case hw=>w_witness2)
 k_fill
 refine K38.walk (l:=PySem.Challenge.rw_pathask_k38_what_is_closed) rfl rfl (λw h Y=>PySem.W.kIn_of Y) ?F
 case F =>
  intro w mg fa h KX G hmg
  refine' K38.all_mk KX G hmg ?_ ?_ ?_ ?_ ?_ ?_ ?_ ?_ ?_ ?_ ?_ ?_ ?_ ?_ ?_ ?_ ?_ ?_ ?_ ?_ ?_ ?_ ?_ ?_ ?_ ?_ ?_ ?_ ?_ ?_ ?_ ?_ ?_ ?_ ?_ ?_ ?_ ?_ ?_ ?_ ?_ ?_ ?_ ?_ ?_ ?_ ?_ ?_ ?_ ?_ ?_ ?_ ?_ ?_ ?_ ?_ ?_ ?_ ?_ ?_ ?_ ?_ ?_ ?_ ?_ ?_ ?_ ?_
  all_goals try first | (refine' L2.lJ.of ?a ?l ?c ?k;(case a=>k_is);(case l=>k_is);(case c=>k_is);(case k=>k_is)) | (refine' L2.pZ.of ?a ?l ?c ?k ?i;(case a=>k_is);(case l=>k_is);(case c=>k_is);(case k=>k_is);(case i=>k_is)) | k_is
