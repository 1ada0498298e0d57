import PyProof.Rows.All
import Wide.All
import OpenK.AllK
import Wide.FinOn
import Lean
import PyProof.EqAt
import PyProof.EqKinds
import PyProof.TupleCall
import KE.KRevIter
import KE.KIntText
import PyProof.Rows.StrNews
import KE.KSortTup
import PyProof.Rows.SetFrom
import PyProof.WalksMore
import KE.KRevSl
import PyProof.ZipIter
import PyProof.TupleIter
import KE.KItemsList
import PyProof.ListRange
import PyProof.Rows.SortRuns
import KE.KStateDown
import PyProof.Rows.Range3
import PySem.Challenge.RW_pathask_k35_whole_turned
open List renaming eq_nil_of_length_eq_zero->zaa,getElem?_append_right->zab,getElem?_eq_some_iff->zad,getElem?_append_left->zae,getElem?_zip_eq_some->zaf,drop_eq_getElem_cons->zag,pairwise_iff_getElem->zah,getElem?_eq_getElem->zak,length_erase_of_mem->zal,getElem?_cons_succ->zam,length_pos_of_mem->zao,mem_append_right->zas,getElem?_eq_none->zat,set_append_right->zau,length_filter_le->zav,mem_cons_of_mem->zay,mem_append_left->zaz,getElem?_set_ne->zaA,mem_of_getElem? -> zaB,filterMap_cons->zaD,replicate_succ->zaE,map_congr_left->zaF,getElem_of_mem->zaG,filter_eq_self->zaH,mem_cons_self->zaL,length_append->zaM,zip_cons_cons->zaN,mem_singleton->zaO,getElem_range->zaP,pairwise_cons->zaQ,size_toArray->zaY,any_eq_false->zaZ,getElem?_map->zba,flatten_cons->zbb,append_assoc->zbc,getElem?_set->zbd,length_range->zbe,nodup_append->zbf,pairwise_map->zbg,length_cons->zbq,length_take->zbr,length_drop->zbs,lookup_cons->zbt,all_eq_true->zbu,take_length->zbv,cons_append->zbw,ext_getElem->zbx,getElem_mem->zby,getElem_map->zbz,not_mem_nil->zbA,map_fst_zip->zbB,any_eq_true->zbC,filter_cons->zbD,mem_reverse->zbE,mem_filter->zbI,mem_append->zbJ,length_map->zbK,append_nil->zbL,nodup_cons->zbM,of_mem_zip->zbN,find?_cons->zbO,length_nil->zbP,foldl_cons->zbQ,nil_append->zbR,map_append->zbS,length_set->zbT,length_zip->zbU,range_succ->zbV,mem_range->zcb,replicate->zcc,take_left->zcd,mem_cons->zci,map_cons->zcj,any_cons->zck,all_cons->zcl,map_take->zcm,map_nil->zct,any_map->zcu,map_map->zcv,mem_map->zcw,lookup->zcI,length->zcJ,range->zcO,cons->zcR,getD->zcS,map->zcT
open Array renaming getElem?_eq_none_iff->zac,getElem?_eq_getElem->zai,getElem?_eq_none->zap,getElem?_toList->zaw,toArray_toList->zaC,length_toList->zaJ,forIn_toList->zaV,toList_push->zbl,getD->zcQ
open PySem.Calls renaming call_function_entry->zaj,spliced_cons->zaX,spliced_nil->zbp
open Nat renaming add_sub_cancel_left->zan,add_left_cancel->zaI,lt_of_lt_of_le->zaR,lt_succ_of_lt->zbh,le_of_lt_succ->zbi,lt_trichotomy->zbj,lt_succ_self->zbF,not_lt_zero->zbW,lt_irrefl->zcn,ne_of_lt->zcx,le_trans->zcy,le_of_lt->zcz,ne_of_gt->zcA,lt_trans->zcB,lt_or_ge->zcC,sub_self->zcD,le_refl->zcK,zero_le->zcL,le_succ->zcM,mod_lt->zcP
open PySem.Heap renaming get?_push_of_some->zaq,get?_update_other->zar,get?_update_self->zax,get?_push_size->zaK,size_push->zch,lt_size->zcH
open Int renaming emod_lt_of_pos->zaS,toNat_natCast->zbk,emod_nonneg->zbX
open Bool renaming false_ne_true->zaT,false_eq_true->zaU,and_eq_true->zbG,eq_iff_iff->zbY,or_false->zco,true_and->zcp,and_self->zcq,and_true->zcr
open PySem.W renaming mg_none_of->zaW,hasDictIn->zbm,emptyDict->zbn,plainGet->zbH,instObj->zbZ,kia_one->zca,findIn->zce,keepIn->zcf,codeIn->zcg,mg_of->zcs,isFn->zcE,fnOf->zcF,nsIn->zcG
open Option renaming isSome_map->zbo,some->zcN
open PySem renaming wpAny_bind->yaa,wpAny_pure->yab,wpAny_mono->yac,wpAny_holding->yad,wpAny_newObj_type->yae,sizeLine_eq->yaf,sizeLine->yag,Shared->yah,Value->yai,Program->yaj,World->yak,Around->yal,PyData->yam,compareOp->yan,starEach->yao,FuncData->yap,mainGlobals->yaq,wpAny->yar,sysModules->yas,swapsWith->yat,backTo->yau,DictEntry->yav,GenState->yaw,codeAny_mono->yax,wpAny_standAt->yay,bindArgs->yaz,BindsTo->yaA,wpAny_onRaise->yaB,getMethod->yaC,keywordEach->yaD,backToKw->yaE,wpAny_execs_nil->yaF,wpAny_execs_cons->yaG,wpAny_call->yaH
open PySem.W renaming Frag->yaI
theorem yDf{p:Prop}[Decidable p](h:¬p):decide p=false:=decide_eq_false h
theorem yDt{p:Prop}[Decidable p](h:p):decide p=true:=decide_eq_true h
theorem yIn.{u}{c:Prop}{h:Decidable c} (n:¬c) {α:Sort u}{t e:α}:(ite c t e)=e:=if_neg n
theorem yIp.{u}{c:Prop}{h:Decidable c} (n:c) {α:Sort u}{t e:α}:(ite c t e)=t:=if_pos n
theorem ySz(n:Nat)(h:n<=100:=by decide):n<=PySem.sizeLine:=by rw[PySem.sizeLine_eq];lia
set_option Elab.async false
set_option linter.all false
set_option compiler.extract_closed false
set_option maxRecDepth 100000
namespace L2
open PySem PySem.Spec PyProof.Rows
abbrev Key:=Sum Int Str
noncomputable def oR:Key->yai->Bool
 |.inl k,v=>Value.isInt k v
 |.inr x,v=>Value.isStrOf x v
noncomputable def Tg(w:yak):Key->Int
 |.inl k=>hashInt k
 |.inr x=>hashStr w x
theorem bL:∀{k:Key}{v:yai},oR k v=true->(∃i t,k=Sum.inl i/\v=Value.int i t)∨(∃x t,k=Sum.inr x/\v=Value.str x t)
 |.inl i,v,h=>by
  obtain⟨t,e⟩:=Value.isInt_shape (k:=i) (v:=v) h;exact .inl ⟨i,t,rfl,e⟩
 |.inr x,v,h=>by
  obtain⟨t,e⟩:=Value.isStrOf_shape (x:=x) (v:=v) h;exact .inr ⟨x,t,rfl,e⟩
theorem Ci(i:Int)(t:Tok):oR (.inl i) (.int i t)=true:=by simp[oR,Value.isInt]
theorem Cg(x:Str)(t:Tok):oR (.inr x) (.str x t)=true:=by simp[oR,Value.isStrOf]
theorem NQ(a b:Int):decide ((Sum.inl a:Key)=Sum.inl b)=(a==b):=by
 by_cases e:a=b
 ·subst e;simp
 ·have h:¬(Sum.inl a:Key)=Sum.inl b:=λq=>e (Sum.inl.inj q);rw[yDf h];exact(beq_eq_false_iff_ne.mpr e).symm
theorem NN(a b:Str):decide ((Sum.inr a:Key)=Sum.inr b)=decide (a=b):=by
 by_cases e:a=b
 ·subst e;simp
 ·have h:¬(Sum.inr a:Key)=Sum.inr b:=λq=>e (Sum.inr.inj q);rw[yDf h,yDf e]
theorem NP(a:Int)(b:Str):decide ((Sum.inl a:Key)=Sum.inr b)=false:=yDf (λq=>nomatch q)
theorem NO(a:Str)(b:Int):decide ((Sum.inr a:Key)=Sum.inl b)=false:=yDf (λq=>nomatch q)
noncomputable def bN(prog:yaj)(w:yak):PySem.KeyKind prog w Key where
 is:=oR
 hash:=Tg w
 inj:=λv a b o m=>by
  rcases bL o with⟨i,t,rfl,rfl⟩|⟨x,t,rfl,rfl⟩
  ·rcases bL m with⟨j,u,rfl,e⟩|⟨y,u,rfl,e⟩
   ·injection e with e1 _;rw[e1]
   ·exact nomatch e
  ·rcases bL m with⟨j,u,rfl,e⟩|⟨y,u,rfl,e⟩
   ·exact nomatch e
   ·injection e with e1 _;rw[e1]
 byValue:=λk v h=>by
  rcases bL h with⟨i,t,rfl,rfl⟩|⟨x,t,rfl,rfl⟩<;>rfl
 pyHash:=λl h=>by
  rcases bL l with⟨i,t,rfl,rfl⟩|⟨x,t,rfl,rfl⟩
  ·exact wpAny_pyHash_int h
  ·exact wpAny_pyHash_str h
 eqBool:=λn l h=>by
  rcases bL n with⟨i,t,rfl,rfl⟩|⟨x,t,rfl,rfl⟩
  ·rcases bL l with⟨j,u,rfl,rfl⟩|⟨y,u,rfl,rfl⟩
   ·rw[NQ] at h;exact wpAny_eqBool_int h
   ·rw[NP] at h;exact SeqAt.EqAt.int_str i t y u _ _ _ _ h
  ·rcases bL l with⟨j,u,rfl,rfl⟩|⟨y,u,rfl,rfl⟩
   ·rw[NO] at h;exact SeqAt.EqAt.str_int x t j u _ _ _ _ h
   ·rw[NN] at h;exact wpAny_eqBool_str h
 «strs»:=λk x t v h=>by
  rcases bL h with⟨i,u,rfl,e⟩|⟨y,u,rfl,e⟩
  ·exact nomatch e
  ·injection e with e1 _;subst e1;cases v<;>rfl
theorem vg(prog:yaj)(w:yak)(i:Int)(t:Tok):(bN prog w).is (.inl i) (.int i t)=true:=Ci i t
theorem vf(prog:yaj)(w:yak)(x:Str)(t:Tok):(bN prog w).is (.inr x) (.str x t)=true:=Cg x t
inductive V where
 |bD|bl (b:Bool)|int (i:Int)|str (x:Str)|wW (b:Array UInt8)|Od (b:UInt64)|ref (a:Addr)|ty (n:String)
 deriving DecidableEq
def RelV:V->yai->Prop
 |.bD,u=>u=Value.none
 |.bl b,u=>u=Value.bool b
 |.int i,u=>∃t,u=Value.int i t
 |.str x,u=>∃t,u=Value.str x t
 |.wW b,u=>∃t,u=Value.bytes b t
 |.Od b,u=>∃t,u=Value.float b t
 |.ref a,u=>u=Value.ref a
 |.ty n,u=>u=Value.type n
abbrev Vals:List V->List yai->Prop:=Paired RelV
theorem Vals.length{a:List V}{us:List yai}(r:Vals a us):a.length=us.length:=Paired.length r
theorem Vals.get:∀{a:List V}{us:List yai}{i:Nat}{x:V},Vals a us->a[i]? =some x->∃u,us[i]? =some u/\RelV x u
 |_,_,_,_,.nil,e=>by simp at e
 |_,_,0,_,.cons r _,e=>by simp at e;subst e;exact⟨_,rfl,r⟩
 |_,_,i+1,x,.cons _ t,e=>by
  obtain⟨u,h1,h2⟩:=Vals.get (i:=i) (x:=x) t (by simpa using e);exact⟨u,by simpa using h1,h2⟩
theorem Vals.append:∀{i a:List V}{us ws:List yai},Vals i us->Vals a ws->Vals (i++a) (us++ws):=by
 intro i a us ws h g
 induction h with
 |nil=>exact g
 |cons r t ih=>exact .cons r ih
theorem Vals.take:∀{a:List V}{us:List yai}(n:Nat),Vals a us->Vals (a.take n) (us.take n)
 |_,_,0,_=>.nil
 |_,_,_+1,.nil=>.nil
 |_,_,n+1,.cons r t=>.cons r (Vals.take n t)
theorem Vals.drop:∀{a:List V}{us:List yai}(n:Nat),Vals a us->Vals (a.drop n) (us.drop n)
 |_,_,0,r=>r
 |_,_,_+1,.nil=>.nil
 |_,_,n+1,.cons _ t=>Vals.drop n t
def jg:Option V->Option yai->Prop
 |some v,some u=>RelV v u
 |none,none=>True
 |_,_=>False
def KV{κ:Type}:List (κ×V)->List (κ×yai)->Prop:=Paired λ(p:κ×V)(q:κ×yai)=>p.1=q.1/\RelV p.2 q.2
noncomputable def kV:Key->V
 |.inl i=>.int i
 |.inr x=>.str x
inductive HO where
 |lst (xs:List V)
 |tup (xs:List V)
 |dK (kvs:List (Key×V))|dT (kvs:List (List Key×V))
 |set (S:Int->Bool) (n:Nat)
 |ins (C dx:Addr) (fs:List (Str×V))
 |own (x:Addr)
 |xd (fs:List (Str×V))
 |met (f x:Addr)
 |SM (lo hi:Int)
 |AJ (o:Obj) (u:HO)
 |LV (ps:Array yai)
 |ext (φ:Heap->Prop)
abbrev Hp:=Addr->Option HO
noncomputable def upd(H:Hp)(a:Addr)(o:HO):Hp:=λb=>if b=a then some o else H b
theorem bG{H:Hp}{a:Addr}{o:HO}:upd H a o a=some o:=by unfold upd;rw[yIp rfl]
theorem aP{H:Hp}{a b:Addr}{o:HO}(h:b≠a):upd H a o b=H b:=by unfold upd;rw[yIn h]
theorem QX{H:Hp}{a b:Addr}{o u:HO}(h:H a=some o)(h':H b=some u)(d:o≠u):a≠b:=by
 intro e;subst e;rw[h] at h';exact d (zcN.inj h')
theorem bF{H:Hp}{a b:Addr}{o:HO}(h:H a=some o)(h':H b=none):a≠b:=by
 intro e;subst e;rw[h] at h';cases h'
section
variable (P:yaj)(w:yak)
def bg(H:Hp)(h:Heap)(a:Addr):HO->Prop
 |.lst j=>j.length<=yag/\∃(i:List yai)(n:Nat),Vals j i/\h.get? a=some {cls:=.type "list",data:=.seq i.toArray n}
 |.tup j=>j.length<=yag/\∃i:List yai,Vals j i/\IsTup h a i.toArray
 |.dK kvs=>kvs.length<=yag/\(a==yas)=false/\∃vs,KV kvs vs/\h.DictOf (bN P w) a vs
 |.dT kvs=>kvs.length<=yag/\(a==yas)=false/\∃j:List (List Key×Addr×yai),
   Paired (λ(p:List Key×V)(q:List Key×Addr×yai)=>p.1=q.1/\H q.2.1=some (.tup (p.1.map kV))/\RelV p.2 q.2.2) kvs j/\
   ∃o l m,h.get? a=some o/\o.ExactDict/\o.data=.dict l m/\l.toList=j.map (entryOfKey (tupleKind (bN P w)))/\(j.map (·.1)).Nodup
 |.set S n=>h.SetOf (intKind P w) a S n
 |.ins C dx fs=>H dx=some (.own a)/\fs.length<=1000/\dx≠a/\h.get? a=some (zbZ C dx)/\
   ∃mA,h.Ns1 dx mA/\(∀f,jg (fs.lookup f) (mA f))/\PySem.Within mA (fs.map (·.1))
 |.own _=>∃o,h.get? a=some o
 |.xd fs=>∃mA,h.Ns1 a mA/\∀f,jg (fs.lookup f) (mA f)
 |.SM lo hi=>∃t u v,h.get? a=some {cls:=.type "range",data:=.fields #[.int lo t,.int hi u,.int 1 v]}
 |.AJ o u=>h.get? a=some o/\bg H h a u
 |.LV ps=>h.get? a=some {cls:=.none,data:=.fields ps}
 |.met f x=>h.get? a=some (PySem.W.methodObj (.ref f) (.ref x))
 |.ext φ=>φ h/\(∃o,h.get? a=some o)/\∀h1 h2:Heap,φ h1->(∀o,h1.get? a=some o->h2.get? a=some o)->φ h2
def ji(H:Hp)(h:Heap):Prop:=∀a o,H a=some o->bg P w H h a o
end
section
variable {P:yaj}{w:yak}{H H':Hp}{h h':Heap}{a:Addr}{o:HO}
theorem bg.lt(x:bg P w H h a o):a<h.objs.size:=by
 cases o with
 |lst xs=>obtain⟨_,_,_,_,e⟩:=x;exact zcH e
 |tup xs=>obtain⟨_,_,_,p⟩:=x;exact p.lt
 |dK kvs=>obtain⟨_,_,_,_,o,_,_,e,_⟩:=x;exact zcH e
 |dT kvs=>obtain⟨_,_,_,_,o,_,_,e,_⟩:=x;exact zcH e
 |set S n=>obtain⟨o,_,_,_,e,_⟩:=x;exact zcH e
 |ins C dx fs=>obtain⟨_,_,_,e,_⟩:=x;exact zcH e
 |own y=>obtain⟨_,e⟩:=x;exact zcH e
 |xd fs=>obtain⟨_,⟨_,_,_,e,_⟩,_⟩:=x;exact zcH e
 |SM lo hi=>obtain⟨_,_,_,e⟩:=x;exact zcH e
 |AJ ob u=>obtain⟨e,_⟩:=x;exact zcH e
 |LV ps=>exact zcH (show h.get? a=some _ from x)
 |met f y=>exact zcH (show h.get? a=some _ from x)
 |ext φ=>obtain⟨_,⟨_,e⟩,_⟩:=x;exact zcH e
theorem Paired.QZ{α l:Type}{F G:α->l->Prop}:∀{j:List α}{i:List l},Paired F j i->(∀a b,F a b->G a b)->Paired G j i:=by
 intro a b h f
 induction h with
 |nil=>exact .nil
 |cons r t ih=>exact .cons (f _ _ r) ih
theorem bg.stay(x:bg P w H h a o)(k:∀b u,(b=a∨H b=some (.own a))->h.get? b=some u->h'.get? b=some u)(I:∀b,H b=some (.own a)->H' b=some (.own a))(G:∀b s,H b=some (.tup s)->H' b=some (.tup s)):bg P w H' h' a o:=by
 induction o with
 |lst s=>obtain⟨z,m,n,r,e⟩:=x;exact⟨z,m,n,r,k _ _ (.inl rfl) e⟩
 |tup s=>obtain⟨z,m,r,i,e,c⟩:=x;exact⟨z,m,r,i,k _ _ (.inl rfl) e,c⟩
 |dK kvs=>obtain⟨z,y,vs,r,i,j,l,e,c⟩:=x;exact⟨z,y,vs,r,i,j,l,k _ _ (.inl rfl) e,c⟩
 |dT kvs=>
  obtain⟨z,y,s,r,i,j,l,e,c⟩:=x;exact⟨z,y,s,Paired.QZ r λp q z=>⟨z.1,G _ _ z.2.1,z.2.2⟩,i,j,l,k _ _ (.inl rfl) e,c⟩
 |set S n=>obtain⟨i,j,l,t,e,c⟩:=x;exact⟨i,j,l,t,k _ _ (.inl rfl) e,c⟩
 |ins C dx fs=>
  obtain⟨d,z,ne,e,mA,⟨E,j,l,L,c⟩,r⟩:=x;exact⟨I _ d,z,ne,k _ _ (.inl rfl) e,mA,⟨E,j,l,k _ _ (.inr d) L,c⟩,r⟩
 |own y=>obtain⟨i,e⟩:=x;exact⟨i,k _ _ (.inl rfl) e⟩
 |xd fs=>obtain⟨mA,⟨E,j,l,e,c⟩,r⟩:=x;exact⟨mA,⟨E,j,l,k _ _ (.inl rfl) e,c⟩,r⟩
 |SM lo hi=>obtain⟨t,u,v,e⟩:=x;exact⟨t,u,v,k _ _ (.inl rfl) e⟩
 |AJ i u ih=>obtain⟨e,q⟩:=x;exact⟨k _ _ (.inl rfl) e,ih q⟩
 |LV ps=>
  have e:h.get? a=some {cls:=.none,data:=.fields ps}:=x;show h'.get? a=some {cls:=.none,data:=.fields ps};exact k a _ (.inl rfl) e
 |met f y=>
  have e:h.get? a=some (PySem.W.methodObj (.ref f) (.ref y)):=x;show h'.get? a=some (PySem.W.methodObj (.ref f) (.ref y));exact k a _ (.inl rfl) e
 |ext φ=>obtain⟨p,⟨o,e⟩,F⟩:=x;exact⟨F _ _ p λo q=>k _ _ (.inl rfl) q,⟨o,k _ _ (.inl rfl) e⟩,F⟩
theorem ji.lt(x:ji P w H h)(e:H a=some o):a<h.objs.size:=(x a o e).lt
theorem ji.fresh(x:ji P w H h)(e:h.objs.size<=a):H a=none:=by
 cases q:H a with
 |none=>rfl
 |some u=>exact absurd (zaR (x.lt q) e) (zcn _)
theorem ji.kept(x:ji P w H h)(k:∀b u,h.get? b=some u->h'.get? b=some u):ji P w H h':=λa o e=>
 (x a o e).stay (λb u _ q=>k b u q) (λ_ q=>q) λ_ _ q=>q
theorem ji.laid(x:ji P w H h)(k:∀b u,h.get? b=some u->h'.get? b=some u)(l:h.objs.size<=a)(new:bg P w (upd H a o) h' a o):ji P w (upd H a o) h':=λb u e=>by
 have i:=x.fresh l;by_cases j:b=a
 ·subst j;rw[bG] at e;cases e;exact new
 ·rw[aP j] at e;exact(x b u e).stay (λc v _ q=>k c v q) (λc q=>by rw[aP (bF q i)];exact q) λc m q=>by rw[aP (bF q i)];exact q
end
def Rd(H:Hp)(a:Addr)(u:HO):Prop:=H a=some u∨∃o,H a=some (.AJ o u)
theorem Rd.ok{P:yaj}{w:yak}{H:Hp}{h:Heap}{a:Addr}{u:HO}(r:Rd H a u)(x:ji P w H h):bg P w H h a u:=by
 rcases r with r|⟨o,r⟩
 ·exact x a u r
 ·obtain⟨_,q⟩:=x a _ r;exact q
def RX:Option HO->Prop
 |some (.lst _)=>True
 |some (.dK _)=>True
 |some (.dT _)=>True
 |some (.set _ _)=>True
 |some (.ins _ _ _)=>True
 |some (.ext _)=>True
 |_=>False
section
variable {P:yaj}{w:yak}{H:Hp}{h h':Heap}{x e:Addr}{o':HO}
theorem ji.write(ok:ji P w H h)(j:RX (H x))(s:e=x∨H e=some (.own x))(k:∀b u,b≠e->h.get? b=some u->h'.get? b=some u)(n:∃u,h'.get? e=some u)(new:bg P w (upd H x o') h' x o'):ji P w (upd H x o') h':=λb u q=>by
 have t:∀c y,H c=some (.own y)->c≠x:=λc y r z=>by subst z;rw[r] at j;exact j
 have E:∀c i,H c=some (.tup i)->c≠x:=λc i r z=>by subst z;rw[r] at j;exact j
 by_cases m:b=x
 ·subst m;rw[bG] at q;cases q;exact new
 ·rw[aP m] at q;by_cases a:b=e
  ·have o:H b=some (.own x):=by
    rcases s with z|z
    ·exact absurd (a.trans z) m
    ·rw[a];exact z
   rw[q] at o;cases o;obtain⟨v,C⟩:=n;exact⟨v,by rw[a];exact C⟩
  ·refine(ok b u q).stay (λc v l r=>k c v ?_ r) (λc r=>by rw[aP (t c b r)];exact r) λc i r=>by rw[aP (E c i r)];exact r
   rcases l with rfl|l
   ·exact a
   ·rintro rfl;rcases s with z|z
    ·exact t c b l z
    ·rw[l] at z;cases z;exact m rfl
end
structure Un(fs ex:List Addr)(H H':Hp)(h h':Heap):Prop where
 keep:∀b o,h.get? b=some o->H b=none->b ∉ fs->b ∉ ex->h'.get? b=some o
 slot:∀b o,h.get? b=some o->H b=none->b∈fs->b ∉ ex->∃sl,h'.get? b=some {o with slots:=sl}
 free:∀b o,h.get? b=some o->H b=none->b ∉ ex->H' b=none
 there:∀b o,h.get? b=some o->b ∉ ex->∃o',h'.get? b=some o'
 tups:∀b xs,H b=some (.tup xs)->H' b=some (.tup xs)
 p7:∀b o u,H b=some (.AJ o u)->H' b=some (.AJ o u)
 rO:∀b ps,H b=some (.LV ps)->∃more,H' b=some (.LV (ps++more))
section
variable {fs fs' ex ex':List Addr}{H H1 H2:Hp}{h h1 h2 h':Heap}{a x e:Addr}{o:HO}
theorem Un.any(u:Un fs ex H H1 h h1){b:Addr}{ob:Obj}(q:h.get? b=some ob)(n:H b=none)(i:b ∉ ex):∃sl,h1.get? b=some {ob with slots:=sl}:=by
 by_cases j:b∈fs
 ·exact u.slot b ob q n j i
 ·exact⟨ob.slots,u.keep b ob q n j i⟩
theorem Un.kept(k:∀b u,h.get? b=some u->h'.get? b=some u):Un fs ex H H h h':=
 ⟨λb i q _ _ _=>k b i q,λb i q _ _ _=>⟨i.slots,k b i q⟩,λ_ _ _ n _=>n,λb i q _=>⟨i,k b i q⟩,λ_ _ q=>q,λ_ _ _ q=>q,λ_ j q=>⟨#[],by rw[q];simp⟩⟩
theorem Un.refl:Un fs ex H H h h:=Un.kept λ_ _ q=>q
theorem Un.laid(k:∀b u,h.get? b=some u->h'.get? b=some u)(l:h.objs.size<=a)(i:H a=none):Un fs ex H (upd H a o) h h' where
 keep:=λb u q _ _ _=>k b u q
 slot:=λb u q _ _ _=>⟨u.slots,k b u q⟩
 free:=λb u q n _=>by rw[aP (zcx (zaR (zcH q) l))];exact n
 there:=λb u q _=>⟨u,k b u q⟩
 tups:=λb j q=>by rw[aP (bF q i)];exact q
 p7:=λb u j q=>by rw[aP (bF q i)];exact q
 rO:=λb m q=>⟨#[],by rw[aP (bF q i),q];simp⟩
theorem Un.write(j:RX (H x))(y:e=x∨H e=some (.own x))(k:∀b u,b≠e->h.get? b=some u->h'.get? b=some u)(m:∃u,h'.get? e=some u):Un fs ex H (upd H x o) h h':=by
 have s:∀b,H b=none->b≠x:=λb n z=>by subst z;rw[n] at j;exact j
 have t:∀b,H b=none->b≠e:=λb n z=>by
  subst z;rcases y with r|r
  ·exact s b n r
  ·rw[n] at r;cases r
 have l:∀b u,H b=some u->¬RX (some u)->b≠x:=λb u q nm z=>by subst z;rw[q] at j;exact nm j
 refine⟨λb u q n _ _=>k b u (t b n) q,λb u q n _ _=>⟨u.slots,k b u (t b n) q⟩,λb u q n _=>by rw[aP (s b n)];exact n,λb u q _=>?_,
  λb v q=>by rw[aP (l b _ q λz=>z)];exact q,λb u v q=>by rw[aP (l b _ q λz=>z)];exact q,λb C q=>⟨#[],by rw[aP (l b _ q λz=>z),q];simp⟩⟩
 by_cases i:b=e
 ·subst i;exact m
 ·exact⟨u,k b u i q⟩
end
noncomputable def Sb(h:Heap)(H:Hp):List Addr:=(zcO h.objs.size).filter λa=>(H a).isSome
noncomputable def s9(h:Heap)(H:Hp):Heap:=PySem.W.hideAll h (Sb h H)
theorem Co(h:Heap)(H:Hp):(s9 h H).objs.size=h.objs.size:=PySem.W.hideAll_size _ _
theorem FD{h:Heap}{H:Hp}{b:Addr}{o:Obj}(e:h.get? b=some o)(n:H b=none):(s9 h H).get? b=some o:=
 PySem.W.hideAll_get _ e λa=>by
  have q:(H b).isSome=true:=(zbI.mp a).2;rw[n] at q;simp at q
theorem IV{h:Heap}{H:Hp}{b:Addr}{o:Obj}(e:(s9 h H).get? b=some o):h.get? b=some o/\H b=none:=by
 have a:h.get? b=some o:=PySem.W.of_hideAll (Sb h H) e;refine⟨a,?_⟩;cases q:H b with
 |none=>rfl
 |some x=>
  have i:b∈Sb h H:=zbI.mpr ⟨zcb.mpr (zcH a),by simp[q]⟩;have z:(s9 h H).get? b=none:=PySem.W.hideAll_none (Sb h H) i;rw[z] at e;cases e
noncomputable def Ka(g h:Heap)(L:Addr):List (Addr×Obj):=(zcO h.objs.size).filterMap λa=>if a=L∨(g.get? a).isSome=true then none else(h.get? a).map λo=>(a,o)
noncomputable def rest(g h:Heap)(L d:Addr):List (Addr×Obj):=(Ka g h L).filter λp=>decide (p.1≠d)
structure Mod(K:yaI)(mg:Str->Option yai)(base:Heap):Prop where
 Sh:K.In base
 glob:base.Ns yaq mg
 blt:∃mb,base.Ns builtinsNs mb/\∀x:Str,x≠"__name__"->mb x=bootBuiltins x
 nolimit:base.NoLimit
structure Cx where
 prog:yaj
 w:yak
 K:yaI
 mg:Str->Option yai
 base:Heap
 A:yal
 N:List Str
 s₀:yah
 H₀:Hp
 env:Env
 outer:List Env
 stack:List Env
 ex:List Addr
 fn:Str->Bool
 calm:Bool
 pn:List (Addr×Obj)
 xe:yai->yah->Prop
end L2
variable {P prog:yaj}{w:yak}{K:yaI}{mg:PySem.Str->Option yai}{base:PySem.Heap}{C fi:PySem.Addr}{X:L2.Cx}{A:yal}{E:yai->yah->Prop}{pins:List (PySem.Addr×PySem.Obj)}{σ:List (Option L2.V)}{s:yah}{H:L2.Hp}{Q:yai->yah->Prop}{XP:(PySem.Str->Option yai)->PySem.Heap->Prop}{es:Array (Int×yai)}{osl sl:Array (Option yai)}{its:Array yai}{G:Array yaw->Array yaw->Prop}{b neg:Bool}{H':L2.Hp}{v y:L2.V}{kvs:List (List L2.Key×L2.V)}{caps:List (Option Nat)}{ts:List (PySem.Str×PySem.Str×PySem.Str)}{kw:List (PySem.Str×yai)}{ks B:List (yam×PySem.Addr)}{xs:List L2.V}{ys:List Nat}{ch fp:List PySem.Addr}{os:List PySem.Obj}{N ps loose ss ms:List PySem.Str}{us:List yai}{t' i j n m ep L:Nat}{a f l I:PySem.Addr}{env:PySem.Env}{h h':PySem.Heap}{o:PySem.Obj}{scope:PySem.Scope}{t:PySem.SetTable}{x name qual:PySem.Str}{u:yai}{YP:yak->PySem.Heap->Prop}{fd:yap}{ifs:List PySem.Expr}{body:List PySem.Stmt}{e c tg iter value:PySem.Expr}{st:PySem.Stmt}{p pos pos' apos p2 pos2:PySem.Pos}
namespace L2
open PySem PySem.Spec PyProof.Rows
noncomputable def frs(l:List Env):List Addr:=l.filterMap (·.frame)
noncomputable abbrev Cx.fs(X:Cx):List Addr:=frs X.outer
def Sk(a:Scope)(x:Str):Prop:=a.names.lookup x=some .local∨a.names.lookup x=some .cell∨a.names.lookup x=some .free
def Loc(a:Scope)(x:Str):Prop:=a.names.lookup x=some .local∨a.names.lookup x=some .cell
def Look(env:Env)(h:Heap)(m:Str->Option yai)(x:Str)(u:yai):Prop:=
 (env.kindOf x=some .local/\m x=some u)∨((env.kindOf x=some .cell∨env.kindOf x=some .free)/\∃c,env.cells.lookup x=some c/\h.IsCell c (some u))
structure Cx.Ok(X:Cx):Prop where
 mod:Mod X.K X.mg X.base
 kind:X.env.scope.kind=.function
 glob:X.env.globals=yaq
 blt:X.env.builtins=builtinsNs
 above:X.s₀.heap.objs.size<=X.env.locals
 inj:∀x y c,X.env.cells.lookup x=some c->X.env.cells.lookup y=some c->x=y
 has:∀x,(X.env.kindOf x=some .cell∨X.env.kindOf x=some .free)->∃c,X.env.cells.lookup x=some c
 RH:∀x c,X.fn x=true->X.env.cells.lookup x=some c->X.s₀.heap.objs.size<=c
 hd:X.calm=true->X.A.handled=none
 frames:X.A.frames=some X.stack
 stk:X.stack=X.outer∨(X.stack=X.env::X.outer/\X.env.frame=some X.env.locals)
 Tq:∀b∈X.ex,b≠X.env.locals/\∀x c,X.env.cells.lookup x=some c->c≠b
 bs:∀b o,X.base.get? b=some o->X.s₀.heap.get? b=some o/\X.H₀ b=none
 J3:X.base.objs.size<=X.s₀.heap.objs.size
 E8:∀b o,X.base.get? b=some o->b ∉ X.ex
 JD:∀b∈X.ex,b ∉ X.fs
 mR:X.s₀.heap.FunFrames X.base X.outer
 Oc:∀b∈X.fs,X.H₀ b=none
structure Inv(X:Cx)(pins:List (Addr×Obj))(σ:List (Option V))(H:Hp)(s:yah):Prop where
 ok:X.Ok
 os:s.os=X.s₀.os
 bare:AllBare s.gens
 base:Un X.fs X.ex X.H₀ H X.s₀.heap s.heap
 loc:∃m,s.heap.Ns X.env.locals m/\∀(i:Nat)(x:Str)(v:V),X.N[i]? =some x->σ[i]? =some (some v)->Sk X.env.scope x->∃u,RelV v u/\Look X.env s.heap m x u
 cell:∀x c,X.env.cells.lookup x=some c->∃v,s.heap.IsCell c v
 free:H X.env.locals=none
 gE:∀x c,X.env.cells.lookup x=some c->H c=none
 pin:∀p∈X.pn++pins,s.heap.get? p.1=some p.2/\H p.1=none/\p.1≠X.env.locals/\p.1 ∉ X.fs/\∀v,p.2.data≠ .cell v
 hok:ji X.prog X.w H s.heap
 len:σ.length=X.N.length
theorem Cx.Ok.Te(ok:X.Ok){b:Addr}(e:X.base.get? b=some o):b ∉ X.fs:=λa=>by
 have:=(ok.mR.mem a).1;rw[e] at this;cases this
theorem Inv.bs(I:Inv X pins σ H s):∀b o,X.base.get? b=some o->s.heap.get? b=some o/\H b=none:=λb o e=>
 ⟨I.base.keep b o (I.ok.bs b o e).1 (I.ok.bs b o e).2 (I.ok.Te e) (I.ok.E8 b o e),I.base.free b o (I.ok.bs b o e).1 (I.ok.bs b o e).2 (I.ok.E8 b o e)⟩
theorem Inv.bk(I:Inv X pins σ H s):∀b o,X.base.get? b=some o->s.heap.get? b=some o:=λb o e=>(I.bs b o e).1
theorem Inv.mod(I:Inv X pins σ H s):Mod X.K X.mg X.base:=I.ok.mod
theorem Inv.mq(I:Inv X pins σ H s):X.K.In s.heap:=I.ok.mod.Sh.keeps I.bk
theorem Inv.lt(I:Inv X pins σ H s):X.env.locals<s.heap.objs.size:=by obtain⟨_,a,_⟩:=I.loc;exact a.lt
theorem Inv.sz(I:Inv X pins σ H s):X.s₀.heap.objs.size<=s.heap.objs.size:=zcy I.ok.above (zcz I.lt)
theorem Inv.QW(I:Inv X pins σ H s)(h:s.heap.objs.size<=a):a ∉ X.fs:=λj=>by
 obtain⟨_,o,i,_⟩:=I.ok.mR.mem j;exact absurd (zaR (zcH i) (zcy I.sz h)) (zcn _)
theorem Inv.ON(I:Inv X pins σ H s):∀x c,X.env.cells.lookup x=some c->c≠X.env.locals:=λx c e z=>by
 obtain⟨v,o,i,hd⟩:=I.cell x c e;obtain⟨m,⟨j,l,n,a,h,_⟩,_⟩:=I.loc;rw[z,a] at i;cases i;rw[h] at hd;cases hd
theorem Inv.mR(I:Inv X pins σ H s):s.heap.FunFrames X.base X.outer:=by
 have all:∀(l:List Env),(∀b∈frs l,b∈X.fs)->X.s₀.heap.FunFrames X.base l->s.heap.FunFrames X.base l:=by
  intro l
  induction l with
  |nil=>intro _ _;trivial
  |cons env r ih=>
   intro j t;obtain⟨u,⟨L,o,a,q,n,hd⟩,m⟩:=t;have i:L∈X.fs:=j L (by unfold frs;rw[zaD,a];exact zaL);obtain⟨v,e⟩:=I.base.slot L o n (I.ok.Oc L i) i λz=>I.ok.JD L z i;exact⟨u,⟨L,_,a,q,e,hd⟩,ih (λb h=>j b (by unfold frs;rw[zaD,a];exact zay _ h)) m⟩
 exact all X.outer (λ_ h=>h) I.ok.mR
theorem Inv.stack(I:Inv X pins σ H s):s.heap.FunFrames X.base X.stack:=by
 rcases I.ok.stk with e|⟨e,h⟩
 ·rw[e];exact I.mR
 ·rw[e];obtain⟨m,a,_⟩:=I.loc;refine .cons (by rw[I.ok.kind];decide) h a ?_ I.mR;exact Heap.get?_none_of_le (zcy I.ok.J3 I.ok.above)
theorem Inv.nQ(I:Inv X pins σ H s):∀b∈frs X.stack,b∈X.env.locals::X.fs:=λb a=>by
 rcases I.ok.stk with e|⟨e,h⟩
 ·rw[e] at a;exact zay _ a
 ·rw[e] at a;unfold frs at a;rw[zaD,h] at a;exact a
theorem Inv.zA(I:Inv X pins σ H s):∀b∈frs X.stack,H b=none:=λb a=>by
 rcases zci.mp (I.nQ b a) with e|a
 ·rw[e];exact I.free
 ·obtain⟨_,o,h,_⟩:=I.ok.mR.mem a;exact I.base.free b o h (I.ok.Oc b a) λz=>I.ok.JD b z a
theorem Inv.step{g':Array yaw}{d':Drawn}(I:Inv X pins σ H s)(j:∀b∈ch,(b∈X.ex∨X.s₀.heap.objs.size<=b)/\b≠X.env.locals/\(∀x c,X.env.cells.lookup x=some c->c≠b)/\∀p∈X.pn++pins,p.1≠b)(keep:∀b o,b≠X.env.locals->b ∉ X.fs->b ∉ ch->s.heap.get? b=some o->H b=none->h'.get? b=some o)(slot:∀b o,b≠X.env.locals->b∈X.fs->b ∉ ch->s.heap.get? b=some o->H b=none->∃sl,h'.get? b=some {o with slots:=sl})(free:∀b o,b ∉ ch->s.heap.get? b=some o->H b=none->H' b=none)(there:∀b o,b ∉ ch->s.heap.get? b=some o->∃o',h'.get? b=some o')(tups:∀b E,H b=some (.tup E)->H' b=some (.tup E))(p7:∀b o u,H b=some (.AJ o u)->H' b=some (.AJ o u))(rO:∀b ps,H b=some (.LV ps)->∃more,H' b=some (.LV (ps++more)))(ns:∀m,s.heap.Ns X.env.locals m->h'.Ns X.env.locals m)(hok:ji X.prog X.w H' h')(Y:AllBare g'):
  Inv X pins σ H' {s with heap:=h',gens:=g',drawn:=d',toks:=t'}:=by
 have L:∀b o,X.s₀.heap.get? b=some o->b≠X.env.locals:=λb o e=>zcx (zaR (zcH e) I.ok.above);have y:∀b o,X.s₀.heap.get? b=some o->b ∉ X.ex->b ∉ ch:=λb o e a F=>by
  rcases(j b F).1 with z|z
  ·exact a z
  ·exact absurd (zaR (zcH e) z) (zcn _)
 have t:∀x c,X.env.cells.lookup x=some c->∀v,s.heap.IsCell c v->h'.IsCell c v:=λx c e v ⟨o,G,hd⟩=>by
  have h:c ∉ ch:=λz=>(j c z).2.2.1 x c e rfl;by_cases S:c∈X.fs
  ·obtain⟨sl,q⟩:=slot c o (I.ON x c e) S h G (I.gE x c e);exact⟨_,q,hd⟩
  ·exact⟨o,keep c o (I.ON x c e) S h G (I.gE x c e),hd⟩
 refine⟨I.ok,I.os,Y,⟨λb o e n F a=>?_,λb o e n F a=>?_,λb o e n a=>?_,λb o e a=>?_,λb E e=>tups b E (I.base.tups b E e),λb o E e=>p7 b o E (I.base.p7 b o E e),λb ps e=>?_⟩,?_,λx c e=>?_,?_,λx c e=>?_,λp Q=>?_,hok,I.len⟩
 ·exact keep b o (L b o e) F (y b o e a) (I.base.keep b o e n F a) (I.base.free b o e n a)
 ·obtain⟨sl,C⟩:=I.base.slot b o e n F a;obtain⟨P,O⟩:=slot b _ (L b o e) F (y b o e a) C (I.base.free b o e n a);exact⟨P,O⟩
 ·obtain⟨o',C⟩:=I.base.there b o e a;exact free b o' (y b o e a) C (I.base.free b o e n a)
 ·obtain⟨o',C⟩:=I.base.there b o e a;exact there b o' (y b o e a) C
 ·obtain⟨m1,C⟩:=I.base.rO b ps e;obtain⟨m2,O⟩:=rO b _ C;exact⟨m1++m2,by rw[O,Array.append_assoc]⟩
 ·obtain⟨m,U,W⟩:=I.loc;refine⟨m,ns m U,λi x v C O Z=>?_⟩;obtain⟨u,r,l⟩:=W i x v C O Z;refine⟨u,r,?_⟩;rcases l with l|⟨k,c,e,z⟩
  ·exact .inl l
  ·exact .inr ⟨k,c,e,t x c e _ z⟩
 ·obtain⟨v,z⟩:=I.cell x c e;exact⟨v,t x c e v z⟩
 ·obtain⟨m,⟨o,_,_,G,_⟩,_⟩:=I.loc;exact free _ o (λz=>(j _ z).2.1 rfl) G I.free
 ·obtain⟨v,o,G,hd⟩:=I.cell x c e;exact free c o (λz=>(j c z).2.2.1 x c e rfl) G (I.gE x c e)
 ·obtain⟨e,n,ne,nf,d⟩:=I.pin p Q;have h:p.1 ∉ ch:=λz=>(j p.1 z).2.2.2 p Q rfl;exact⟨keep p.1 p.2 ne nf h e n,free p.1 p.2 h e n,ne,nf,d⟩
theorem Inv.un(I:Inv X pins σ H s)(u:Un X.fs [] H H' s.heap h')(hok:ji X.prog X.w H' h'):Inv X pins σ H' {s with heap:=h',toks:=t'}:=by
 obtain⟨m,⟨o,E,F,l,r⟩,_⟩:=id I.loc;obtain⟨x,v⟩:=u.any l I.free (by simp);exact I.step (g':=s.gens) (d':=s.drawn) (ch:=[]) (λ_ z=>nomatch z) (λb o _ h _ e n=>u.keep b o e n h (by simp)) (λb o _ h _ e n=>u.slot b o e n h (by simp)) (λb o _ e n=>u.free b o e n (by simp)) (λb o _ e=>u.there b o e (by simp)) u.tups u.p7 u.rO (λC t=>by
  obtain⟨y,i,j,a,q⟩:=t;rw[l] at a;cases a;exact⟨_,i,j,v,q⟩) hok I.bare
theorem Inv.call{g':Array yaw}{d':Drawn}(I:Inv X pins σ H s)(u:Un (frs X.stack) ch H H' s.heap h')(hok:ji X.prog X.w H' h')(C:AllBare g')(i:∀b∈ch,(b∈X.ex∨X.s₀.heap.objs.size<=b)/\b≠X.env.locals/\(∀x c,X.env.cells.lookup x=some c->c≠b)/\∀p∈X.pn++pins,p.1≠b):
  Inv X pins σ H' {s with heap:=h',gens:=g',drawn:=d',toks:=t'}:=by
 obtain⟨m,⟨o,O,P,t,r⟩,_⟩:=id I.loc;obtain⟨F,j⟩:=u.any t I.free λz=>(i _ z).2.1 rfl;exact I.step (ch:=ch) i (λb o j E a e n=>u.keep b o e n (λz=>(zci.mp (I.nQ b z)).elim j E) a) (λb o _ _ a e n=>u.any e n a) (λb o a e n=>u.free b o e n a) (λb o a e=>u.there b o e a) u.tups u.p7 u.rO (λL y=>by
  obtain⟨G,l,q,h,v⟩:=y;rw[t] at h;cases h;exact⟨_,l,q,j,v⟩) hok C
theorem Inv.turned{it:Addr}(I:Inv X pins σ H s)(k:∀b o,b≠it->s.heap.get? b=some o->h'.get? b=some o)(l:H it=none)(i:it≠X.env.locals)(h1:it∈X.ex∨X.s₀.heap.objs.size<=it)(h2:∀x c,X.env.cells.lookup x=some c->c≠it)(C:∀p∈X.pn++pins,p.1≠it):Inv X pins σ H {s with heap:=h',toks:=t'}:=by
 have h:∀b u,H b=some u->b≠it:=λb u e z=>by rw[z,l] at e;cases e
 refine I.step (g':=s.gens) (d':=s.drawn) (ch:=[it]) (λb y=>?_) (λb o _ _ a e _=>k b o (λz=>a (by simp[z])) e) (λb o _ _ a e _=>⟨o.slots,k b o (λz=>a (by simp[z])) e⟩) (λ_ _ _ _ n=>n)
  (λb o a e=>⟨o,k b o (λz=>a (by simp[z])) e⟩) (λ_ _ e=>e) (λ_ _ _ e=>e) (λb G e=>⟨#[],by rw[e];simp⟩) (λm t=>?_) (λb u e=>?_) I.bare
 ·have e:b=it:=by simpa using y
  subst e;exact⟨h1,i,h2,C⟩
 ·obtain⟨o,E,F,j,r⟩:=t;exact⟨o,E,F,k _ o (Ne.symm i) j,r⟩
 ·refine(I.hok b u e).stay (λc v a q=>k c v ?_ q) (λ_ q=>q) λ_ _ q=>q;rcases a with z|z
  ·rw[z];exact h b u e
  ·exact h c _ z
theorem Inv.tok(I:Inv X pins σ H s)(t:Nat):Inv X pins σ H {s with toks:=t}:=I.un (h':=s.heap) (t':=t) Un.refl I.hok
theorem Inv.kept(I:Inv X pins σ H s)(k:∀b u,s.heap.get? b=some u->h'.get? b=some u):Inv X pins σ H {s with heap:=h',toks:=t'}:=I.un (Un.kept k) (I.hok.kept k)
theorem Inv.laid{o:HO}(I:Inv X pins σ H s)(k:∀b u,s.heap.get? b=some u->h'.get? b=some u)(h:s.heap.objs.size<=a)(new:bg X.prog X.w (upd H a o) h' a o):
  Inv X pins σ (upd H a o) {s with heap:=h',toks:=t'}:=I.un (Un.laid k h (I.hok.fresh h)) (I.hok.laid k h new)
theorem Inv.write{x e:Addr}{o:HO}(I:Inv X pins σ H s)(h:RX (H x))(i:e=x∨H e=some (.own x))(k:∀b u,b≠e->s.heap.get? b=some u->h'.get? b=some u)(a:∃u,h'.get? e=some u)(new:bg X.prog X.w (upd H x o) h' x o):Inv X pins σ (upd H x o) {s with heap:=h',toks:=t'}:=I.un (Un.write h i k a) (I.hok.write h i k a new)
theorem Inv.jX{pins':List (Addr×Obj)}(I:Inv X pins σ H s)(h:∀p∈pins',s.heap.get? p.1=some p.2/\H p.1=none/\p.1≠X.env.locals/\p.1 ∉ X.fs/\∀v,p.2.data≠ .cell v):Inv X pins' σ H s:=
 ⟨I.ok,I.os,I.bare,I.base,I.loc,I.cell,I.free,I.gE,λp a=>(zbJ.mp a).elim (λz=>I.pin p (zaz _ z)) (h p),I.hok,I.len⟩
theorem vc(h:N.Nodup)(a:N[i]? =some x)(b:N[j]? =some x):i=j:=by
 obtain⟨h1,m⟩:=zad.mp a;obtain⟨h2,l⟩:=zad.mp b;exact(List.getElem_inj h).mp (m.trans l.symm)
theorem BH{M:Model}{Q:Unit->yah->Prop}(I:Inv X pins σ H s)(hN:X.N.Nodup)(hi:X.N[i]? =some x)(G:Loc X.env.scope x)(r:RelV v u)(h:∀s',Inv X pins (σ.set i (some v)) H s'->(∃a,Heap.SameBut a s.heap s'.heap/\(a=X.env.locals∨X.env.cells.lookup x=some a))->Q () s')(hf:X.fn x=true∨X.env.scope.names.lookup x=some .local:=by first|exact .inl rfl|exact .inr rfl|assumption):yar M A (storeName X.env x u) Q E s:=by
 obtain⟨m,hn,hl⟩:=id I.loc;have ac:(X.env.scope.kind== .class||(X.env.scope.kind== .module&&X.env.locals != X.env.globals))=false:=by rw[I.ok.kind];rfl
 have S:i<σ.length:=by rw[I.len];exact(zad.mp hi).1
 have ON:=I.ON;have t:∀{a:Addr}{Z:Heap},(∃o,s.heap.get? a=some o/\H a=none)->Heap.SameBut a s.heap Z->ji X.prog X.w H Z:=λ{a Z} ha l b ob e=>by
  obtain⟨_,_,L⟩:=ha;refine(I.hok b ob e).stay (λc w' F q=>(l.2 c ?_).trans q) (λ_ q=>q) λ_ _ q=>q;rintro rfl;rcases F with rfl|F
  ·rw[L] at e;cases e
  ·rw[L] at F;cases F
 rcases G with P|P
 ·refine wpAny_storeName_local P hn (λZ hn' l=>?_) ac;obtain⟨oL,_,_,hoL,_⟩:=id hn;refine h _ ⟨I.ok,I.os,I.bare,⟨λb o e n Y G=>?_,λb o e n Y G=>?_,I.base.free,λb o e G=>?_,I.base.tups,I.base.p7,I.base.rO⟩,⟨_,hn',λj y v' C O e3=>?_⟩,λy c e=>?_,I.free,I.gE,λp hp=>?_,t ⟨oL,hoL,I.free⟩ l,by simpa using I.len⟩ ⟨_,l,.inl rfl⟩
  ·exact(l.2 b (zcx (zaR (zcH e) I.ok.above))).trans (I.base.keep b o e n Y G)
  ·obtain⟨sl,C⟩:=I.base.slot b o e n Y G;exact⟨sl,(l.2 b (zcx (zaR (zcH e) I.ok.above))).trans C⟩
  ·obtain⟨o',C⟩:=I.base.there b o e G;exact⟨o',(l.2 b (zcx (zaR (zcH e) I.ok.above))).trans C⟩
  ·by_cases U:j=i
   ·subst U;rw[hi] at C;cases C;rw[List.getElem?_set_self S] at O;cases O;exact⟨u,r,.inl ⟨P,by simp⟩⟩
   ·rw[zaA (Ne.symm U)] at O;obtain⟨u',r',q⟩:=hl j y v' C O e3;refine⟨u',r',?_⟩;rcases q with⟨k,e⟩|⟨k,c,e,z⟩
    ·refine .inl ⟨k,?_⟩;have:y≠x:=λe=>U (vc hN C (e▸hi));simp[this,e]
    ·exact .inr ⟨k,c,e,z.sameBut l (ON y c e)⟩
  ·obtain⟨w',z⟩:=I.cell y c e;exact⟨w',z.sameBut l (ON y c e)⟩
  ·obtain⟨e,n,ne,nf,d⟩:=I.pin p hp;exact⟨(l.2 p.1 ne).trans e,n,ne,nf,d⟩
 ·have W:X.fn x=true:=by
   rcases hf with z|z
   ·exact z
   ·rw[z] at P;cases P
  obtain⟨c,F⟩:=I.ok.has x (.inl P);obtain⟨w',z⟩:=I.cell x c F;refine wpAny_storeName_cell I.ok.kind P F z (λZ hc' l=>?_);obtain⟨oc,hoc,ab⟩:=id z;refine h {s with heap:=Z} ⟨I.ok,I.os,I.bare,⟨λb o e n Y G=>?_,λb o e n Y G=>?_,I.base.free,λb o e G=>?_,I.base.tups,I.base.p7,I.base.rO⟩,⟨m,hn.sameBut l (Ne.symm (ON x c F)),λj y v' C O e3=>?_⟩,λy c' e=>?_,I.free,I.gE,λp hp=>?_,t ⟨oc,hoc,I.gE x c F⟩ l,by simpa using I.len⟩ ⟨c,l,.inr F⟩
  ·exact(l.2 b (zcx (zaR (zcH e) (I.ok.RH x c W F)))).trans (I.base.keep b o e n Y G)
  ·obtain⟨sl,C⟩:=I.base.slot b o e n Y G;exact⟨sl,(l.2 b (zcx (zaR (zcH e) (I.ok.RH x c W F)))).trans C⟩
  ·obtain⟨o',C⟩:=I.base.there b o e G;exact⟨o',(l.2 b (zcx (zaR (zcH e) (I.ok.RH x c W F)))).trans C⟩
  ·by_cases U:j=i
   ·subst U;rw[hi] at C;cases C;rw[List.getElem?_set_self S] at O;cases O;exact⟨u,r,.inr ⟨.inl P,c,F,hc'⟩⟩
   ·rw[zaA (Ne.symm U)] at O;obtain⟨u',r',q⟩:=hl j y v' C O e3;refine⟨u',r',?_⟩;rcases q with q|⟨k,c',e,z'⟩
    ·exact .inl q
    ·refine .inr ⟨k,c',e,z'.sameBut l ?_⟩;rintro rfl;exact U (vc hN C (I.ok.inj _ _ _ e F▸hi))
  ·by_cases hcc:c'=c
   ·subst hcc;exact⟨_,hc'⟩
   ·obtain⟨w2,z2⟩:=I.cell y c' e;exact⟨w2,z2.sameBut l hcc⟩
  ·obtain⟨e,n,ne,nf,d⟩:=I.pin p hp;refine⟨(l.2 p.1 ?_).trans e,n,ne,nf,d⟩;intro q;rw[q,hoc] at e;have q':oc=p.2:=zcN.inj e;exact d w' (by rw[<-q'];exact ab)
theorem jK{M:Model}{Q:Unit->yah->Prop}(I:Inv X pins σ H s)(l:X.N.Nodup)(hi:X.N[i]? =some x)(a:Loc X.env.scope x)(r:RelV v u)(h:∀s',Inv X pins (σ.set i (some v)) H s'->Q () s')(j:X.fn x=true∨X.env.scope.names.lookup x=some .local:=by first|exact .inl rfl|exact .inr rfl|assumption):yar M A (storeName X.env x u) Q E s:=
 BH I l hi a r (λs' m _=>h s' m) j
theorem Inv.RG{s':yah}(I:Inv X pins σ H s)(i:s'.os=s.os)(u:Un (frs X.stack) ch H H' s.heap s'.heap)(hok:ji X.prog X.w H' s'.heap)(j:AllBare s'.gens)(a:∀b∈ch,(b∈X.ex∨X.s₀.heap.objs.size<=b)/\b≠X.env.locals/\(∀x c,X.env.cells.lookup x=some c->c≠b)/\∀p∈X.pn++pins,p.1≠b):Inv X pins σ H' s':=by
 obtain⟨l,g',d',t',h⟩:=s';have e:h=s.os:=i;subst e;exact I.call (g':=g') (t':=t') (d':=d') u hok j a
abbrev XK:=yai->Option Addr->Hp->Prop
abbrev St:=List (Option V)
abbrev VK:=V->Hp->Prop
abbrev TE:=St->Hp->VK->Prop
abbrev TT:=St->Hp->(Bool->Hp->Prop)->Prop
abbrev TA:=St->Hp->(List V->Hp->Prop)->Prop
structure Ends where
 nx:St->Hp->Prop
 rt:VK
 bk:St->Hp->Prop:=λ_ _=>False
 ct:St->Hp->Prop:=λ_ _=>False
abbrev TS:=Ends->St->Hp->Prop
def EP(X:Cx)(a:List (Addr×Obj))(i:St)(Q:VK)(u:yai)(s':yah):Prop:=∃v h,Inv X a i h s'/\RelV v u/\Q v h
def TP(X:Cx)(a:List (Addr×Obj))(i:St)(Q:Bool->Hp->Prop)(b:Bool)(s':yah):Prop:=∃h,Inv X a i h s'/\Q b h
def AP(X:Cx)(a:List (Addr×Obj))(i:St)(Q:List V->Hp->Prop)(us:List yai)(s':yah):Prop:=∃vs h,Inv X a i h s'/\Vals vs us/\Q vs h
def SP(X:Cx)(h:List (Addr×Obj))(D:Ends)(f:Flow)(s':yah):Prop:=
 match f with
 |.next=>∃a i,Inv X h a i s'/\D.nx a i
 |.brk=>∃a i,Inv X h a i s'/\D.bk a i
 |.cont=>∃a i,Inv X h a i s'/\D.ct a i
 |.ret u=>∃v a i,Inv X h a i s'/\RelV v u/\D.rt v i
def PE(X:Cx)(e:Expr)(t:TE):Prop:=
 ∀(a:List (Addr×Obj))(s:yah)(h:St)(H:Hp)(Q:VK),Inv X a h H s->t h H Q->yar (model X.prog X.w) X.A (eval e X.env) (EP X a h Q) X.xe s
def PT(X:Cx)(e:Expr)(t:TT):Prop:=
 ∀(a:List (Addr×Obj))(s:yah)(h:St)(H:Hp)(Q:Bool->Hp->Prop),Inv X a h H s->t h H Q->yar (model X.prog X.w) X.A (isTrue e X.env (eval e X.env)) (TP X a h Q) X.xe s
def PW(X:Cx)(e:Expr)(t:TT):Prop:=
 ∀(h:Sem yai)(a:List (Addr×Obj))(s:yah)(i:St)(H:Hp)(Q:Bool->Hp->Prop),Inv X a i H s->t i H Q->yar (model X.prog X.w) X.A (isTrue e X.env h) (TP X a i Q) X.xe s
theorem PW.pt{t:TT}(h:PW X e t):PT X e t:=h _
def PA(X:Cx)(es:List Expr)(t:TA):Prop:=
 ∀(i:Pos)(a:List (Addr×Obj))(s:yah)(h:St)(H:Hp)(Q:List V->Hp->Prop),Inv X a h H s->t h H Q->yar (model X.prog X.w) X.A (spliced (yau i (yao es X.env))) (AP X a h Q) X.xe s
def PS(X:Cx)(st:Stmt)(t:TS):Prop:=
 ∀(a:List (Addr×Obj))(s:yah)(h:St)(H:Hp)(D:Ends),Inv X a h H s->t D h H->yar (model X.prog X.w) X.A (exec st X.env) (SP X a D) X.xe s
def wC(X:Cx)(st:List Stmt)(t:TS):Prop:=
 ∀(a:List (Addr×Obj))(s:yah)(h:St)(H:Hp)(D:Ends),Inv X a h H s->t D h H->yar (model X.prog X.w) X.A (execs st X.env) (SP X a D) X.xe s
theorem bT{α:Type}{t:Sem α}{Q i:α->yah->Prop}{M:Model}(h:yar M A t Q E s)(j:∀a s,Q a s->i a s):yar M A t i E s:=yac h j λ_ _ x=>x
section
def PC(i:Nat):TE:=λa H Q=>∃v,a[i]? =some (some v)/\Q v H
def tC(v:V):TE:=λ_ H Q=>Q v H
theorem M4(L:X.N[i]? =some x)(C:Sk X.env.scope x)(hd:(x==("__debug__":Str))=false:=by decide)(q:(x==("__classdict__":Str))=false:=by decide):PE X (.Name x pos) (PC i):=by
 intro o s y H Q I h;obtain⟨v,e,h⟩:=h;obtain⟨m,E,G⟩:=I.loc;obtain⟨u,r,l⟩:=G i x v L e C;have n:EP X o y Q u s:=⟨v,H,I,r,h⟩
 rcases l with⟨j,F⟩|⟨j,c,t,a⟩
 ·exact wpAny_Name (wpAny_loadName_local I.ok.kind j E F n) hd
 ·rcases j with j|j
  ·exact wpAny_Name (wpAny_loadName_cell I.ok.kind j t a n) hd
  ·exact wpAny_Name (wpAny_loadName_free I.ok.kind j t a n q) hd
theorem aj{i j pos}:PE X (.Constant (.int i) j pos) (tC (.int i)):=λ_ _ _ H _ I h=>wpAny_Constant_int ⟨.int i,H,I.tok _,⟨_,rfl⟩,h⟩
theorem b8{b j pos}:PE X (.Constant (.bool b) j pos) (tC (.bl b)):=λ_ _ _ H _ I h=>Constant_bool ⟨.bl b,H,I,rfl,h⟩
theorem aJ{x j pos}:PE X (.Constant (.str x) j pos) (tC (.str x)):=λ_ _ _ H _ I h=>Calls.Constant_str ⟨.str x,H,I.tok _,⟨_,rfl⟩,h⟩
def Gl(X:Cx)(x:Str):Prop:=X.env.kindOf x=some .globalImplicit
theorem nq{a:St}(I:Inv X pins a H s)(j:Gl X x)(i:X.mg x=some u)(h:Q u s)(hd:(x==("__debug__":Str))=false:=by decide):yar (model X.prog X.w) X.A (eval (.Name x pos) X.env) Q E s:=
 Calls.Name_function_global I.ok.kind j (Calls.loadGlobal_global (by rw[I.ok.glob];exact I.mod.glob.keeps I.bk) i h) hd
theorem cu{a:St}(I:Inv X pins a H s)(m:Gl X x)(l:X.mg x=none)(i:bootBuiltins x=some u)(h:Q u s)(j:x≠"__name__":=by decide)(hd:(x==("__debug__":Str))=false:=by decide):yar (model X.prog X.w) X.A (eval (.Name x pos) X.env) Q E s:=by
 obtain⟨mb,h1,h2⟩:=I.mod.blt;exact Calls.Name_function_global I.ok.kind m (Calls.loadGlobal_builtin (by rw[I.ok.glob];exact I.mod.glob.keeps I.bk) l (by rw[I.ok.blt];exact h1.keeps I.bk) ((h2 x j).trans i) h) hd
theorem jZ(i:Gl X x)(a:X.mg x=some u)(r:RelV v u)(hd:(x==("__debug__":Str))=false:=by decide):PE X (.Name x pos) (tC v):=
 λ_ _ _ H _ I h=>nq I i a ⟨v,H,I,r,h⟩ hd
theorem IJ(l:Gl X x)(j:X.mg x=none)(a:bootBuiltins x=some u)(r:RelV v u)(i:x≠"__name__":=by decide)(hd:(x==("__debug__":Str))=false:=by decide):PE X (.Name x pos) (tC v):=
 λ_ _ _ H _ I h=>cu I l j a ⟨v,H,I,r,h⟩ i hd
variable {a b:Expr}{ta tb:TE}
def tB(t:TE):TT:=λh H Q=>t h H λx i=>∃c,x=.bl c/\Q c i
variable {tA tB':TT}{rest:List Expr}
def PY(t u:TT):TT:=λh H Q=>t h H λc i=>if c=true then u h i Q else Q false i
def T9(t u:TT):TT:=λh H Q=>t h H λc i=>if c=true then Q true i else u h i Q
def PM(t:TT):TT:=λh H Q=>t h H λc i=>Q (!c) i
theorem pw_and1(l:PT X a tA):PW X (.BoolOp .And [a] pos) tA:=by
 intro m i s j H Q I h;refine isTrue_and (bT (l i s j H Q I h) λc n e=>?_);cases c with
 |true=>exact isTrue_and_nil e
 |false=>exact e
theorem pw_or1(l:PT X a tA):PW X (.BoolOp .Or [a] pos) tA:=by
 intro m i s j H Q I h;refine isTrue_or (bT (l i s j H Q I h) λc n e=>?_);cases c with
 |false=>exact isTrue_or_nil e
 |true=>exact e
theorem pw_and(v:PT X a tA)(u:PW X (.BoolOp .And (b::rest) pos) tB'):PW X (.BoolOp .And (a::b::rest) pos) (PY tA tB'):=by
 intro q i s l H Q I h;refine isTrue_and (bT (v i s l H _ I h) λc t j=>?_);obtain⟨o,n,m⟩:=j;cases c with
 |true=>exact u q i t l o Q n m
 |false=>exact⟨o,n,m⟩
theorem pw_or(v:PT X a tA)(u:PW X (.BoolOp .Or (b::rest) pos) tB'):PW X (.BoolOp .Or (a::b::rest) pos) (T9 tA tB'):=by
 intro q i s l H Q I h;refine isTrue_or (bT (v i s l H _ I h) λc t j=>?_);obtain⟨o,n,m⟩:=j;cases c with
 |true=>exact⟨o,n,m⟩
 |false=>exact u q i t l o Q n m
theorem cT(l:PT X a tA):PT X (.UnaryOp .Not a pos) (PM tA):=by
 intro i s j H Q I h;exact isTrue_not (l i s j H (λc m=>Q (!c) m) I h)
def KO(ta tb:TE):TE:=λh H Q=>ta h H λx i=>∃c,x=.bl c/\if c=true then tb h i Q else Q (.bl false) i
def PK(ta tb:TE):TE:=λh H Q=>ta h H λx i=>∃c,x=.bl c/\if c=true then Q (.bl true) i else tb h i Q
def KD(ta:TE):TE:=λh H Q=>ta h H λx i=>∃c,x=.bl c/\Q (.bl (!c)) i
theorem jz{op}{t:TE}(h:PE X a t):PE X (.BoolOp op [a] pos) t:=λi s j H Q I hw=>BoolOp_one (h i s j H Q I hw)
theorem gn(y:PE X a ta)(u:PE X (.BoolOp .And (b::rest) pos) tb):PE X (.BoolOp .And (a::b::rest) pos) (KO ta tb):=by
 intro i s m H Q I h;refine BoolOp_and (bT (y i s m H _ I h) λv q l=>?_);obtain⟨x,o,n,t,j⟩:=l;obtain⟨c,rfl,j⟩:=j;cases t;refine wpAny_truthy_bool ?_;cases c with
 |true=>exact u i q m o Q n j
 |false=>exact⟨.bl false,o,n,rfl,j⟩
theorem EW(y:PE X a ta)(u:PE X (.BoolOp .Or (b::rest) pos) tb):PE X (.BoolOp .Or (a::b::rest) pos) (PK ta tb):=by
 intro i s m H Q I h;refine BoolOp_or (bT (y i s m H _ I h) λv q l=>?_);obtain⟨x,o,n,t,j⟩:=l;obtain⟨c,rfl,j⟩:=j;cases t;refine wpAny_truthy_bool ?_;cases c with
 |false=>exact u i q m o Q n j
 |true=>exact⟨.bl true,o,n,rfl,j⟩
theorem ye(o:PE X a ta):PE X (.UnaryOp .Not a pos) (KD ta):=by
 intro i s m H Q I h;refine UnaryOp_ (bT (o i s m H _ I h) λv u j=>?_);obtain⟨x,t,q,n,l⟩:=j;obtain⟨c,rfl,l⟩:=l;cases n;exact not_of (wpAny_truthy_bool ⟨.bl (!c),t,q,rfl,l⟩)
def Ua(t:TT)(ta tb:TE):TE:=λh H Q=>t h H λc i=>if c=true then ta h i Q else tb h i Q
theorem gZ(t:PT X c tA)(v:PE X a ta)(u:PE X b tb):PE X (.IfExp c a b pos) (Ua tA ta tb):=by
 intro i s j H Q I h;refine wpAny_IfExp (bT (t i s j H _ I h) λd m l=>?_);obtain⟨q,o,n⟩:=l;cases d with
 |true=>exact v i m j q Q o n
 |false=>exact u i m j q Q o n
end
def cF(K:yaI)(H:Hp)(a:Addr)(i:List V):Prop:=
 Rd H a (.lst i)∨
  ∃(o:Obj)(h:Array yai)(n:Nat),K.lookup a=some o/\o.cls=.type "list"/\o.dict=none/\o.data=.seq h n/\h.size<=yag/\Vals i h.toList
def dI(K:yaI)(H:Hp)(a:Addr)(i:List V):Prop:=
 Rd H a (.tup i)∨
  ∃(o:Obj)(h:Array yai)(n:Nat),K.lookup a=some o/\o.cls=.type "tuple"/\o.data=.seq h n/\h.size<=yag/\Vals i h.toList
noncomputable def TF:yai->Option V
 |.none=>some .bD
 |.bool b=>some (.bl b)
 |.int i _=>some (.int i)
 |.str x _=>some (.str x)
 |.bytes b _=>some (.wW b)
 |.float b _=>some (.Od b)
 |.ref a=>some (.ref a)
 |.type n=>some (.ty n)
 |_=>none
theorem RelV.abs{x:V}(r:RelV x u):TF u=some x:=by
 cases x with
 |bD=>cases r;rfl
 |bl _=>cases r;rfl
 |int _=>obtain⟨t,rfl⟩:=r;rfl
 |str _=>obtain⟨t,rfl⟩:=r;rfl
 |wW _=>obtain⟨t,rfl⟩:=r;rfl
 |Od _=>obtain⟨t,rfl⟩:=r;rfl
 |ref _=>cases r;rfl
 |ty _=>cases r;rfl
theorem RelV.inj{x:V}(r:RelV x u)(q:RelV y u):x=y:=zcN.inj (r.abs.symm.trans q.abs)
theorem Vals.inj:∀{i a:List V}{us:List yai},Vals i us->Vals a us->i=a:=by
 intro i a us h
 induction h generalizing a with
 |nil=>intro g;cases g;rfl
 |cons r t ih=>
  intro g;cases g with
  |cons r' t'=>rw[r.inj r',ih t']
section
variable {σ:St}{ys:List V}
theorem cF.of(h:H a=some (.lst xs)):cF K H a xs:=.inl (.inl h)
theorem dI.of(h:H a=some (.tup xs)):dI K H a xs:=.inl (.inl h)
theorem Inv.list(I:Inv X pins σ H s)(h:cF X.K H a xs):∃its:List yai,Vals xs its/\PlainL s.heap a its.toArray/\xs.length<=yag:=by
 rcases h with h|⟨o,its,n,j,l,hd,i,hz,r⟩
 ·obtain⟨z,its,n,r,e⟩:=h.ok I.hok;exact⟨its,r,⟨_,n,e,rfl,rfl,rfl⟩,z⟩
 ·refine⟨its.toList,r,⟨o,n,I.mq a o j,l,hd,by simpa using i⟩,?_⟩;have e:=r.length;simp only[zaJ] at e;lia
theorem Inv.tuple(I:Inv X pins σ H s)(h:dI X.K H a xs):∃its:List yai,Vals xs its/\IsTup s.heap a its.toArray/\xs.length<=yag:=by
 rcases h with h|⟨o,its,n,j,l,i,hz,r⟩
 ·obtain⟨z,its,r,p⟩:=h.ok I.hok;exact⟨its,r,p,z⟩
 ·refine⟨its.toList,r,⟨o,I.mq a o j,l,n,by simpa using i⟩,?_⟩;have e:=r.length;simp only[zaJ] at e;lia
theorem Inv.vq(I:Inv X pins σ H s)(h:cF X.K H a xs)(h':cF X.K H a ys):xs=ys:=by
 obtain⟨j,r,⟨o,n,e,_,_,d⟩,_⟩:=I.list h;obtain⟨i,q,⟨t,u,l,_,_,m⟩,_⟩:=I.list h';rw[e] at l;cases l;rw[d] at m;injection m with d1 _;have:j=i:=by simpa using congrArg Array.toList d1
 subst this;exact r.inj q
theorem Inv.BE(I:Inv X pins σ H s)(h:dI X.K H a xs)(h':dI X.K H a ys):xs=ys:=by
 obtain⟨j,r,⟨o,e,_,n,d⟩,_⟩:=I.tuple h;obtain⟨i,q,⟨t,l,_,u,m⟩,_⟩:=I.tuple h';rw[e] at l;cases l;rw[d] at m;injection m with d1 _;have:j=i:=by simpa using congrArg Array.toList d1
 subst this;exact r.inj q
end
noncomputable abbrev Cx.pU(X:Cx)(E:yai->yah->Prop):Cx:={X with xe:=E}
noncomputable abbrev Cx.Ht(X:Cx):Cx:=X.pU λ_ _=>False
theorem Cx.Ok.pU(ok:X.Ok)(E:yai->yah->Prop):(X.pU E).Ok:=
 ⟨ok.mod,ok.kind,ok.glob,ok.blt,ok.above,ok.inj,ok.has,ok.RH,ok.hd,ok.frames,ok.stk,ok.Tq,ok.bs,ok.J3,ok.E8,ok.JD,ok.mR,ok.Oc⟩
theorem Cx.Ok.gQ(ok:(X.pU E).Ok):X.Ok:=
 ⟨ok.mod,ok.kind,ok.glob,ok.blt,ok.above,ok.inj,ok.has,ok.RH,ok.hd,ok.frames,ok.stk,ok.Tq,ok.bs,ok.J3,ok.E8,ok.JD,ok.mR,ok.Oc⟩
section
variable {σ:St}
theorem Inv.pU(I:Inv X pins σ H s)(E:yai->yah->Prop):Inv (X.pU E) pins σ H s:=⟨I.ok.pU E,I.os,I.bare,I.base,I.loc,I.cell,I.free,I.gE,I.pin,I.hok,I.len⟩
theorem Inv.gQ(I:Inv (X.pU E) pins σ H s):Inv X pins σ H s:=⟨I.ok.gQ,I.os,I.bare,I.base,I.loc,I.cell,I.free,I.gE,I.pin,I.hok,I.len⟩
theorem SP.gQ{D:Ends}{f:Flow}{s':yah}(h:SP (X.pU E) pins D f s'):SP X pins D f s':=by
 cases f with
 |next=>obtain⟨a,i,I,q⟩:=h;exact⟨a,i,I.gQ,q⟩
 |brk=>obtain⟨a,i,I,q⟩:=h;exact⟨a,i,I.gQ,q⟩
 |cont=>obtain⟨a,i,I,q⟩:=h;exact⟨a,i,I.gQ,q⟩
 |ret u=>obtain⟨v,a,i,I,r,q⟩:=h;exact⟨v,a,i,I.gQ,r,q⟩
theorem wC.Ht{st:List Stmt}{t:TS}(h:wC X.Ht st t):wC X st t:=λa s σ H D I hw=>
 yac (h a s σ H D (I.pU _) hw) (λ_ _ q=>q.gQ) λ_ _ z=>False.elim z
end
section
variable {rest:List Stmt}{t u:TS}{te:TE}
def KG:TS:=λD a H=>D.nx a H
def PF(t u:TS):TS:=λD a H=>t {D with nx:=u D} a H
theorem aL:wC X [] KG:=λ_ _ a H _ I h=>yaF ⟨a,H,I,h⟩
theorem aa(h1:PS X st t)(h2:wC X rest u):wC X (st::rest) (PF t u):=by
 intro a s j H D I h;refine yaG (bT (h1 a s j H {D with nx:=u D} I h) λf l q=>?_);cases f with
 |next=>
  obtain⟨i,n,m,q⟩:=q;exact h2 a l i n D m q
 |ret v=>exact q
 |brk=>exact q
 |cont=>exact q
theorem af(h1:PS X st t):wC X [st] t:=by
 intro a s i H D I h;refine yaG (bT (h1 a s i H D I h) λf j q=>?_);cases f with
 |next=>exact yaF q
 |ret v=>exact q
 |brk=>exact q
 |cont=>exact q
theorem Inv.quiet{a:St}(I:Inv X pins a H s):interactive X.env=false:=by simp[interactive,I.ok.kind]
def KJ(te:TE):TS:=λD a H=>te a H λ_ h=>D.nx a h
theorem bu(n:PE X e te)(m:yat e none pos.line X.env=pure false:=by rfl):PS X (.Expr e pos) (KJ te):=by
 intro a s j H D I h;refine wpAny_Expr_any (bT (n a s j H _ I h) λv y i=>?_) I.quiet m;obtain⟨x,q,o,C,l⟩:=i;exact⟨j,q,o,l⟩
def PJ(te:TE):TS:=λD a H=>te a H D.rt
theorem aG(n:PE X e te):PS X (.Return (some e) pos) (PJ te):=by
 intro a s j H D I h;refine wpAny_Return_some (bT (n a s j H _ I h) λv y i=>?_);obtain⟨x,q,o,l,m⟩:=i;exact⟨x,j,q,o,l,m⟩
def PU(c:TT)(t u:TS):TS:=λD a H=>c a H λb h=>if b=true then t D a h else u D a h
theorem aX{a b:List Stmt}{m:TT}(x:PT X c m)(C:wC X a t)(y:wC X b u):PS X (.If c a b pos) (PU m t u):=by
 intro i s j H D I h;refine wpAny_If (bT (x i s j H _ I h) λd n l=>?_);obtain⟨v,q,o⟩:=l;cases d with
 |true=>exact C i n j v D q o
 |false=>exact y i n j v D q o
def LW:TS:=λ_ _ _=>False
theorem eU:PS X st LW:=λ_ _ _ _ _ _ h=>h.elim
end
abbrev TG:=V->St->Hp->(St->Hp->Prop)->Prop
abbrev Gx:=List V->St->Hp->(St->Hp->Prop)->Prop
def PG(X:Cx)(a:Expr)(t:TG):Prop:=
 ∀(h:List (Addr×Obj))(s:yah)(j:St)(H:Hp)(v:V)(u:yai)(Q:St->Hp->Prop),Inv X h j H s->RelV v u->t v j H Q->
  yar (model X.prog X.w) X.A (assign a X.env u) (λ_ m=>∃i l,Inv X h i l m/\Q i l) X.xe s
def Ly(X:Cx)(ts:List Expr)(t:Gx):Prop:=
 ∀(a:List (Addr×Obj))(s:yah)(i:St)(H:Hp)(vs:List V)(j:List yai)(Q:St->Hp->Prop),Inv X a i H s->Vals vs j->t vs i H Q->
  yar (model X.prog X.w) X.A (assignInOrder ((assignEach ts X.env).map (·.2)) j) (λ_ m=>∃h l,Inv X a h l m/\Q h l) X.xe s
abbrev Sl:=V->V->Hp->VK->Prop
def Ul(X:Cx)(op:Operator)(t:Sl):Prop:=
 ∀(a:List (Addr×Obj))(s:yah)(h:St)(H:Hp)(x y:V)(v u:yai)(Q:VK),Inv X a h H s->RelV x v->RelV y u->t x y H Q->
  yar (model X.prog X.w) X.A (inplaceOp op v u) (EP X a h Q) X.xe s
def AD(i:Nat):TG:=λv a H Q=>Q (a.set i (some v)) H
theorem b7(m:X.N.Nodup)(hi:X.N[i]? =some x)(j:Loc X.env.scope x)(l:X.fn x=true∨X.env.scope.names.lookup x=some .local:=by first|exact .inl rfl|exact .inr rfl|assumption):PG X (.Name x pos) (AD i):=by
 intro a s o H v u Q I r h;exact wpAny_assign_Name (jK I m hi j r (λq n=>⟨_,H,n,h⟩) l)
def Rg:Gx:=λvs a H Q=>vs=[]/\Q a H
def Lm(t:TG)(u:Gx):Gx:=λvs h H Q=>∃v r,vs=v::r/\t v h H λa i=>u r a i Q
theorem bQ:Ly X [] Rg:=by
 intro a s i H vs j Q I r h;obtain⟨e,h⟩:=h;subst e;cases r;exact assignInOrder_nil ⟨i,H,I,h⟩
theorem aA{es:List Expr}{t:TG}{u:Gx}(h1:PG X e t)(h2:Ly X es u)(n:(assignEach (e::es) X.env).map (·.2)=assign e X.env::(assignEach es X.env).map (·.2):=by rfl):Ly X (e::es) (Lm t u):=by
 intro a s j H vs C Q I r h;obtain⟨v,y,o,h⟩:=h;subst o;cases r with
 |cons r rr=>
  rw[n];refine assignInOrder_cons (bT (h1 a s j H _ _ _ I r h) λ_ l ⟨i,x,q,m⟩=>?_);exact h2 a l i x _ _ Q q rr m
def Rf(K:yaI)(n:Nat)(t:Gx):TG:=λv i H Q=>∃a h,v=.ref a/\dI K H a h/\h.length=n/\t h i H Q
theorem cH{es:List Expr}{k:Nat}{t:Gx}(L:X.calm=true)(h:Ly X es t)(F:(assignEach es X.env).length=n:=by rfl)(j:(assignEach es X.env).findIdx? (·.1)=none:=by rfl):PG X (.Tuple es k pos) (Rf X.K n t):=by
 intro i s l H v u Q I r hw;obtain⟨a,q,P,E,G,hw⟩:=hw;subst P;cases r;obtain⟨x,m,C,hz⟩:=I.tuple E;refine assign_Tuple_tuple (I.ok.hd L) C (by simp[F,<-G,m.length]) j λO y=>?_;have S:Inv X i l H {s with heap:=O}:=I.kept (t':=s.toks) λb o e=>y b o (zcx (zcH e)) e;exact h i _ l H q _ Q S (by simpa using m) hw
def HK(h:TE)(g:TG):TS:=λD a H=>h a H λx i=>g x a i D.nx
theorem lF{l:TE}{g:TG}(y:PE X e l)(u:PG X tg g)(t:swapsWithSole [tg] e pos.line X.env=pure false:=by rfl)(hw:swappedStores [tg] e X.env=pure none:=by rfl)(h1:(assignEach [tg] X.env).map (·.2)=[assign tg X.env]:=by rfl):PS X (.Assign [tg] e pos) (HK l g):=by
 intro a s j H D I h;refine wpAny_Assign_stores (bT (y a s j H _ I h) λv m i=>?_) t hw;obtain⟨x,E,C,n,o⟩:=i;rw[h1];exact bT (u a m j E x v _ C n o) λ_ F q=>q
theorem yd{l:TE}(E:X.N.Nodup)(hi:X.N[i]? =some x)(q:Loc X.env.scope x)(C:PE X e l)(t:yat e (some (.Name x pos')) pos.line X.env=pure false:=by rfl)(u:X.fn x=true∨X.env.scope.names.lookup x=some .local:=by first|exact .inl rfl|exact .inr rfl|assumption):
  PS X (.Assign [.Name x pos'] e pos) (HK l (AD i)):=by
 intro a s m H D I h;refine wpAny_Assign_Name (bT (C a s m H _ I h) λv P j=>?_) t;obtain⟨y,L,G,n,o⟩:=j;exact jK G E hi q n (λO F=>⟨_,L,F,o⟩) u
def Sv(i:Nat)(h:TE)(ti:Sl):TS:=λD a H=>∃x,a[i]? =some (some x)/\h a H λy l=>ti x y l λz j=>D.nx (a.set i (some z)) j
theorem M0{G:TE}{op:Operator}{ti:Sl}(hN:X.N.Nodup)(hi:X.N[i]? =some x)(E:Loc X.env.scope x)(he:PE X e G)(S:Ul X op ti)(Z:X.fn x=true∨X.env.scope.names.lookup x=some .local:=by first|exact .inl rfl|exact .inr rfl|assumption):
  PS X (.AugAssign (.Name x pos') op e pos) (Sv i G ti):=by
 intro a s F H D I h;obtain⟨v,e1,h⟩:=h;obtain⟨m,U,Y⟩:=I.loc;have C:Sk X.env.scope x:=by rcases E with k|k;exact .inl k;exact .inr (.inl k)
 obtain⟨u,r,l⟩:=Y i x v hi e1 C;refine wpAny_AugAssign_Name ?_;have go:yar (model X.prog X.w) X.A (eval e X.env) (λw t=>yar (model X.prog X.w) X.A (inplaceOp op u w) (λr q=>yar (model X.prog X.w) X.A (storeName X.env x r) (λ_=>SP X a D .next) X.xe q) X.xe t) X.xe s:=by
  refine bT (he a s F H _ I h) λw L n=>?_;obtain⟨y,H1,I1,P,Q⟩:=n;refine bT (S a L F H1 v y u w _ I1 r P Q) λz s2 n=>?_;obtain⟨zv,H2,I2,O,q2⟩:=n;exact jK I2 hN hi E O (λs3 I3=>⟨_,H2,I3,q2⟩) Z
 rcases l with⟨j,W⟩|⟨j,c,hc,o⟩
 ·exact wpAny_loadName_local I.ok.kind j U W go
 ·rcases j with j|j
  ·exact wpAny_loadName_cell I.ok.kind j hc o go
  ·rcases E with k|k
   ·have:X.env.scope.names.lookup x=some .free:=j;rw[k] at this;cases this
   ·have:X.env.scope.names.lookup x=some .free:=j;rw[k] at this;cases this
def ipI(f:Int->Int->Int):Sl:=λx y H Q=>∃i j,x=.int i/\y=.int j/\Q (.int (f i j)) H
theorem NY:Ul X .Add (ipI λi j=>i+j):=by
 intro a s C H x y v u Q I m l h;obtain⟨i,j,o,n,q⟩:=h;subst o;subst n;obtain⟨t,rfl⟩:=m;obtain⟨E,rfl⟩:=l;exact iadd_int ⟨.int _,H,I.tok _,⟨_,rfl⟩,q⟩
def Ds(c:TT)(n:TS):TS:=λD a H=>∃W:Nat->St->Hp->Prop,(∃m,W m a H)/\∀m a H,W m a H->
 c a H λb j=>if b=true then∃N:St->Hp->Prop,(∀h l,N h l->∃i,i<m/\W i h l)/\n {D with nx:=N,ct:=N,bk:=D.nx} a j else D.nx a j
theorem gV{C:TT}{E:TS}(F:PassesOwn (model X.prog X.w) X.A X.env X.xe)(hc:PT X c C)(hb:wC X body E):PS X (.While c body [] pos) (Ds C E):=by
 intro i s S H D I h;obtain⟨W,⟨m0,Y⟩,turn⟩:=h;refine wpAny_While (codeAny_whileLoop (λn s'=>∃l Q,Inv X i l Q s'/\W n l Q) ?_ m0 ⟨S,H,I,Y⟩);rintro n s1 ⟨j,P,I1,U⟩;refine wpAny_passesOwn F (bT (hc i s1 j P _ I1 (turn n j P U)) λb Z o=>?_);obtain⟨O,L,q2⟩:=o;cases b with
 |true=>
  obtain⟨N,G,q2⟩:=q2;rw[yIp rfl];refine wpAny_passesOwn F (bT (hb i Z j O _ L q2) λf s3 q3=>?_);cases f with
  |next=>
   obtain⟨a,m,y,t⟩:=q3;obtain⟨u,x,q⟩:=G a m t;exact⟨u,x,a,m,y,q⟩
  |cont=>
   obtain⟨a,m,y,t⟩:=q3;obtain⟨u,x,q⟩:=G a m t;exact⟨u,x,a,m,y,q⟩
  |brk=>exact q3
  |ret v=>exact q3
 |false=>
  rw[yIn zaT];exact yaF ⟨j,O,L,q2⟩
structure It where
 go:Nat->Hp->Prop
 De:Nat->Hp->V->Hp->Prop
 stop:Nat->Hp->Prop
def lZ(X:Cx)(a:List (Addr×Obj))(H:Hp)(b:Addr):Prop:=
 H b=none/\b≠X.env.locals/\b ∉ X.fs/\(b∈X.ex∨X.s₀.heap.objs.size<=b)/\(∀x c,X.env.cells.lookup x=some c->c≠b)/\∀p∈X.pn++a,p.1≠b
theorem Inv.p8{h:St}{b:Addr}(I:Inv X pins h H s)(a:s.heap.objs.size<=b)(j:H' b=none):lZ X pins H' b:=by
 refine⟨j,zcA (zaR I.lt a),I.QW a,.inr (zcy I.sz a),λx c e z=>?_,λp i z=>?_⟩
 ·obtain⟨v,q⟩:=I.cell x c e;exact absurd (zaR q.lt (by rw[z];exact a)) (zcn _)
 ·exact absurd (zaR (zcH (I.pin p i).1) (by rw[z];exact a)) (zcn _)
structure Turn(P:yaj)(w:yak)(K:yaI)(tg:Expr)(J:It)(fp:List Addr)(it:Addr)(tn:Nat->Heap->Prop):Prop where
 mem:it∈fp
 obj:∀i h,tn i h->∀b∈fp,∃o,h.get? b=some o/\∀v,o.data≠ .cell v
 keep:∀i h h',tn i h->(∀b∈fp,∀o,h.get? b=some o->h'.get? b=some o)->tn i h'
 item:∀(X:Cx),X.prog=P->X.w=w->X.K=K->X.calm=true->∀(i:Nat)(pins:List (Addr×Obj))(s:yah)(σ:St)(H:Hp)(E:yai->yah->Prop),Inv X pins σ H s->(∀b∈fp,lZ X pins H b)->tn i s.heap->J.go i H->
  yar (model P w) X.A (pyNext (.ref it)) (λr s1=>∃u,r=some u/\yar (model P w) X.A (letOwnedTupleGo tg (.ref it) u) (λ_ s2=>∃x H',Inv X pins σ H' s2/\RelV x u/\J.De i H x H'/\tn (i+1) s2.heap/\∀b∈fp,H' b=none) E s1) E s
 done:∀(X:Cx),X.prog=P->X.w=w->X.K=K->X.calm=true->∀(i:Nat)(pins:List (Addr×Obj))(s:yah)(σ:St)(H:Hp)(E:yai->yah->Prop),Inv X pins σ H s->(∀b∈fp,lZ X pins H b)->tn i s.heap->J.stop i H->
  yar (model P w) X.A (pyNext (.ref it)) (λr s1=>r=none/\Inv X pins σ H s1) E s
 self:∀(A:yal)(i:Nat)(s:yah)(Q:yai->yah->Prop)(E:yai->yah->Prop),tn i s.heap->Q (.ref it) s->yar (model P w) A (pyIter (.ref it)) Q E s
abbrev TI:=St->Hp->(It->Hp->Prop)->Prop
def Um(X:Cx)(a:List (Addr×Obj))(m:St)(n:Expr)(R:It->Hp->Prop)(h:yai)(j:yah):Prop:=
 ∃(it:Addr)(l:List Addr)(tn:Nat->Heap->Prop)(J:It)(i:Hp),h=.ref it/\Inv X a m i j/\Turn X.prog X.w X.K n J l it tn/\tn 0 j.heap/\(∀b∈l,lZ X a i b)/\R J i
def PI(X:Cx)(l h:Expr)(j:TI):Prop:=
 ∀(a:List (Addr×Obj))(s:yah)(i:St)(H:Hp)(R:It->Hp->Prop),Inv X a i H s->j i H R->
  yar (model X.prog X.w) X.A (eval h X.env) (λv m=>yar (model X.prog X.w) X.A (pyIter v) (Um X a i l R) X.xe m) X.xe s
theorem qS{M:Model}{it:Addr}{n:String}{vs:Array yai}{Q:Unit->yah->Prop}(i:s.heap.get? it=some o)(l:o.cls=.type n)(hd:o.data=.fields vs)(j:["enumerate","zip","dict_itemiterator","dict_reverseitemiterator","odict_iterator","itertools.zip_longest","itertools.pairwise"].contains n=false)(a:Q () s):yar M A (letOwnedTupleGo tg (.ref it) u) Q E s:=by
 unfold letOwnedTupleGo;cases tg<;>first
  |exact yab a
  |(cases u<;>first|exact yab a|(refine yaa (wpAny_load i ?_);rw[l,hd];show yar M A (if(["enumerate","zip","dict_itemiterator","dict_reverseitemiterator","odict_iterator","itertools.zip_longest","itertools.pairwise"].contains n&&vs[0]? ==some (rawInt _))=true then _ else _) Q E s;rw[yIn (by intro h;rw[j,Bool.false_and] at h;cases h)];exact yab a))
noncomputable def RY(K:yaI)(a:Addr):It:=
 ⟨λi H=>∃h x,cF K H a h/\h[i]? =some x,λi H x j=>j=H/\∀h,cF K H a h->h[i]? =some x,λi H=>∃h,cF K H a h/\h.length<=i⟩
noncomputable def Sn(K:yaI)(a:Addr):It:=
 ⟨λi H=>∃h x,dI K H a h/\h[i]? =some x,λi H x j=>j=H/\∀h,dI K H a h->h[i]? =some x,λi H=>∃h,dI K H a h/\h.length<=i⟩
noncomputable def TZ(lo:Int)(n:Nat):It:=⟨λi _=>i<n,λi H x a=>a=H/\x=.int (lo+i),λi _=>n<=i⟩
theorem BD(a it:Addr):Turn P w K tg (RY K a) [it] it (λi h=>h.IsListIter it a i) where
 mem:=by simp
 obj:=λi h j b m=>by
  have e:b=it:=by simpa using m
  subst e;obtain⟨o,e,c,d⟩:=j;exact⟨o,e,λv z=>by rw[d] at z;cases z⟩
 keep:=λi h y j k=>j.at λo e=>k it (by simp) o e
 item:=by
  intro X O hw Q hc i l s σ H E I t j L;subst O hw Q;obtain⟨xs,x,q,G⟩:=L;obtain⟨F,C,p,hz⟩:=I.list q;obtain⟨u,hu,ru⟩:=C.get G;obtain⟨Z,Y,f2,W,U,S⟩:=t it (by simp);refine wpAny_pyNext_list_item j p.isList (x:=u) (by simpa using hu) λy n sb=>?_;have I1:Inv X l σ H {s with heap:=y}:=I.turned (t':=s.toks) (λb o m e=>(sb.2 b m).trans e) Z Y W U S;obtain⟨o,e,c,d⟩:=id n;exact⟨u,rfl,qS (s:={s with heap:=y}) e c d (by decide) ⟨x,H,I1,ru,⟨rfl,λys hy=>by rw[I.vq hy q];exact G⟩,n,λb m=>(t b m).1⟩⟩
 done:=by
  intro X O hw Q hc i l s σ H E I t j L;subst O hw Q;obtain⟨xs,q,G⟩:=L;obtain⟨F,C,p,hz⟩:=I.list q;obtain⟨Z,Y,f2,W,U,S⟩:=t it (by simp);have hl:=C.length;exact wpAny_pyNext_list_end (I.ok.hd hc) j p.isList (by simp;lia) λy eb=>⟨rfl,I.turned (t':=s.toks) (λb o m e=>eb b o m e) Z Y W U S⟩
 self:=λ_ _ _ _ _ j h=>wpAny_pyIter_listiter j h
theorem xg(a it:Addr):Turn P w K tg (Sn K a) [it] it (λi h=>h.IsTupleIter it a i) where
 mem:=by simp
 obj:=λi h j b n=>by
  have e:b=it:=by simpa using n
  subst e;obtain⟨o,e,c,d⟩:=j;exact⟨o,e,λv z=>by rw[d] at z;cases z⟩
 keep:=λi h C j k=>j.at λo e=>k it (by simp) o e
 item:=by
  intro X O hw Q hc i l s σ H E I y j L;subst O hw Q;obtain⟨xs,x,t,G⟩:=L;obtain⟨m,F,p,hz⟩:=I.tuple t;obtain⟨u,hu,ru⟩:=F.get G;obtain⟨Z,Y,f2,W,U,S⟩:=y it (by simp);refine wpAny_pyNext_tuple_item j (show s.heap.IsTuple a m.toArray from p) (x:=u) (by simpa using hu) λC q sb=>?_;have I1:Inv X l σ H {s with heap:=C}:=I.turned (t':=s.toks) (λb o n e=>(sb.2 b n).trans e) Z Y W U S;obtain⟨o,e,c,d⟩:=id q;exact⟨u,rfl,qS (s:={s with heap:=C}) e c d (by decide) ⟨x,H,I1,ru,⟨rfl,λys hy=>by rw[I.BE hy t];exact G⟩,q,λb n=>(y b n).1⟩⟩
 done:=by
  intro X O hw Q hc i l s σ H E I y j L;subst O hw Q;obtain⟨xs,t,G⟩:=L;obtain⟨m,F,p,hz⟩:=I.tuple t;obtain⟨Z,Y,f2,W,U,S⟩:=y it (by simp);have hl:=F.length;exact wpAny_pyNext_tuple_end (I.ok.hd hc) j (show s.heap.IsTuple a m.toArray from p) (by simp;lia) λC eb=>⟨rfl,I.turned (t':=s.toks) (λb o n e=>eb b o n e) Z Y W U S⟩
 self:=λ_ _ _ _ _ j h=>wpAny_pyIter_tupleiter j h
theorem xh(it:Addr)(lo:Int)(n:Nat):Turn P w K tg (TZ lo n) [it] it (λi h=>IsRangeIter h it (lo+(i:Nat)*1) ((n:Int) - (i:Nat)) 1) where
 mem:=by simp
 obj:=λi h a b l=>by
  have e:b=it:=by simpa using l
  subst e;exact⟨_,a,λv z=>by
   have Y:Data.fields _=Data.cell v:=z;cases Y⟩
 keep:=λi h u a k=>k it (by simp) _ a
 item:=by
  intro X C hw F y i j s U H E I q a x;subst C hw F;obtain⟨S,Q,f2,O,L,G⟩:=q it (by simp);have W:=Walks.range (prog:=X.prog) (w:=X.w) (I.ok.hd y) it lo 1 n;refine W.item i s _ _ x a λv u tk hv m Z=>?_;obtain⟨t,rfl⟩:=hv;have I1:Inv X j U H {s with heap:=u,toks:=tk}:=I.turned (λb o l e=>Z b o (by simpa using l) e) S Q O L G;refine⟨_,rfl,qS (s:={s with heap:=u,toks:=tk}) (n:="range_iterator") m rfl rfl (by decide) ⟨.int (lo+i),H,I1,⟨t,?_⟩,⟨rfl,rfl⟩,m,λb l=>(q b l).1⟩⟩;rw[Int.mul_one]
 done:=by
  intro X C hw F y i j s U H E I q a x;subst C hw F;obtain⟨S,Q,f2,O,L,G⟩:=q it (by simp);exact wpAny_pyNext_range_end (I.ok.hd y) a (by have:n<=i:=x;lia) λu eb=>⟨rfl,I.turned (t':=s.toks) (λb o l e=>eb b o l e) S Q O L G⟩
 self:=λ_ _ _ _ _ a h=>wpAny_pyIter_rangeiter a h
theorem EJ{a:St}{R:It->Hp->Prop}{lo hi:Int}{t u v:Tok}{tk:Nat}(I:Inv X pins a H s)(h1: -(2 ^ 62)<=lo)(h2:lo<2 ^ 62)(l: -(2 ^ 62)<=hi)(j:hi<2 ^ 62)(q:R (TZ lo (hi - lo).toNat) H):yar (model X.prog X.w) X.A (pyIter (.ref s.heap.objs.size)) (Um X pins a tg R) E {s with heap:=s.heap.push {cls:=.type "range",data:=.fields #[.int lo t,.int hi u,.int 1 v]},toks:=tk}:=by
 refine wpAny_pyIter_range (IsRange.new ..) (small_one h1 h2 l j) ?_;have h:Inv X pins a H {s with heap:=s.heap.push {cls:=.type "range",data:=.fields #[.int lo t,.int hi u,.int 1 v]},toks:=tk}:=I.kept λb o e=>zaq _ e;refine⟨(s.heap.push {cls:=.type "range",data:=.fields #[.int lo t,.int hi u,.int 1 v]}).objs.size,[(s.heap.push {cls:=.type "range",data:=.fields #[.int lo t,.int hi u,.int 1 v]}).objs.size],_,_,H,rfl,h.kept (t':=tk) λb o e=>zaq _ e,xh _ lo (hi - lo).toNat,?_,λb i=>?_,q⟩
 ·have n:lo+((0:Nat):Int)*1=lo:=by simp
  have m:(((hi - lo).toNat:Nat):Int) - ((0:Nat):Int)=Builtin.Range.rangeSize lo hi 1:=by rw[rangeSize_one];split<;>lia
  show IsRangeIter _ _ (lo+((0:Nat):Int)*1) ((((hi - lo).toNat:Nat):Int) - ((0:Nat):Int)) 1;rw[n,m];exact zaK _ rfl
 ·have e:b=(s.heap.push {cls:=.type "range",data:=.fields #[.int lo t,.int hi u,.int 1 v]}).objs.size:=by simpa using i
  subst e;exact h.p8 (zcK _) (h.hok.fresh (zcK _))
def Lj(h:TA):TI:=λa H R=>h a H λvs i=>∃j:Int,vs=[.int j]/\-(2 ^ 62)<=j/\j<2 ^ 62/\R (TZ 0 j.toNat) i
theorem bP{a:Expr}{n:TA}(y:Gl X "range")(x:X.mg "range"=none)(C:PA X [a] n)(v:yao [a] X.env=[(false,eval a X.env)]:=by rfl):PI X tg (.Call (.Name "range" p) [a] [] pos) (Lj n):=by
 intro i s o H R I h;refine Call_ (cu I y x boot_range (PyProof.Rows.callWith_type1 (bT (C pos i s o H _ I h) λF G l=>?_) v rfl));obtain⟨vs,L,E,u,m⟩:=l;obtain⟨j,e,m,q2,q⟩:=m;subst e;cases u with
 |cons r rr=>
  cases rr;obtain⟨t,rfl⟩:=r;exact call_range_1 (EJ E (by lia) (by lia) m q2 (by simpa using q))
def PV(o:TI)(g:TG)(q:TS):TS:=λD a H=>o a H λJ t=>∃W:Nat->Nat->St->Hp->Prop,(∃m,W 0 m a t)/\∀i m a H,W i m a H->
 (J.stop i H/\D.nx a H)∨(J.go i H/\∃N:St->Hp->Prop,(∀h j,N h j->∃n,n<m/\W (i+1) n h j)/\∀x j,J.De i H x j->g x a j λl s=>q {D with nx:=N,ct:=N,bk:=D.nx} l s)
noncomputable def jy(fp:List Addr)(h:Heap):List (Addr×Obj):=fp.filterMap λb=>(h.get? b).map λo=>(b,o)
theorem gu{b:Addr}(a:b∈fp)(e:h.get? b=some o):(b,o)∈jy fp h:=List.mem_filterMap.mpr ⟨b,a,by rw[e];rfl⟩
theorem B0{p:Addr×Obj}(a:p∈jy fp h):p.1∈fp/\h.get? p.1=some p.2:=by
 obtain⟨b,i,e⟩:=List.mem_filterMap.mp a;cases q:h.get? b with
 |none=>rw[q] at e;cases e
 |some o=>
  rw[q] at e;have j:(b,o)=p:=zcN.inj e;subst j;exact⟨i,q⟩
theorem Inv.pinned{a:St}(I:Inv X pins a H s)(m:∀b∈fp,lZ X pins H b)(l:∀b∈fp,∃o,s.heap.get? b=some o/\∀v,o.data≠ .cell v):Inv X (pins++jy fp s.heap) a H s:=
 I.jX λp j=>(zbJ.mp j).elim (λz=>I.pin p (zas _ z)) λz=>by
  obtain⟨h,e⟩:=B0 z;obtain⟨t,q,n,_⟩:=m p.1 h;obtain⟨o,i,d⟩:=l p.1 h;rw[e] at i;cases i;exact⟨e,t,q,n,d⟩
theorem Inv.fL{pl:List (Addr×Obj)}{a:St}(I:Inv X (pins++pl) a H s):Inv X pins a H s:=I.jX λp h=>I.pin p (zas _ (zaz _ h))
theorem bI{wi:TI}{g:TG}{tb:TS}(S:PassesOwn (model X.prog X.w) X.A X.env X.xe)(hc:X.calm=true)(hi:PI X tg iter wi)(hg:PG X tg g)(y:wC X body tb)(hs:∀x,foldedSetIterable iter X.env x=pure x:=by intro _;rfl):PS X (.For tg iter body [] pos) (PV wi g tb):=by
 intro j s σ H D I h;refine wpAny_For (bT (hi j s σ H _ I h) λv s1 h1=>bT h1 λitv s2 h2=>?_) hs;obtain⟨it,Y,tn,J,H2,e,I2,T,st2,f2,W,⟨m0,w0⟩,turn⟩:=h2;subst e;have LY:∀{G:Hp},(∀b∈Y,G b=none)->∀b∈Y,lZ X j G b:=λhn b y=>⟨hn b y,(f2 b y).2⟩
 refine codeAny_forLoop_any (λn s'=>∃i t G,Inv X j t G s'/\tn i s'.heap/\(∀b∈Y,G b=none)/\W i n t G) ?_ m0 ⟨0,σ,H2,I2,st2,λb y=>(f2 b y).1,w0⟩;rintro n s3 ⟨i,q,Z,I3,P,U,w3⟩;rcases turn i n q Z w3 with⟨stop,qn⟩|⟨go,N,hN,step⟩
 ·refine wpAny_passesOwn S (bT (T.done X rfl rfl rfl hc i j s3 q Z X.xe I3 (LY U) P stop) λr s4 l=>?_);obtain⟨hr,I4⟩:=l;subst hr;exact yaF ⟨q,Z,I4,qn⟩
 ·refine wpAny_passesOwn S (bT (T.item X rfl rfl rfl hc i j s3 q Z X.xe I3 (LY U) P go) λr s4 l=>?_);obtain⟨u,hr,h4⟩:=l;subst hr;refine wpAny_passesOwn S (bT h4 λ_ s5 l=>?_);obtain⟨x,H5,I5,r5,y5,O,fr5⟩:=l;have I5':=I5.pinned (LY fr5) (T.obj _ _ O);refine wpAny_passesOwn S (bT (hg _ s5 q H5 x u _ I5' r5 (step x H5 y5)) λ_ s6 l=>?_);obtain⟨σ6,H6,I6,q6⟩:=l;refine wpAny_passesOwn S (bT (y _ s6 σ6 H6 _ I6 q6) λf s7 L=>?_);have C:∀{a:St}{F:Hp},Inv X (j++jy Y s5.heap) a F s7->N a F->∃m,m<n/\∃i t G,Inv X j t G s7/\tn i s7.heap/\(∀b∈Y,G b=none)/\W i m t G:=λ{a F} E Q=>by
   obtain⟨m',hm,w7⟩:=hN a F Q;refine⟨m',hm,i+1,a,F,E.fL,T.keep _ _ _ O λb y o e=>(E.pin (b,o) (zas _ (zas _ (gu y e)))).1,λb y=>?_,w7⟩;obtain⟨o,e,d⟩:=T.obj _ _ O b y;exact(E.pin (b,o) (zas _ (zas _ (gu y e)))).2.1
  cases f with
  |next=>obtain⟨a,F,E,Q⟩:=L;exact C E Q
  |cont=>obtain⟨a,F,E,Q⟩:=L;exact C E Q
  |brk=>obtain⟨a,F,E,L⟩:=L;exact⟨a,F,E.fL,L⟩
  |ret v=>obtain⟨x7,a,F,E,r7,L⟩:=L;exact⟨x7,a,F,E.fL,r7,L⟩
abbrev R2:=V->V->Hp->VK->Prop
def fE(X:Cx)(f:yai->yai->Sem yai)(r:R2):Prop:=
 ∀(a:List (Addr×Obj))(s:yah)(h:St)(H:Hp)(x y:V)(v u:yai)(Q:VK),Inv X a h H s->RelV x v->RelV y u->r x y H Q->
  yar (model X.prog X.w) X.A (f v u) (EP X a h Q) X.xe s
def Pu(X:Cx)(f:yai->Sem yai)(r:V->Hp->VK->Prop):Prop:=
 ∀(a:List (Addr×Obj))(s:yah)(h:St)(H:Hp)(x:V)(v:yai)(Q:VK),Inv X a h H s->RelV x v->r x H Q->
  yar (model X.prog X.w) X.A (f v) (EP X a h Q) X.xe s
def bX(X:Cx)(f:yai)(r:List V->Hp->VK->Prop):Prop:=
 ∀(a:List (Addr×Obj))(s:yah)(h:St)(H:Hp)(i:List V)(j:List yai)(Q:VK),Inv X a h H s->Vals i j->r i H Q->
  yar (model X.prog X.w) X.A (call f j) (EP X a h Q) X.xe s
def TR(X:Cx)(r:V->Hp->(Bool->Hp->Prop)->Prop):Prop:=
 ∀(a:List (Addr×Obj))(s:yah)(h:St)(H:Hp)(x:V)(v:yai)(Q:Bool->Hp->Prop),Inv X a h H s->RelV x v->r x H Q->
  yar (model X.prog X.w) X.A (truthy v) (TP X a h Q) X.xe s
def PL(r:R2)(i h:TE):TE:=λa H Q=>i a H λx l=>h a l λy j=>r x y j Q
def T7(r:V->Hp->VK->Prop)(h:TE):TE:=λa H Q=>h a H λx i=>r x i Q
def rI(C:Int->Int->Prop)(g:Int->Int->V):R2:=λx y H Q=>∃i j,x=.int i/\y=.int j/\C i j/\Q (g i j) H
def IB(g:Int->Int->V):R2:=λx y H Q=>∃i j,x=.int i/\y=.int j/\Q (g i j) H
def rU(g:Int->V):V->Hp->VK->Prop:=λx H Q=>∃i,x=.int i/\Q (g i) H
section
variable {a b:Expr}{ta tb tc:TE}
theorem OP(L:PE X a ta)(G:PE X b tb){i:St}{R:V->V->Hp->Prop}(I:Inv X pins i H s)(h:ta i H λx o=>tb i o λy j=>R x y j){f:yai->yai->Sem yai}(F:∀v u n x y j,Inv X pins i j n->RelV x v->RelV y u->R x y j->yar (model X.prog X.w) X.A (f v u) Q X.xe n):
  yar (model X.prog X.w) X.A (eval a X.env) (λv m=>yar (model X.prog X.w) X.A (eval b X.env) (λu l=>yar (model X.prog X.w) X.A (f v u) Q X.xe l) X.xe m) X.xe s:=by
 refine bT (L pins s i H _ I h) λv q ⟨x,o,P,C,E⟩=>?_;refine bT (G pins q i o _ P E) λu n ⟨y,j,O,t,q2⟩=>?_;exact F v u n x y j O C t q2
theorem az{op:Operator}{r:R2}(o:fE X (binaryOp op) r)(C:PE X a ta)(t:PE X b tb):PE X (.BinOp a op b pos) (PL r ta tb):=by
 intro i s j H Q I h;exact wpAny_BinOp (OP C t I h λv u l x y F E n m q=>o i l j F x y v u Q E n m q)
theorem qE{op:UnaryOp}{r:V->Hp->VK->Prop}(q:Pu X (unaryOp op) r)(t:PE X a ta):PE X (.UnaryOp op a pos) (T7 r ta):=by
 intro i s l H Q I h;refine UnaryOp_ (bT (t i s l H _ I h) λv m j=>?_);obtain⟨x,y,u,n,o⟩:=j;exact q i m l y x v Q u n o
theorem Sd{f:yai->yai->Sem yai}{C:Int->Int->Prop}{g:Int->Int->Int}(l:∀(i j:Int)(t u:Tok)(s:yah)(Q:yai->yah->Prop)(E:yai->yah->Prop),C i j->Q (.int (g i j) s.toks) {s with toks:=s.toks+1}->yar (model X.prog X.w) X.A (f (.int i t) (.int j u)) Q E s):
  fE X f (rI C λi j=>.int (g i j)):=by
 intro m s L H x y v u Q I F o h;obtain⟨i,j,rfl,rfl,G,q⟩:=h;obtain⟨t,rfl⟩:=F;obtain⟨n,rfl⟩:=o;exact l i j t n s _ _ G ⟨.int (g i j),H,I.tok _,⟨_,rfl⟩,q⟩
theorem QO{f:yai->yai->Sem yai}{g:Int->Int->Int}(l:∀(i j:Int)(t u:Tok)(s:yah)(Q:yai->yah->Prop)(E:yai->yah->Prop),Q (.int (g i j) s.toks) {s with toks:=s.toks+1}->yar (model X.prog X.w) X.A (f (.int i t) (.int j u)) Q E s):
  fE X f (IB λi j=>.int (g i j)):=by
 intro m s F H x y v u Q I C o h;obtain⟨i,j,rfl,rfl,q⟩:=h;obtain⟨t,rfl⟩:=C;obtain⟨n,rfl⟩:=o;exact l i j t n s _ _ ⟨.int (g i j),H,I.tok _,⟨_,rfl⟩,q⟩
theorem IU{f:yai->yai->Sem yai}{g:Int->Int->Bool}(l:∀(i j:Int)(t u:Tok)(s:yah)(Q:yai->yah->Prop)(E:yai->yah->Prop),Q (.bool (g i j)) s->yar (model X.prog X.w) X.A (f (.int i t) (.int j u)) Q E s):
  fE X f (IB λi j=>.bl (g i j)):=by
 intro m s F H x y v u Q I C o h;obtain⟨i,j,rfl,rfl,q⟩:=h;obtain⟨t,rfl⟩:=C;obtain⟨n,rfl⟩:=o;exact l i j t n s _ _ ⟨.bl (g i j),H,I,rfl,q⟩
def Ph(i j:Int):Prop:=0<j/\j<1073741824
def R6(i j:Int):Prop:=0<=j/\j<=1000000/\i.natAbs<2 ^ 64
def C5(i j:Int):Prop:=(-(2 ^ 64)<i/\i<2 ^ 64)∨(-(2 ^ 64)<j/\j<2 ^ 64)
theorem C5.ok{i j:Int}(h:C5 i j):IntMulOk i j:=by
 rcases h with⟨h1,h2⟩|⟨h1,h2⟩
 ·exact .of_left (intBits_le_64 h1 h2)
 ·exact .of_right (intBits_le_64 h1 h2)
theorem Np:fE X (binaryOp .Add) (IB λi j=>.int (i+j)):=QO λ_ _ _ _ _ _ _ q=>add_int q
theorem Nc:fE X (binaryOp .Sub) (IB λi j=>.int (i - j)):=QO λ_ _ _ _ _ _ _ q=>sub_int q
theorem Nh:fE X (binaryOp .Mult) (rI C5 λi j=>.int (i*j)):=Sd λ_ _ _ _ _ _ _ h q=>mul_int q h.ok
theorem IM:fE X (binaryOp .FloorDiv) (rI Ph λi j=>.int (i / j)):=Sd λi j _ _ _ _ _ h q=>by
 have h1:(0:Int)<j:=h.1;have h2:j<1073741824:=h.2;exact floordiv_int (by lia) (by rw[Int.fdiv_eq_ediv_of_nonneg i (by lia)];exact q) (.inl (PyProof.noPylong_small (by lia)))
theorem Ni:fE X (binaryOp .Mod) (rI (λ_ j=>0<j) λi j=>.int (i % j)):=Sd λi j _ _ _ _ _ h q=>by
 have h1:(0:Int)<j:=h;exact mod_int' (by lia) (by rw[Int.fmod_eq_emod_of_nonneg i (by lia)];exact q)
theorem Nf:fE X (binaryOp .Pow) (rI R6 λi j=>.int (i ^ j.toNat)):=Sd λ_ _ _ _ _ _ _ h q=>pow_int_small h.1 h.2.1 h.2.2 q
theorem unI{f:yai->Sem yai}{g:Int->Int}(j:∀(i:Int)(t:Tok)(s:yah)(Q:yai->yah->Prop)(E:yai->yah->Prop),Q (.int (g i) s.toks) {s with toks:=s.toks+1}->yar (model X.prog X.w) X.A (f (.int i t)) Q E s):
  Pu X f (rU λi=>.int (g i)):=by
 intro l s n H x v Q I m h;obtain⟨i,rfl,q⟩:=h;obtain⟨t,rfl⟩:=m;exact j i t s _ _ ⟨.int (g i),H,I.tok _,⟨_,rfl⟩,q⟩
theorem LL:Pu X (unaryOp .USub) (rU λi=>.int (-i)):=unI λ_ _ _ _ _ q=>neg_int q
end
noncomputable def P7:V->V->Bool
 |.bD,.bD=>true|.bD,.int _=>true|.int _,.bD=>true|.bD,.bl _=>true|.bl _,.bD=>true|.bD,.str _=>true|.str _,.bD=>true
 |.int _,.int _=>true|.bl _,.bl _=>true|.str _,.str _=>true|.wW _,.wW _=>true
 |.int _,.str _=>true|.str _,.int _=>true|.bl _,.str _=>true|.str _,.bl _=>true
 |_,_=>false
def rEq:R2:=λx y H Q=>P7 x y=true/\Q (.bl (decide (x=y))) H
def rNe:R2:=λx y H Q=>P7 x y=true/\Q (.bl (!decide (x=y))) H
theorem AV{i j:Int}:decide (V.int i=V.int j)=(i==j):=by
 rw[zbY];simp
theorem FT{i j:Bool}:decide (V.bl i=V.bl j)=(i==j):=by
 rw[zbY];simp
theorem AU{i j:Str}:decide (V.str i=V.str j)=(i==j):=by
 rw[zbY];simp
theorem AW{i j:Array UInt8}:decide (V.wW i=V.wW j)=(i.toList==j.toList):=by
 rw[zbY];cases i;cases j;simp
section
variable {a b:Expr}{ta tb tc:TE}
theorem aU{h:St}{Q:VK}{k i:Bool}(I:Inv X pins h H s)(q:Q (.bl k) H)(e:k=i):EP X pins h Q (.bool i) s:=by
 subst e;exact⟨.bl k,H,I,rfl,q⟩
theorem QN:fE X (yan .Eq) rEq:=by
 intro C s E H x y v u Q I o l h;obtain⟨n,q⟩:=h;cases x with
 |bD=>
  cases o;cases y with
  |bD=>cases l;exact PySem.EqNone.eq_none_none (aU I q (by simp))
  |bl j=>cases l;exact PySem.EqNone.eq_none_bool (aU I q (by simp))
  |int j=>obtain⟨m,rfl⟩:=l;exact PySem.EqNone.eq_none_int (aU I q (by simp))
  |str j=>obtain⟨m,rfl⟩:=l;exact PySem.EqNone.eq_none_str (aU I q (by simp))
  |_=>exact absurd (show false=true from n) zaT
 |bl i=>
  cases o;cases y with
  |bD=>cases l;exact PySem.EqNone.eq_bool_none (aU I q (by simp))
  |bl j=>cases l;exact eq_bool (aU I q FT)
  |str j=>obtain⟨m,rfl⟩:=l;exact PySem.EqMixed.eq_bool_str (aU I q (by simp))
  |_=>exact absurd (show false=true from n) zaT
 |int i=>
  obtain⟨t,rfl⟩:=o;cases y with
  |bD=>cases l;exact PySem.EqNone.eq_int_none (aU I q (by simp))
  |int j=>obtain⟨m,rfl⟩:=l;exact eq_int (aU I q AV)
  |str j=>obtain⟨m,rfl⟩:=l;exact PySem.EqMixed.eq_int_str (aU I q (by simp))
  |_=>exact absurd (show false=true from n) zaT
 |str i=>
  obtain⟨t,rfl⟩:=o;cases y with
  |bD=>cases l;exact PySem.EqNone.eq_str_none (aU I q (by simp))
  |bl j=>cases l;exact PySem.EqMixed.eq_str_bool (aU I q (by simp))
  |int j=>obtain⟨m,rfl⟩:=l;exact PySem.EqMixed.eq_str_int (aU I q (by simp))
  |str j=>obtain⟨m,rfl⟩:=l;exact eq_str (aU I q AU)
  |_=>exact absurd (show false=true from n) zaT
 |wW i=>
  obtain⟨t,rfl⟩:=o;cases y with
  |wW j=>obtain⟨m,rfl⟩:=l;exact PySem.W.eq_bytes (aU I q AW)
  |_=>exact absurd (show false=true from n) zaT
 |_=>cases y<;>exact absurd (show false=true from n) zaT
theorem QI:fE X (yan .NotEq) rNe:=by
 intro C s E H x y v u Q I o l h;obtain⟨n,q⟩:=h;cases x with
 |bD=>
  cases o;cases y with
  |bD=>cases l;exact PySem.EqNone.ne_none_none (aU I q (by simp))
  |bl j=>cases l;exact PySem.EqNone.ne_none_bool (aU I q (by simp))
  |int j=>obtain⟨m,rfl⟩:=l;exact PySem.EqNone.ne_none_int (aU I q (by simp))
  |str j=>obtain⟨m,rfl⟩:=l;exact PySem.EqNone.ne_none_str (aU I q (by simp))
  |_=>exact absurd (show false=true from n) zaT
 |bl i=>
  cases o;cases y with
  |bD=>cases l;exact PySem.EqNone.ne_bool_none (aU I q (by simp))
  |bl j=>cases l;exact ne_bool (aU I q (congrArg not FT))
  |str j=>obtain⟨m,rfl⟩:=l;exact PySem.EqMixed.ne_bool_str (aU I q (by simp))
  |_=>exact absurd (show false=true from n) zaT
 |int i=>
  obtain⟨t,rfl⟩:=o;cases y with
  |bD=>cases l;exact PySem.EqNone.ne_int_none (aU I q (by simp))
  |int j=>obtain⟨m,rfl⟩:=l;exact ne_int (aU I q (congrArg not AV))
  |str j=>obtain⟨m,rfl⟩:=l;exact PySem.EqMixed.ne_int_str (aU I q (by simp))
  |_=>exact absurd (show false=true from n) zaT
 |str i=>
  obtain⟨t,rfl⟩:=o;cases y with
  |bD=>cases l;exact PySem.EqNone.ne_str_none (aU I q (by simp))
  |bl j=>cases l;exact PySem.EqMixed.ne_str_bool (aU I q (by simp))
  |int j=>obtain⟨m,rfl⟩:=l;exact PySem.EqMixed.ne_str_int (aU I q (by simp))
  |str j=>obtain⟨m,rfl⟩:=l;exact ne_str (aU I q (congrArg not AU))
  |_=>exact absurd (show false=true from n) zaT
 |wW i=>
  obtain⟨t,rfl⟩:=o;cases y with
  |wW j=>obtain⟨m,rfl⟩:=l;exact PySem.W.ne_bytes (aU I q (congrArg not AW))
  |_=>exact absurd (show false=true from n) zaT
 |_=>cases y<;>exact absurd (show false=true from n) zaT
theorem QJ:fE X (yan .Lt) (IB λi j=>.bl (decide (i<j))):=IU λ_ _ _ _ _ _ _ q=>lt_int q
theorem QK:fE X (yan .LtE) (IB λi j=>.bl (decide (i<=j))):=IU λ_ _ _ _ _ _ _ q=>le_int q
theorem QL:fE X (yan .Gt) (IB λi j=>.bl (decide (j<i))):=IU λ_ _ _ _ _ _ _ q=>gt_int q
theorem QM:fE X (yan .GtE) (IB λi j=>.bl (decide (j<=i))):=IU λ_ _ _ _ _ _ _ q=>ge_int q
theorem BY:fE X (yan .Lt) (λx y H Q=>∃i j,x=.str i/\y=.str j/\Q (.bl (decide (i.cps.toList<j.cps.toList))) H):=by
 intro l s o H x y v u Q I n m h;obtain⟨i,j,rfl,rfl,q⟩:=h;obtain⟨t,rfl⟩:=n;obtain⟨C,rfl⟩:=m;exact lt_str (aU I q rfl)
theorem sA:fE X (yan .NotIn) (λx y H Q=>∃i j,x=.str i/\y=.str j/\Q (.bl (!(!(Builtin.Str.occurrences j i 0 j.length 1).isEmpty))) H):=by
 intro l s o H x y v u Q I n m h;obtain⟨i,j,rfl,rfl,q⟩:=h;obtain⟨t,rfl⟩:=n;obtain⟨C,rfl⟩:=m;exact notIn_str (aU I q rfl)
theorem aK(b:Expr){op:CmpOp}(h:op≠ .In:=by decide)(h2:op≠ .NotIn:=by decide):behindInMarks op b=false:=by
 have j:(op==CmpOp.In)=false:=by cases op<;>first|rfl|exact absurd rfl h
 have i:(op==CmpOp.NotIn)=false:=by cases op<;>first|rfl|exact absurd rfl h2
 cases b<;>simp[behindInMarks,j,i]
theorem bw{op:CmpOp}{r:R2}(o:fE X (yan op) r)(E:PE X a ta)(C:PE X b tb)(t:behindInMarks op b=false):PE X (.Compare a [op] [b] pos) (PL r ta tb):=by
 intro i s j H Q I h;exact wpAny_Compare1 (OP E C I h λv u l x y G F n m q=>o i l j G x y v u Q F n m q) t
def KA(t:TE):TT:=λh H Q=>t h H λx i=>∃k,x=.bl k/\Q k i
theorem aD{op:CmpOp}{r:R2}(G:fE X (yan op) r)(P:PE X a ta)(O:PE X b tb)(L:behindInMarks op b=false):PT X (.Compare a [op] [b] pos) (KA (PL r ta tb)):=by
 intro i s j H Q I h;refine wpAny_isTrue_Compare1 (bT (P i s j H _ I h) λv q n=>?_) L;obtain⟨x,H1,W,E,F⟩:=n;refine bT (O i q j H1 _ W F) λu o m=>?_;obtain⟨y,Z,U,C,q2⟩:=m;refine bT (G i o j Z x y v u _ U E C q2) λc s3 l=>?_;obtain⟨z,Y,S,t,k,e,q3⟩:=l;subst e;cases t;exact wpAny_truthy_bool ⟨Y,S,q3⟩
def xm(r l:R2)(ta tb tc:TE):TE:=λh H Q=>ta h H λx o=>tb h o λy n=>r x y n λz i=>∃k,z=.bl k/\
 (if k=true then tc h i λj m=>l y j m Q else Q (.bl false) i)
theorem oq{op j:CmpOp}{r C:R2}(ho:fE X (yan op) r)(q:fE X (yan j) C)(ha:PE X a ta)(hb:PE X b tb)(hc:PE X c tc)(hm:lastMarks [op,j] [b,c]=false:=by with_unfolding_all rfl):PE X (.Compare a [op,j] [b,c] pos) (xm r C ta tb tc):=by
 intro i s l H Q I h;refine Compare_chain (bT (ha i s l H _ I h) λv U o=>?_) hm;obtain⟨x,H1,I1,Z,q1⟩:=o;refine chain_link (bT (hb i U l H1 _ I1 q1) λu S n=>?_);obtain⟨y,H2,I2,t,q2⟩:=n;refine bT (ho i S l H2 x y v u _ I2 Z t q2) λd P m=>?_;obtain⟨z,F,E,Y,k,e,q3⟩:=m;subst e;cases Y;refine wpAny_truthy_bool ?_;cases k with
 |false=>exact ite_ff ⟨.bl false,F,E,rfl,q3⟩
 |true=>exact ite_tt (chain_last (bT (hc i P l F _ E q3) λL O ⟨G,H4,I4,W,q4⟩=>q i O l H4 y G u L Q I4 t W q4))
theorem n5{op m:CmpOp}{r C:R2}(ho:fE X (yan op) r)(q:fE X (yan m) C)(ha:PE X a ta)(hb:PE X b tb)(hc:PE X c tc)(hm:lastMarks [op,m] [b,c]=false:=by with_unfolding_all rfl):PT X (.Compare a [op,m] [b,c] pos) (KA (xm r C ta tb tc)):=by
 intro i s n H Q I h;refine isTrue_chain (bT (ha i s n H _ I h) λv U l=>?_) hm;obtain⟨x,H1,I1,r1,q1⟩:=l;refine test_link (bT (hb i U n H1 _ I1 q1) λu S j=>?_);obtain⟨y,H2,I2,t,q2⟩:=j;refine bT (ho i S n H2 x y v u _ I2 r1 t q2) λd P o=>?_;obtain⟨z,F,E,Z,k,e,q3⟩:=o;subst e;cases Z;refine wpAny_truthy_bool ?_;cases k with
 |false=>
  obtain⟨k',e',q'⟩:=q3;cases e';exact ite_ff ⟨F,E,q'⟩
 |true=>
  refine ite_tt (test_last (bT (hc i P n F _ E q3) λL O l=>?_));obtain⟨G,H4,I4,Y,q4⟩:=l;refine bT (q i O n H4 y G u L _ I4 t Y q4) λd' s5 j=>?_;obtain⟨z2,H5,I5,W,k2,e2,q5⟩:=j;subst e2;cases W;exact wpAny_truthy_bool ⟨H5,I5,q5⟩
def Gw(K:yaI)(x:V)(H:Hp)(k:Bool):Prop:=
 match x with
 |.bD=>k=false
 |.bl b=>k=b
 |.int i=>k=(i != 0)
 |.str y=>y.length<=yag/\k=((y.length:Int) != 0)
 |.wW y=>y.size<=yag/\k=((y.size:Int) != 0)
 |.ref p=>(∃h,cF K H p h/\k= !h.isEmpty)∨(∃h,dI K H p h/\k= !h.isEmpty)∨∃j,H p=some (.dK j)/\k= !j.isEmpty
 |_=>False
theorem yx{κ:Type}{kvs:List (κ×V)}{vs:List (κ×yai)}(r:KV kvs vs):(!vs.isEmpty)= !kvs.isEmpty:=by
 cases r<;>rfl
theorem oU{its:List yai}(r:Vals xs its):(!its.toArray.isEmpty)= !xs.isEmpty:=by
 cases r<;>simp
theorem oN:(yag:Nat)<2 ^ 63:=by rw[yaf];decide
theorem LO:TR X (λx H Q=>∃k,Gw X.K x H k/\Q k H):=by
 intro F s O H x v Q I u h;obtain⟨k,e,q⟩:=h;have U:=oN;have S:yag=16777216:=yaf;cases x with
 |bD=>
  cases u;have j:k=false:=e;subst j;exact truthy_none ⟨H,I,q⟩
 |bl b=>
  cases u;have j:k=b:=e;subst j;exact wpAny_truthy_bool ⟨H,I,q⟩
 |int i=>
  obtain⟨t,rfl⟩:=u;have j:k=(i != 0):=e;subst j;exact PySem.P.truthy_int ⟨H,I,q⟩
 |str y=>
  obtain⟨t,rfl⟩:=u;obtain⟨G,j⟩:y.length<=yag/\k=((y.length:Int) != 0):=e;subst j;exact PySem.P.truthy_str (by lia) ⟨H,I.tok _,q⟩
 |wW y=>
  obtain⟨t,rfl⟩:=u;obtain⟨G,j⟩:y.size<=yag/\k=((y.size:Int) != 0):=e;subst j;exact PySem.W.truthy_bytes (by lia) ⟨H,I.tok _,q⟩
 |ref p=>
  cases u;have j:(∃o,cF X.K H p o/\k= !o.isEmpty)∨(∃o,dI X.K H p o/\k= !o.isEmpty)∨∃l,H p=some (.dK l)/\k= !l.isEmpty:=e;rcases j with⟨o,C,j⟩|⟨o,C,j⟩|⟨l,C,j⟩
  ·subst j;obtain⟨E,r,pl,hz⟩:=I.list C;have n:=r.length;exact wpAny_truthy_list pl.isList (by simp only[zaY];lia) ⟨H,I.tok _,by rw[oU r];exact q⟩
  ·subst j;obtain⟨E,r,pl,hz⟩:=I.tuple C;have n:=r.length;exact truthy_tuple pl (by simp only[zaY];lia) ⟨H,I.tok _,by rw[oU r];exact q⟩
  ·subst j;obtain⟨hz,L,vs,r,m⟩:l.length<=yag/\(p==yas)=false/\∃vs,KV l vs/\s.heap.DictOf (bN X.prog X.w) p vs:=I.hok p _ C;have n:l.length=vs.length:=Paired.length r;exact wpAny_truthy_dict L m (by lia) ⟨H,I.tok _,by rw[yx r];exact q⟩
 |_=>exact(show False from e).elim
theorem EU(u:PE X a ta)(t:∀i,isTrue a X.env i=(do let v <-i;standAt a.pos;holding [v] (truthy v))):
  PT X a (λl H Q=>ta l H λx H'=>∃k,Gw X.K x H' k/\Q k H'):=by
 intro j s l H Q I h;refine isTrue_plain (bT (u j s l H _ I h) λv n m=>?_) (t _);obtain⟨x,C,y,o,q⟩:=m;exact LO j n l C x v Q y o q
theorem yh:fE X (binaryOp .Add) (λx y H Q=>∃i j,x=.str i/\y=.str j/\i.length+j.length<=yag/\Q (.str (i++j)) H):=by
 intro l s C H x y v u Q I o n h;obtain⟨i,j,rfl,rfl,hz,q⟩:=h;obtain⟨t,rfl⟩:=o;obtain⟨m,rfl⟩:=n;exact add_str (λm tk=>⟨.str (i++j),H,I.tok _,⟨_,rfl⟩,q⟩) hz
theorem vals1{x:V}(r:Vals [x] us):∃u,us=[u]/\RelV x u:=by
 cases r with
 |cons r1 r2=>cases r2;exact⟨_,rfl,r1⟩
theorem vals2{x:V}(r:Vals [x,y] us):∃u h,us=[u,h]/\RelV x u/\RelV y h:=by
 cases r with
 |cons r1 r2=>
  cases r2 with
  |cons r3 r4=>cases r4;exact⟨_,_,rfl,r1,r3⟩
theorem Cy(o:X.calm=true):bX X (.builtin "max") (λm H Q=>∃i j,m=[.int i,.int j]/\Q (.int (if j> i then j else i)) H):=by
 intro n s v H m y Q I r h;obtain⟨i,j,rfl,q⟩:=h;obtain⟨u,x,rfl,⟨t,rfl⟩,⟨C,rfl⟩⟩:=vals2 r;refine max_two_ints (I.ok.hd o) λE tk k=>⟨_,H,I.kept k,?_,q⟩
 by_cases l:j> i
 ·rw[yIp l,yIp l];exact⟨_,rfl⟩
 ·rw[yIn l,yIn l];exact⟨_,rfl⟩
theorem Cw(o:X.calm=true):bX X (.builtin "min") (λm H Q=>∃i j,m=[.int i,.int j]/\Q (.int (if j<i then j else i)) H):=by
 intro n s v H m y Q I r h;obtain⟨i,j,rfl,q⟩:=h;obtain⟨u,x,rfl,⟨t,rfl⟩,⟨C,rfl⟩⟩:=vals2 r;refine min_two_ints (I.ok.hd o) λE tk k=>⟨_,H,I.kept k,?_,q⟩
 by_cases l:j<i
 ·rw[yIp l,yIp l];exact⟨_,rfl⟩
 ·rw[yIn l,yIn l];exact⟨_,rfl⟩
theorem CC:bX X (.type "int") (λj H Q=>(∃i,j=[.int i]/\Q (.int i) H)∨∃k,j=[.bl k]/\Q (.int (if k then 1 else 0)) H):=by
 intro l s n H j o Q I r h;rcases h with⟨i,rfl,q⟩|⟨k,rfl,q⟩
 ·obtain⟨u,rfl,t,rfl⟩:=vals1 r;exact call_int_int ⟨.int i,H,I,⟨_,rfl⟩,q⟩
 ·obtain⟨u,rfl,m⟩:=vals1 r;cases m;exact call_int_bool ⟨.int (if k then 1 else 0),H,I.tok _,⟨_,rfl⟩,q⟩
def TX(K:yaI)(x:V)(H:Hp)(n:Nat):Prop:=
 match x with
 |.str y=>y.length<=yag/\n=y.length
 |.wW y=>y.size<=yag/\n=y.size
 |.ref p=>(∃h,cF K H p h/\n=h.length)∨∃h,dI K H p h/\n=h.length
 |_=>False
theorem F4:bX X (.builtin "len") (λi H Q=>∃x n,i=[x]/\TX X.K x H n/\Q (.int n) H):=by
 intro E s G H i L Q I r h;obtain⟨x,n,rfl,e,q⟩:=h;obtain⟨u,rfl,m⟩:=vals1 r;have P:=oN;have O:yag=16777216:=yaf;cases x with
 |str y=>
  obtain⟨t,rfl⟩:=m;obtain⟨F,l⟩:y.length<=yag/\n=y.length:=e;subst l;exact len_str (by lia) ⟨.int _,H,I.tok _,⟨_,rfl⟩,q⟩
 |wW y=>
  obtain⟨t,rfl⟩:=m;obtain⟨F,l⟩:y.size<=yag/\n=y.size:=e;subst l;exact PySem.W.len_bytes (by lia) ⟨.int _,H,I.tok _,⟨_,rfl⟩,q⟩
 |ref p=>
  cases m;have l:(∃i,cF X.K H p i/\n=i.length)∨∃i,dI X.K H p i/\n=i.length:=e;rcases l with⟨i,C,l⟩|⟨i,C,l⟩
  ·subst l;obtain⟨v,o,pl,hz⟩:=I.list C;have j:=o.length;exact Calls.call_len_list pl.isList (by simp only[zaY];lia) ⟨.int i.length,H,I.tok _,⟨_,by simp only[zaY];rw[j]⟩,q⟩
  ·subst l;obtain⟨v,o,pl,hz⟩:=I.tuple C;have j:=o.length;exact len_tuple pl (by simp only[zaY];lia) ⟨.int i.length,H,I.tok _,⟨_,by simp only[zaY];rw[j]⟩,q⟩
 |_=>exact(show False from e).elim
end
structure zm(h:Heap)(x dx C:Addr)(mA:Str->Option yai):Prop where
 obj:h.get? x=some (zbZ C dx)
 ns:h.Ns1 dx mA
 ne:dx≠x
theorem Cd{m:Addr}{mA:Str->Option yai}(n:h.Ns1 m mA):∃j,h.get? m=some j/\∀name,PySem.W.lookIn name j=some (mA name):=by
 obtain⟨o,l,E,u,hd,x,_,v⟩:=n;refine⟨o,u,λname=>?_⟩;have e:=v name;unfold nsFind findBy at e;rw[<-Array.find?_toList] at e;unfold PySem.W.lookIn;rw[hd];dsimp only;split
 ·rename_i y q;rw[q] at e;exact congrArg some e
 ·rename_i q;rw[q] at e;have a:l.toList.any (·.refKey)=false:=by
   rw[zaZ];intro y s;obtain⟨z,t,i⟩:=x y (Array.mem_toList_iff.mp s);simp[DictEntry.refKey,i]
  have C:¬l.toList.any (·.refKey)=true:=by rw[a];exact zaT
  rw[yIn C];exact congrArg some e
theorem zm.look{x i:Addr}{mA:Str->Option yai}(I:zm h x i C mA):∃a,PySem.W.InstAt h x (zbZ C i) C (some a)/\∀name,PySem.W.lookIn name a=some (mA name):=
 by obtain⟨a,j,l⟩:=Cd I.ns;exact⟨a,⟨I.obj,rfl,rfl,j⟩,l⟩
section
variable {x dx:Addr}{mA:Str->Option yai}{v:yai}
theorem get_map{a:Bool}(X:K.In s.heap)(I:zm s.heap x dx C mA)(n:zbH K C name=true)(m:zbm K C=true)(o:zce K (.ref C) name=some none)(j:mA name=some v)(i:PySem.W.handedIn v=true)(h:Q v {s with toks:=s.toks+1}):
  yar (model prog w) A (getAttr (.ref x) name a) Q E s:=by
 obtain⟨q,J,l⟩:=I.look;exact PySem.W.get_value X J (PySem.W.plainGet_of n).1 (PySem.W.findObj_own m o rfl (by rw[l,j])) i h
theorem FH{pl:Sem Bool}{Q:yai×List yai->yah->Prop}(X:K.In s.heap)(I:zm s.heap x dx C mA)(a:zbH K C name=true)(n:zce K (.ref C) name=some (some (.ref f)))(l:zcE K (.ref f)=true)(j:mA name=none)(h:Q (.ref f,[.ref x]) s):
  yar (model prog w) A (yaC (.ref x) name pl) Q E s:=by
 obtain⟨i,J,m⟩:=I.look;exact PySem.W.method_fn X J (PySem.W.plainGet_of a).1 (PySem.W.plainGet_of a).2 n (beq_iff_eq.mp l) (by show(PySem.W.lookIn name i).map (·.isSome)=some false;rw[m,j];rfl) h
theorem HU{ns:List Str}{Q:Unit->yah->Prop}(X:K.In s.heap)(I:zm s.heap x dx C mA)(u:zce K (.ref C) "__setattr__"=some (some (.builtin "object.__setattr__")))(F:PySem.W.plainOver K C=true)(t:PySem.W.takerIn K C name=some none)(G:zbm K C=true)(hw:PySem.Within mA ns)(hsz:ns.length<=yag)(h:∀h',zm h' x dx C (λy=>if y=name then some v else mA y)->Heap.SameBut dx s.heap h'->Q () {s with heap:=h',toks:=s.toks+2}):
  yar (model prog w) A (setAttr (.ref x) name v) Q E s:=by
 obtain⟨P,J,U⟩:=I.look;refine PySem.W.set_plain X J u (PySem.W.osa_open (s:={s with toks:=s.toks+1}) (r:=none) X J F t λb=>?_);obtain⟨Y,H,n⟩:=PySem.W.any_some G;have q:s.heap.get? x=some ⟨.ref C,some dx,.plain,#[]⟩:=I.obj;refine yaa (yab (yaa (yaa (wpAny_loadPart q (yaa (PySem.W.Looks.here (s:={s with toks:=s.toks+1}) (PySem.W.looks_clsIn X H) ?_))))));rw[n];refine yab (a:=some dx) (yaa (yab (yaa ?_)));refine wpAny_nsSet1 (s:={s with toks:=s.toks+1}) I.ns λh' j i=>?_;obtain⟨S,L,O,l,m,o⟩:=j.count (PySem.Within.cons name v hw);refine yaa (wpAny_lookBehind l (by rw[m];exact pastItsLine_dict (zcy o (by rw[zbq];lia))) ?_);exact yab (h _ ⟨(i.2 _ (Ne.symm I.ne)).trans I.obj,j,I.ne⟩ i)
theorem Ff{R:Result->yah->Prop}{vs:List yai}(X:K.In s.heap)(a:PySem.W.makesIn K C=true)(hi:zce K (.ref C) "__init__"=some (some (.ref f)))(i:PySem.W.typeIn K (.ref f)=some (.type "function"))(h:codeAny (model prog w) (A.under (.builtin "type.__call__" ⟨.ref C::vs,kw⟩)) (.call (.ref f) ⟨.ref (s.heap.objs.size+1)::vs,kw⟩) (PySem.W.InitBack (s.heap.objs.size+1) R) {s with heap:=(s.heap.push zbn).push (zbZ C s.heap.objs.size)}):
  codeAny (model prog w) A (.call (.ref C) ⟨vs,kw⟩) R s:=by
 obtain⟨j,g,d,t,os⟩:=s;exact PySem.W.make_core (PySem.W.makes_of X a) (PySem.W.looks_findIn X hi) (λself=>PySem.W.bind_fn X self i) (.inl rfl) h
end
noncomputable def gh(f:Str)(v:V):List (Str×V)->List (Str×V)
 |[]=>[(f,v)]
 |(g,x)::r=>if g=f then(g,v)::r else(g,x)::gh f v r
theorem l9(f g:Str)(v:V):∀fs:List (Str×V),(gh f v fs).lookup g=if g=f then some v else fs.lookup g
 |[]=>by
  show zcI g [(f,v)]=_;by_cases h:g=f
  ·have a:(g==f)=true:=beq_iff_eq.mpr h;simp only[zcI,a,yIp h]
  ·have a:(g==f)=false:=beq_eq_false_iff_ne.mpr h;simp only[zcI,a,yIn h]
 |(k,x)::r=>by
  have j:=l9 f g v r;rw[show gh f v ((k,x)::r)=(if k=f then(k,v)::r else(k,x)::gh f v r) from rfl];by_cases i:k=f
  ·rw[yIp i];by_cases h:g=k
   ·have a:(g==k)=true:=beq_iff_eq.mpr h;simp only[zcI,a,yIp (h.trans i)]
   ·have a:(g==k)=false:=beq_eq_false_iff_ne.mpr h;simp only[zcI,a,yIn (λe:g=f=>h (e.trans i.symm))]
  ·rw[yIn i];by_cases h:g=k
   ·have a:(g==k)=true:=beq_iff_eq.mpr h;simp only[zcI,a,yIn (λe:g=f=>i (h.symm.trans e))]
   ·have a:(g==k)=false:=beq_eq_false_iff_ne.mpr h;simp only[zcI,a];exact j
theorem lR(f:Str)(v:V):∀fs:List (Str×V),f∈(gh f v fs).map (·.1)/\∀g,g∈fs.map (·.1)->g∈(gh f v fs).map (·.1)
 |[]=>⟨by simp[gh],λg h=>by simp at h⟩
 |(k,x)::r=>by
  obtain⟨j,i⟩:=lR f v r;rw[show gh f v ((k,x)::r)=(if k=f then(k,v)::r else(k,x)::gh f v r) from rfl];by_cases a:k=f
  ·rw[yIp a];subst a;exact⟨by simp,λg h=>by simpa using h⟩
  ·rw[yIn a];refine⟨?_,λg h=>?_⟩
   ·rw[zcj];exact zay _ j
   ·rw[zcj] at h⊢;rcases zci.mp h with e|e
    ·exact zci.mpr (.inl e)
    ·exact zay _ (i g e)
theorem mh(f:Str)(v:V):∀fs:List (Str×V),(gh f v fs).length<=fs.length+1
 |[]=>by simp[gh]
 |(k,x)::r=>by
  have h:=mh f v r;rw[show gh f v ((k,x)::r)=(if k=f then(k,v)::r else(k,x)::gh f v r) from rfl];by_cases a:k=f
  ·rw[yIp a,zbq,zbq];lia
  ·rw[yIn a,zbq,zbq];lia
theorem jg.some_of{o:Option yai}(r:jg (some v) o):∃u,o=some u/\RelV v u:=by
 cases o with
 |none=>exact(show False from r).elim
 |some u=>exact⟨u,rfl,r⟩
theorem jg.none_of{o:Option yai}(r:jg none o):o=none:=by
 cases o with
 |none=>rfl
 |some u=>exact(show False from r).elim
theorem Cp(r:RelV v u):PySem.W.handedIn u=true:=by
 cases v with
 |bD=>cases(show u=Value.none from r);rfl
 |bl b=>cases(show u=Value.bool b from r);rfl
 |int i=>obtain⟨t,e⟩:=(show∃t,u=Value.int i t from r);cases e;rfl
 |str x=>obtain⟨t,e⟩:=(show∃t,u=Value.str x t from r);cases e;rfl
 |wW b=>obtain⟨t,e⟩:=(show∃t,u=Value.bytes b t from r);cases e;rfl
 |Od b=>obtain⟨t,e⟩:=(show∃t,u=Value.float b t from r);cases e;rfl
 |ref a=>cases(show u=Value.ref a from r);rfl
 |ty n=>cases(show u=Value.type n from r);rfl
section
variable {dx:Addr}{fs fs':List (Str×V)}
theorem nu(hok:ji P w H h)(e:H a=some (.ins C dx fs)):∃mA,zm h a dx C mA/\(∀f,jg (fs.lookup f) (mA f))/\PySem.Within mA (fs.map (·.1))/\fs.length<=1000/\H dx=some (.own a):=by
 obtain⟨d,z,ne,i,mA,n,r,q⟩:=(show bg P w H h a (.ins C dx fs) from hok a _ e)
 exact⟨mA,⟨i,n,ne⟩,r,q,z,d⟩
end
structure C4(K:yaI)(C:Addr):Prop where
 pg:zbH K C Str.empty=true
 hd:zbm K C=true
 po:PySem.W.plainOver K C=true
 sa:zce K (.ref C) "__setattr__"=some (some (.builtin "object.__setattr__"))
theorem C4.get(c:C4 K C)(f:Str):zbH K C f=true:=c.pg
def e8(K:yaI)(C:Addr)(f:Str):Prop:=zce K (.ref C) f=some none
theorem e8.Pz{f:Str}(n:e8 K C f):PySem.W.takerIn K C f=some none:=by
 unfold PySem.W.takerIn;rw[show zce K (.ref C) f=some none from n];rfl
structure Meth(K:yaI)(C:Addr)(m:Str)(f:Addr):Prop where
 at_:zce K (.ref C) m=some (some (.ref f))
 fn:zcE K (.ref f)=true
 kp:zcf K (.ref f)=true
section
variable {σ:St}{dx:Addr}{fs:List (Str×V)}{f:Str}
theorem yE(I:Inv X pins σ H s)(e:H a=some (.ins C dx fs))(c:C4 X.K C)(n:e8 X.K C f)(l:fs.lookup f=some v)(h:∀u s',Inv X pins σ H s'->RelV v u->Q u s'):yar (model X.prog X.w) A (getAttr (.ref a) f b) Q E s:=by
 obtain⟨mA,O,r,_,_,_⟩:=nu I.hok e;obtain⟨u,i,ru⟩:=jg.some_of (v:=v) (o:=mA f) (by rw[<-l];exact r f);exact get_map I.mq O (c.get f) c.hd n i (Cp ru) (h u _ (I.tok _) ru)
theorem yD{m:Str}{g:Addr}{pl:Sem Bool}{Q:yai×List yai->yah->Prop}(I:Inv X pins σ H s)(e:H a=some (.ins C dx fs))(c:C4 X.K C)(k:Meth X.K C m g)(l:fs.lookup m=none)(h:Q (.ref g,[.ref a]) s):yar (model X.prog X.w) A (yaC (.ref a) m pl) Q E s:=by
 obtain⟨mA,O,r,_,_,_⟩:=nu I.hok e;have i:mA m=none:=jg.none_of (by rw[<-l];exact r m);exact FH I.mq O (c.get m) k.at_ k.fn i h
theorem xu{Q:Unit->yah->Prop}(I:Inv X pins σ H s)(e:H a=some (.ins C dx fs))(c:C4 X.K C)(n:e8 X.K C f)(L:fs.length<1000)(m:RelV y u)(h:∀s',Inv X pins σ (upd H a (.ins C dx (gh f y fs))) s'->Q () s'):yar (model X.prog X.w) A (setAttr (.ref a) f u) Q E s:=by
 obtain⟨mA,O,r,j,_,l⟩:=nu I.hok e;have hz:(fs.map (·.1)).length<=yag:=by rw[zbK,yaf];lia
 refine HU I.mq O c.sa c.po n.Pz c.hd j hz λF i sb=>h _ ?_;have hd:∃o,F.get? dx=some o:=by obtain⟨o,_,_,G,_⟩:=i.ns;exact⟨o,G⟩
 refine I.write (x:=a) (e:=dx) (by rw[e];exact True.intro) (.inr l) (λb q v z=>(sb.2 b v).trans z) hd ?_;refine⟨by rw[aP O.ne];exact l,?_,O.ne,i.obj,_,i.ns,λg=>?_,λg t=>?_⟩
 ·have:=mh f y fs;lia
 ·show jg ((gh f y fs).lookup g) (if g=f then some u else mA g);rw[l9];by_cases q:g=f
  ·rw[yIp q,yIp q];exact m
  ·rw[yIn q,yIn q];exact r g
 ·by_cases q:g=f
  ·rw[q];exact(lR f y fs).1
  ·refine(lR f y fs).2 g (j g λz=>t ?_);show(if g=f then some u else mA g)=none;rw[yIn q];exact z
theorem Inv.made(I:Inv X pins σ H s):Inv X pins σ (upd (upd H s.heap.objs.size (.own (s.heap.objs.size+1))) (s.heap.objs.size+1) (.ins C s.heap.objs.size []))
  {s with heap:=(s.heap.push zbn).push (zbZ C s.heap.objs.size)}:=by
 have h:(s.heap.push zbn).get? s.heap.objs.size=some zbn:=zaK s.heap rfl;have m:((s.heap.push zbn).push (zbZ C s.heap.objs.size)).get? (s.heap.objs.size+1)=some (zbZ C s.heap.objs.size):=by
  have:=zaK (s.heap.push zbn) (o:=zbZ C s.heap.objs.size) rfl
  rwa [zch] at this
 have l:(s.heap.push zbn).Ns s.heap.objs.size (λ_=>none):=⟨zbn,#[],_,h,rfl,(λe j=>absurd j (by simp)),λ_=>rfl⟩
 have n:=I.laid (a:=s.heap.objs.size) (o:=.own (s.heap.objs.size+1)) (h':=s.heap.push zbn) (t':=s.toks) (λb u q=>zaq _ q) (zcK _) ⟨_,h⟩;refine n.laid (a:=s.heap.objs.size+1) (o:=.ins C s.heap.objs.size []) (t':=s.toks) (λb u q=>zaq _ q) (Nat.le_of_eq (zch _ _)) ?_;have ne:s.heap.objs.size≠s.heap.objs.size+1:=zcx (zbF _);refine⟨by rw[aP ne,bG],zcL _,ne,m,λ_=>none,(Heap.Ns1.of_empty l).at λo q=>zaq _ q,λ_=>True.intro,λy i=>absurd rfl i⟩
theorem J6{f:Str}{s:yah}(i:attributeBase e f env (eval e env)=eval e env)(h:yar (model prog w) A (eval e env) (λo a=>yar (model prog w) A (getAttr o f true) Q E a) E s):yar (model prog w) A (eval (.Attribute e f pos) env) Q E s:=
 Attribute_any_ h (by rw[arm_eval_Attribute,i])
end
def Ss(K:yaI)(j:TE)(f:Str):TE:=λi H Q=>j i H λx h=>∃a C l fs v,x=.ref a/\h a=some (.ins C l fs)/\C4 K C/\e8 K C f/\fs.lookup f=some v/\Q v h
def SI(K:yaI)(m l:TE)(f:Str):TS:=λD h H=>l h H λy n=>m h n λx j=>∃a C i fs,x=.ref a/\j a=some (.ins C i fs)/\C4 K C/\e8 K C f/\fs.length<1000/\
 D.nx h (upd j a (.ins C i (gh f y fs)))
section
variable {o:Expr}{f:Str}{tpos:Pos}{ta tv:TE}
theorem dj(y:PE X e ta)(E:attributeBase e f X.env (eval e X.env)=eval e X.env):PE X (.Attribute e f pos) (Ss X.K ta f):=by
 intro i s m H Q I h;refine J6 E (bT (y i s m H _ I h) λu U j=>?_);obtain⟨x,O,L,t,a,C,W,fs,v,ex,F,c,n,l,q⟩:=j;subst ex;obtain rfl:u=Value.ref a:=t;exact yE L F c n l λP S G ru=>⟨v,O,G,ru,q⟩
theorem n8(P:PE X o ta)(L:PE X value tv)(O:yat value (some (.Attribute o f pos')) pos.line X.env=pure false):PS X (.Assign [.Attribute o f pos'] value pos) (SI X.K ta tv f):=by
 intro i s j H D I h;refine plainObj_wpAny_Assign_Attribute (bT (L i s j H _ I h) λu v t=>?_) O;obtain⟨y,Y,W,E,q⟩:=t;refine bT (P i v j Y _ W q) λG s2 m=>?_;obtain⟨x,H2,U,F,a,C,dx,fs,ex,Q,c,n,l,q2⟩:=m;subst ex;obtain rfl:G=Value.ref a:=F;exact xu U Q c n l E λZ S=>⟨j,_,S,q2⟩
end
section
variable {σ:St}{c:yai}
inductive kE(K:yaI)(H:Hp):V->yai->Prop where
 |bD:kE K H .bD (.type "NoneType")
 |bl (x:Bool):kE K H (.bl x) (.type "bool")
 |int (i:Int):kE K H (.int i) (.type "int")
 |str (x:Str):kE K H (.str x) (.type "str")
 |Od (x:UInt64):kE K H (.Od x) (.type "float")
 |lst {a:Addr}{xs:List V} (e:H a=some (.lst xs)):kE K H (.ref a) (.type "list")
 |AJ {a:Addr}{o:Obj}{xs:List V} (e:H a=some (.AJ o (.lst xs))):kE K H (.ref a) (.type "list")
 |tup {a:Addr}{xs:List V} (e:H a=some (.tup xs)):kE K H (.ref a) (.type "tuple")
 |dK {a:Addr}{kvs:List (Key×V)} (e:H a=some (.dK kvs)):kE K H (.ref a) (.type "dict")
 |dT {a:Addr}{kvs:List (List Key×V)} (e:H a=some (.dT kvs)):kE K H (.ref a) (.type "dict")
 |ins {a C dx:Addr}{fs:List (Str×V)} (e:H a=some (.ins C dx fs)) (cl:C4 K C) (ha:zce K (.ref C) "__class__"=some (some (.builtin "object.__class__")))
   (hn:PySem.W.specialIn K (.builtin "object.__class__") "__get__"=some (some (.builtin "getset_descriptor.__get__"))) (htk:PySem.W.takesIn K (.builtin "object.__class__")=some true)
   (hm:PySem.W.mroIn K C (.type "object")=some true):kE K H (.ref a) (.ref C)
theorem Cj{x:V}{t:yai}(I:Inv X pins σ H s)(j:RelV x u)(ty:kE X.K H x t)(e:PySem.W.kitOne X.K t c=some b)(h:∀tk,Q (.bool b) {s with toks:=tk}):
  yar (model X.prog X.w) A (call (.builtin "isinstance") [u,c]) Q E s:=by
 cases ty with
 |bD=>cases(show u=Value.none from j);exact zca PySem.W.kitx_none I.mq True.intro e (λz=>nomatch z) h
 |bl y=>cases(show u=Value.bool y from j);exact zca PySem.W.kitx_bool I.mq True.intro e (λz=>nomatch z) h
 |int i=>obtain⟨t,q⟩:=(show∃t,u=Value.int i t from j);cases q;exact zca PySem.W.kitx_int I.mq True.intro e (λz=>nomatch z) h
 |str y=>obtain⟨t,q⟩:=(show∃t,u=Value.str y t from j);cases q;exact zca PySem.W.kitx_str I.mq True.intro e (λz=>nomatch z) h
 |Od y=>obtain⟨t,q⟩:=(show∃t,u=Value.float y t from j);cases q;exact zca PySem.W.kitx_float I.mq True.intro e (λz=>nomatch z) h
 |@lst a l ea=>
  cases(show u=Value.ref a from j);obtain⟨_,_,n,_,h1⟩:=(show bg X.prog X.w H s.heap a (.lst l) from I.hok a _ ea)
  exact zca PySem.W.kitx_list I.mq ⟨_,h1,rfl⟩ e (λz=>nomatch z) h
 |@AJ a ob l ea=>
  cases(show u=Value.ref a from j);obtain⟨_,_,_,n,_,h1⟩:=(show bg X.prog X.w H s.heap a (.AJ ob (.lst l)) from I.hok a _ ea)
  exact zca PySem.W.kitx_list I.mq ⟨_,h1,rfl⟩ e (λz=>nomatch z) h
 |@tup a l ea=>
  cases(show u=Value.ref a from j);obtain⟨_,_,_,p⟩:=(show bg X.prog X.w H s.heap a (.tup l) from I.hok a _ ea)
  obtain⟨o,h1,h2,_⟩:=p;exact zca PySem.W.kitx_tuple I.mq ⟨o,h1,h2⟩ e (λz=>nomatch z) h
 |@dK a kvs ea=>
  cases(show u=Value.ref a from j);obtain⟨_,_,vs,_,p⟩:=(show bg X.prog X.w H s.heap a (.dK kvs) from I.hok a _ ea)
  obtain⟨o,m,v,h1,h2,_⟩:=p;exact zca PySem.W.kitx_dict I.mq ⟨o,h1,h2.1⟩ e (λz=>nomatch z) h
 |@dT a kvs ea=>
  cases(show u=Value.ref a from j);obtain⟨_,_,l,_,o,m,v,h1,h2,_⟩:=(show bg X.prog X.w H s.heap a (.dT kvs) from I.hok a _ ea)
  exact zca PySem.W.kitx_dict I.mq ⟨o,h1,h2.1⟩ e (λz=>nomatch z) h
 |@ins a C dx fs ea cl ha hn htk hm=>
  cases(show u=Value.ref a from j);obtain⟨mA,O,_⟩:=nu I.hok ea;obtain⟨F,J,_⟩:=O.look;exact zca (PySem.W.kitx_own (cl.get _) cl.hd ha hn htk hm) I.mq J e (λz=>nomatch z) h
end
structure aV(k:Nat)(A:yal):Prop where
 hd:A.handled=none
 dp:A.depth+3*k+5<recursionLimit
 un:A.units+16*k+200<cLine
 gd:A.guards=some []
theorem aV.mono{k:Nat}(r:aV k A)(h:j<=k):aV j A:=⟨r.hd,by have:=r.dp;lia,by have:=r.un;lia,r.gd⟩
theorem aV.deeper{k:Nat}(r:aV (k+1) A)(env:Env):aV k (A.deeper env):=
 ⟨r.hd,by have:=r.dp;show A.depth+1+3*k+5<_;lia,by have:=r.un;show A.units+3+16*k+200<_;lia,r.gd⟩
theorem yt:(A.under (.builtin "type.__call__" ⟨.ref C::us,kw⟩)).depth=A.depth+1:=by
 first|rfl|simp[Around.under,Code.weight,Code.isCreation,Code.isGuard,Code.isCaller,Code.frames,Code.isFrame,guardIds]
theorem yr:(A.under (.builtin "type.__call__" ⟨.ref C::us,kw⟩)).units=A.units+1:=by
 first|rfl|simp[Around.under,Code.cUnits,Code.frames,Code.isFrame]
theorem aV.make{k:Nat}(r:aV (k+1) A)(C:Addr)(us:List yai)(a:List (Str×yai)):aV k (A.under (.builtin "type.__call__" ⟨.ref C::us,a⟩)):=
 ⟨r.hd,by have:=r.dp;rw[yt];lia,by have:=r.un;rw[yr];lia,r.gd⟩
theorem aV.depth{k:Nat}(r:aV k A):A.depth<recursionLimit:=by have:=r.dp;lia
theorem aV.units{k:Nat}(r:aV k A):A.units+64<cLine:=by have:=r.un;lia
def HJ:TA:=λ_ H Q=>Q [] H
def Dw(i:TE)(tr:TA):TA:=λa H Q=>i a H λx l=>tr a l λh j=>Q (x::h) j
section
variable {es:List Expr}{te:TE}{t:TA}
theorem ao:PA X [] HJ:=λ_ _ _ _ H Q I h=>zbp ⟨[],H,I,.nil,h⟩
theorem IK(E:PE X e te)(C:PA X es t)(y:yao (e::es) X.env=(false,eval e X.env)::yao es X.env:=by rfl):PA X (e::es) (Dw te t):=by
 intro j a s l H Q I h;rw[y];show yar _ _ (spliced ((false,eval e X.env)::yau j (yao es X.env))) _ _ s;refine zaX (bT (E a s l H _ I h) λu n i=>?_);obtain⟨x,O,G,q,v⟩:=i;refine bT (C j a n l O _ G v) λP S i=>?_;obtain⟨m,L,F,o,q2⟩:=i;exact⟨x::m,L,F,.cons q o,q2⟩
def PD(t:TA):TE:=λi H Q=>t i H λa h=>a.length<=yag/\∀p,h p=none->Q (.ref p) (upd h p (.tup a))
def PR(t:TA):TE:=λi H Q=>t i H λa h=>a.length<=yag/\∀p,h p=none->Q (.ref p) (upd h p (.lst a))
theorem aM{x1}(h:PA X es t):PE X (.Tuple es x1 pos) (PD t):=by
 intro a s n H Q I x;refine wpAny_Tuple_spliced (bT (h pos a s n H _ I x) λv i j=>?_);obtain⟨o,m,l,r,z,q⟩:=j;refine⟨by rw[<-r.length];exact z,?_⟩;have y:m i.heap.objs.size=none:=l.hok.fresh (zcK _);refine⟨.ref i.heap.objs.size,upd m i.heap.objs.size (.tup o),l.laid (t':=i.toks) (λb u e=>zaq _ e) (zcK _) ?_,rfl,q _ y⟩;exact⟨z,v,r,⟨_,zaK _ rfl,rfl,_,rfl⟩⟩
theorem aR(h:PA X es t):PE X (.List es pos) (PR t):=by
 intro a s n H Q I x;refine wpAny_List_spliced (bT (h pos a s n H _ I x) λv i j=>?_);obtain⟨o,m,l,r,z,q⟩:=j;refine⟨by rw[<-r.length];exact z,?_⟩;have y:m i.heap.objs.size=none:=l.hok.fresh (zcK _);refine⟨.ref i.heap.objs.size,upd m i.heap.objs.size (.lst o),l.laid (t':=i.toks) (λb u e=>zaq _ e) (zcK _) ?_,rfl,q _ y⟩;exact⟨z,v,0,r,zaK _ rfl⟩
end
abbrev Sp:=List V->Hp->VK->XK->Prop
abbrev Hl:=List Env->Hp->yah->XK->yai->yah->Prop
structure zp(P:yaj)(w:yak)(K:yaI)(mg:Str->Option yai)(base:Heap)(A:yal)(outer:List Env)(s:yah)(H:Hp):Prop where
 frames:A.frames=some outer
 mod:Mod K mg base
 bs:∀b o,base.get? b=some o->s.heap.get? b=some o/\H b=none
 J3:base.objs.size<=s.heap.objs.size
 mR:s.heap.FunFrames base outer
 Oc:∀b∈frs outer,H b=none
 hok:ji P w H s.heap
 bare:AllBare s.gens
def CE(outer:List Env)(P:yaj)(w:yak)(H:Hp)(s:yah)(Q:VK)(u:yai)(s':yah):Prop:=
 ∃v a,s'.os=s.os/\AllBare s'.gens/\Un (frs outer) [] H a s.heap s'.heap/\ji P w a s'.heap/\RelV v u/\Q v a
def CR(CX:Hl)(outer:List Env)(P:yaj)(w:yak)(H:Hp)(s:yah)(Q:VK)(E:XK)(r:Result)(s':yah):Prop:=
 match r with
 |.ok (.ret u)=>CE outer P w H s Q u s'
 |.ok _=>False
 |.error e=>CX outer H s E e s'
structure dS(P:yaj)(w:yak)(K:yaI)(mg:Str->Option yai)(base:Heap)(CX:Hl)(k:Nat)(f:Addr)(fd:yap)(ps:List Str)(sp:Sp):Prop where
 len:∀vs H Q E,sp vs H Q E->vs.length=ps.length
 run:∀(A:yal)(outer:List Env)(s:yah)(H:Hp)(args:Args)(us:List yai)(vs:List V)(Q:VK)(E:XK),aV k A->zp P w K mg base A outer s H->yaA s fd args (ps.zip us)->Vals vs us->sp vs H Q E->
  codeAny (model P w) A (.call (.ref f) args) (CR CX outer P w H s Q E) s
theorem dS.imp{CX:Hl}{k:Nat}{sp a:Sp}(F:dS P w K mg base CX k f fd ps sp)(h:∀vs H Q E,a vs H Q E->sp vs H Q E):dS P w K mg base CX k f fd ps a:=
 ⟨λvs H Q E q=>F.len vs H Q E (h _ _ _ _ q),λA outer s H i j vs Q E n o t l m=>F.run A outer s H i j vs Q E n o t l (h _ _ _ _ m)⟩
theorem zp.make{outer:List Env}(e:zp P w K mg base A outer s H)(C:Addr)(us:List yai)(a:List (Str×yai)):
  zp P w K mg base (A.under (.builtin "type.__call__" ⟨.ref C::us,a⟩)) outer s H:=⟨by first|exact e.frames|(simpa[Around.under,Code.envs,Code.isFrame,pushEnvs] using e.frames),e.mod,e.bs,e.J3,e.mR,e.Oc,e.hok,e.bare⟩
section
variable {σ:St}{s':yah}
theorem Inv.Ro(I:Inv X pins σ H s):zp X.prog X.w X.K X.mg X.base X.A X.stack s H:=
 ⟨I.ok.frames,I.ok.mod,I.bs,zcy I.ok.J3 I.sz,I.stack,I.zA,I.hok,I.bare⟩
theorem Inv.after{Q:VK}(I:Inv X pins σ H s)(h:CE X.stack X.prog X.w H s Q u s'):EP X pins σ Q u s':=by
 obtain⟨v,j,os,bare,un,hok,r,q⟩:=h;obtain⟨i,g,d,t,a⟩:=s';obtain rfl:a=s.os:=os;exact⟨v,j,I.call (h':=i) (g':=g) (d':=d) (t':=t) (ch:=[]) un hok bare (λb z=>absurd z (by simp)),r,q⟩
end
def zy(sp:Sp)(a:List V)(E:XK)(t:TA):TE:=λh H Q=>t h H λvs i=>sp (vs++a) i Q E
def KH(C:Addr)(m:Str)(sp:Sp)(h:List V)(E:XK)(l:TE)(t:TA):TE:=λi H Q=>l i H λx j=>∃a n fs,x=.ref a/\j a=some (.ins C n fs)/\fs.lookup m=none/\
 t i j λvs o=>sp (x::(vs++h)) o Q E
def PN(C:Addr)(sp:Sp)(h:List V)(E:XK)(t:TA):TE:=λj H Q=>t j H λvs i=>∀x a,i x=none->i a=none->a≠x->
 sp (.ref x::(vs++h)) (upd (upd i a (.own x)) x (.ins C a [])) (λv l=>v=.bD/\Q (.ref x) l) E
def Binds(K:yaI)(fd:yap)(ps:List Str)(ds:List yai):Prop:=
 ∀(s:yah)(a:List yai),K.In s.heap->(a++ds).length=ps.length->yaA s fd ⟨a,[]⟩ (ps.zip (a++ds))
theorem Binds.all(h:∀us:List yai,us.length=ps.length->yaz fd ⟨us,[]⟩=pure (ps.zip us)):Binds K fd ps []:=λs us _ a=>by
 rw[zbL] at a⊢;exact .of_eq (h us a)
def Passes(CX:Hl)(X:Cx)(E:XK):Prop:=∀(a:List (Addr×Obj))(i:St)(H:Hp)(s:yah)(e:yai)(h:yah),Inv X a i H s->CX X.stack H s E e h->X.xe e h
section
variable {CX:Hl}{k:Nat}{sp:Sp}{dvs:List V}{ds:List yai}{E:XK}{m:Str}{o:Expr}{es:List Expr}{ta:TE}{t:TA}
theorem xY{i:St}{Q:VK}{vs:List V}(F:dS X.prog X.w X.K X.mg X.base CX k f fd ps sp)(q:aV k X.A)(x:Binds X.K fd ps ds)(hd:Vals dvs ds)(n:Passes CX X E)(I:Inv X pins i H s)(r:Vals vs us)(h:sp (vs++dvs) H Q E):yar (model X.prog X.w) X.A (call (.ref f) us) (EP X pins i Q) X.xe s:=by
 have j:Vals (vs++dvs) (us++ds):=r.append hd;have v:(us++ds).length=ps.length:=by rw[<-j.length];exact F.len _ _ _ _ h
 refine yaH (yax (F.run X.A X.stack s H ⟨us,[]⟩ (us++ds) (vs++dvs) Q E q I.Ro (x s us I.mq v) j h) λr l a=>?_);cases r with
 |error e=>exact n pins i H s e l I a
 |ok fl=>
  cases fl with
  |ret u=>exact I.after a
  |next=>exact False.elim a
  |brk=>exact False.elim a
  |cont=>exact False.elim a
theorem IG(F:dS X.prog X.w X.K X.mg X.base CX k f fd ps sp)(y:aV k X.A)(L:Gl X x)(C:X.mg x=some (.ref f))(G:zcf X.K (.ref f)=true)(P:Binds X.K fd ps ds)(hd:Vals dvs ds)(v:Passes CX X E)(S:PA X (e::es) t)(l:(x==("__debug__":Str))=false:=by decide)(O:yao (e::es) X.env=(false,eval e X.env)::yao es X.env:=by rfl)(j:(yau pos (yao es X.env)).any (·.1)=false:=by rfl):
  PE X (.Call (.Name x p) (e::es) [] pos) (zy sp dvs E t):=by
 intro a s u H Q I h;refine wpAny_Call_Name_kw (nq I L C ?_ l);refine PySem.W.callWith_K (h₀:=X.base) I.ok.mod.Sh G (bT (S pos a s u H _ I h) λU Y i=>?_) O j;obtain⟨vs,Z,n,r,q⟩:=i;refine⟨n.mq,?_⟩;exact xY F y P hd v n r q
theorem EY(F:dS X.prog X.w X.K X.mg X.base CX k f fd ps sp)(l:aV k X.A)(u:Gl X x)(n:X.mg x=some (.ref f))(q:zcf X.K (.ref f)=true)(v:Binds X.K fd ps ds)(hd:Vals dvs ds)(j:Passes CX X E)(a:(x==("__debug__":Str))=false:=by decide):PE X (.Call (.Name x p) [] [] pos) (zy sp dvs E HJ):=by
 intro i s y H Q I h;refine wpAny_Call_Name_kw (nq I u n ?_ a);exact PySem.W.callWith_K0 I.mq q (xY (us:=[]) F l v hd j I .nil h)
theorem cP{pl:Sem Bool}(he:PE X o ta)(c:C4 X.K C)(G:Meth X.K C m f)(F:dS X.prog X.w X.K X.mg X.base CX k f fd ps sp)(Z:aV k X.A)(hb:Binds X.K fd ps ds)(hd:Vals dvs ds)(U:Passes CX X E)(ha:PA X (e::es) t)(n:yao (e::es) X.env=(false,eval e X.env)::yao es X.env:=by rfl)(v:(yau pos (yao es X.env)).any (·.1)=false:=by rfl)(Y:eval (.Call (.Attribute o m apos) (e::es) [] pos) X.env=(do
   let ov <-eval o X.env
   standAt apos.atName
   let(f,first) <-holding [ov] (yaC ov m pl)
   callWith pos f first (yau pos (yao (e::es) X.env)) (yaE pos (yaD [] X.env))):=by rfl):
  PE X (.Call (.Attribute o m apos) (e::es) [] pos) (KH C m sp dvs E ta t):=by
 intro i s y H Q I h;refine PySem.W.methodCall_KW (pl:=pl) (bT (he i s y H _ I h) λu P j=>?_) Y;obtain⟨x,H1,O,S,a,dx,fs,ex,ea,l,q⟩:=j;subst ex;obtain rfl:u=Value.ref a:=S;refine yD O ea c G l ?_;refine PySem.W.callWith_K (first:=[.ref a]) (h₀:=X.base) I.ok.mod.Sh G.kp (bT (ha pos i P y H1 _ O q) λus s2 j=>?_) n v;obtain⟨vs,H2,L,r,q2⟩:=j;refine⟨L.mq,?_⟩;exact xY (us:=.ref a::us) (vs:=.ref a::vs) F Z hb hd U L (.cons rfl r) q2
structure Mk(K:yaI)(C f:Addr):Prop where
 makes:PySem.W.makesIn K C=true
 init:zce K (.ref C) "__init__"=some (some (.ref f))
 fn:zcE K (.ref f)=true
 kp:zcf K (.ref C)=true
theorem Es{l:St}{Q:VK}{vs:List V}(M:Mk X.K C f)(F:dS X.prog X.w X.K X.mg X.base CX k f fd ps sp)(O:aV (k+1) X.A)(S:Binds X.K fd ps ds)(hd:Vals dvs ds)(L:Passes CX X E)(I:Inv X pins l H s)(r:Vals vs us)(h:∀x i,H x=none->H i=none->i≠x->sp (.ref x::(vs++dvs)) (upd (upd H i (.own x)) x (.ins C i [])) (λv Y=>v=.bD/\Q (.ref x) Y) E):
  yar (model X.prog X.w) X.A (call (.ref C) us) (EP X pins l Q) X.xe s:=by
 have q:=h (s.heap.objs.size+1) s.heap.objs.size (I.hok.fresh (zcM _)) (I.hok.fresh (zcK _)) (zcx (zbF _));have j:=Inv.made (C:=C) I;have n:Vals (V.ref (s.heap.objs.size+1)::(vs++dvs)) (Value.ref (s.heap.objs.size+1)::(us++ds)):=.cons rfl (r.append hd);have P:(Value.ref (s.heap.objs.size+1)::us++ds).length=ps.length:=by
  have e:=n.length;rw[F.len _ _ _ _ q] at e;exact e.symm
 refine yaH (Ff (f:=f) I.mq M.makes M.init (beq_iff_eq.mp M.fn) (yax (F.run _ X.stack _ _ ⟨Value.ref (s.heap.objs.size+1)::us,[]⟩ (Value.ref (s.heap.objs.size+1)::(us++ds)) _ _ E (O.make C us []) (j.Ro.make C us []) (S _ (Value.ref (s.heap.objs.size+1)::us) j.mq P) n q) λr y a=>?_));cases r with
 |error e=>exact L pins l _ _ e y j a
 |ok fl=>
  cases fl with
  |ret u=>
   obtain⟨v,Z,W,G,U,q3⟩:=j.after a;subst U;exact⟨G,⟨V.ref (s.heap.objs.size+1),Z,W,rfl,q3⟩⟩
  |next=>exact False.elim a
  |brk=>exact False.elim a
  |cont=>exact False.elim a
theorem om(M:Mk X.K C f)(F:dS X.prog X.w X.K X.mg X.base CX k f fd ps sp)(l:aV (k+1) X.A)(q:Gl X x)(n:X.mg x=some (.ref C))(u:Binds X.K fd ps ds)(hd:Vals dvs ds)(j:Passes CX X E)(a:(x==("__debug__":Str))=false:=by decide):PE X (.Call (.Name x p) [] [] pos) (PN C sp dvs E HJ):=by
 intro i s v H Q I h;refine wpAny_Call_Name_kw (nq I q n ?_ a);exact PySem.W.callWith_K0 I.mq M.kp (Es (us:=[]) M F l u hd j I .nil h)
end
structure av(N P:List Str)(sc:Scope):Prop where
 kind:sc.kind=.function
 co:sc.isCoroutine=false
 gen:sc.isGenerator=false
 nd:N.Nodup
 pre:N.take P.length=P
 par:∀x∈P,sc.names.lookup x=some .local∨sc.names.lookup x=some .cell
 Nx:∀y∈sc.names,y.2≠ .free
theorem rA{a:Str->Option NameKind}{x:Str}:∀{binds:List (Str×yai)}{m:Str->Option yai},(∀v,(x,v) ∉ binds)->bindL a binds m x=m x
 |[],_,_=>rfl
 |(n,v)::r,m,h=>by
  unfold bindL;rw[rA λw hw=>h w (zay _ hw)];split
  ·have:x≠n:=by rintro rfl;exact h v zaL
   simp[this]
  ·rfl
theorem rD{a:Str->Option NameKind}{x:Str}:∀{binds:List (Str×yai)}{m:Str->Option yai},(∀v,(x,v) ∉ binds)->bindC a binds m x=m x
 |[],_,_=>rfl
 |(n,v)::r,m,h=>by
  unfold bindC;rw[rD λw hw=>h w (zay _ hw)];split
  ·rfl
  ·have:x≠n:=by rintro rfl;exact h v zaL
   simp[this]
theorem rB{a:Str->Option NameKind}{x:Str}{v:yai}:∀{P:List Str}{vs:List yai}{i:Nat}{m:Str->Option yai},P.Nodup->P[i]? =some x->vs[i]? =some v->a x=some .local->
  bindL a (P.zip vs) m x=some v
 |[],_,_,_,_,h,_,_=>by simp at h
 |_::_,[],_,_,_,_,h,_=>by simp at h
 |p::P,w::vs,0,m,nd,h1,h2,hk=>by
  simp at h1 h2;subst h1;subst h2;show bindL a ((p,w)::P.zip vs) m p=_;unfold bindL;rw[rA λv j=>(zbM.mp nd).1 (zbN j).1,yIp hk];simp
 |p::P,w::vs,i+1,m,nd,h1,h2,hk=>by
  show bindL a ((p,w)::P.zip vs) m x=_;unfold bindL;exact rB (i:=i) (zbM.mp nd).2 (by simpa using h1) (by simpa using h2) hk
theorem rE{a:Str->Option NameKind}{x:Str}{v:yai}:∀{P:List Str}{vs:List yai}{i:Nat}{m:Str->Option yai},P.Nodup->P[i]? =some x->vs[i]? =some v->a x≠some .local->
  bindC a (P.zip vs) m x=some v
 |[],_,_,_,_,h,_,_=>by simp at h
 |_::_,[],_,_,_,_,h,_=>by simp at h
 |p::P,w::vs,0,m,nd,h1,h2,hk=>by
  simp at h1 h2;subst h1;subst h2;show bindC a ((p,w)::P.zip vs) m p=_;unfold bindC;rw[rD λv j=>(zbM.mp nd).1 (zbN j).1,yIn hk];simp
 |p::P,w::vs,i+1,m,nd,h1,h2,hk=>by
  show bindC a ((p,w)::P.zip vs) m x=_;unfold bindC;exact rE (i:=i) (zbM.mp nd).2 (by simpa using h1) (by simpa using h2) hk
noncomputable def start(N:List Str)(vs:List V):St:=vs.map some++zcc (N.length - vs.length) none
noncomputable def kj(CX:Hl)(P:yaj)(w:yak)(K:yaI)(mg:Str->Option yai)(base:Heap)(N:List Str)(a:Str)(scope:Scope)(f:Addr)(i:yai)(A:yal)(outer:List Env)(s:yah)(H:Hp)(E:XK):Cx where
 prog:=P
 w:=w
 K:=K
 mg:=mg
 base:=base
 A:=A.deeper (envOfC a scope s.heap.objs.size f i)
 N:=N
 s₀:=s
 H₀:=H
 env:=envOfC a scope s.heap.objs.size f i
 outer:=outer
 stack:=envOfC a scope s.heap.objs.size f i::outer
 ex:=[]
 calm:=true
 fn:=λ_=>true
 pn:=[]
 xe:=λe j=>yar (model P w) (A.deeper (envOfC a scope s.heap.objs.size f i)) (leaving (envOfC a scope s.heap.objs.size f i) e) (λ_ h=>CX outer H s E e h) (λl h=>CX outer H s E l h) j
theorem vX{a:Scope}(h:a.names.lookup x=some .cell):∃c,(cellsFrom n a.names []).lookup x=some c:=by
 have q:=PySem.W.cellsFrom_some a.names n [] (.inl h);exact Option.isSome_iff_exists.mp q
theorem Ck{CX:Hl}{F:yai}{outer:List Env}{s1:yah}{E:XK}{vs:List V}(S:av N ps scope)(hd:A.handled=none)(j:zp P w K mg base A outer s H)(U:vs.length=ps.length)(r:Vals vs us)(x:InCallC s s.heap.objs.size (bindL (envOfC qual scope s.heap.objs.size f F).kindOf (ps.zip us) λ_=>none) (cellsFrom (s.heap.objs.size+1) scope.names []) (bindC (envOfC qual scope s.heap.objs.size f F).kindOf (ps.zip us) λ_=>none) s1):
  Inv (kj CX P w K mg base N qual scope f F A outer s H E) [] (start N vs) H s1:=by
 have O:ps.length<=N.length:=by have:=congrArg zcJ S.pre;rw[zbr] at this;lia
 obtain⟨h1,tk,rfl,I⟩:=x.done;have l:∀b:Addr,b ∉ (kj CX P w K mg base N qual scope f F A outer s H E).ex:=λb z=>absurd (show b∈([]:List Addr) from z) (by simp);refine⟨⟨j.mod,S.kind,rfl,rfl,zcK _,λy z c h1 h2=>?_,λy m=>?_,λy c _ h=>?_,λ_=>hd,Around.frames_deeper j.frames,.inr ⟨rfl,rfl⟩,λb z=>absurd z (l b),j.bs,j.J3,λb _ _=>l b,λb z=>absurd z (l b),j.mR,j.Oc⟩,rfl,j.bare,Un.kept I,⟨_,x.toInCall.ns,λi y v h1 h2 W=>?_⟩,λy c h=>⟨_,x.cell y c h⟩,j.hok.fresh (zcK _),λy c h=>?_,λp t=>absurd (show p∈([]:List (Addr×Obj)) from t) (by simp),j.hok.kept I,?_⟩
 ·exact name_of_addr x.apart (PySem.mem_of_lookup h1) (PySem.mem_of_lookup h2)
 ·have m:scope.names.lookup y=some .cell∨scope.names.lookup y=some .free:=m;rcases m with m|m
  ·exact vX m
  ·exact absurd rfl (S.Nx _ (PySem.mem_of_lookup m))
 ·exact zcz (x.above y c (PySem.mem_of_lookup h))
 ·have C:i<vs.length:=by
   unfold start at h2;by_cases C:i<vs.length
   ·exact C
   ·rw[zab (by simpa using C)] at h2;rw[List.getElem?_replicate] at h2;split at h2<;>cases h2
  have Q:vs[i]? =some v:=by
   unfold start at h2;rw[zae (by simpa using C),zba] at h2;cases e:vs[i]? with
   |none=>rw[e] at h2;cases h2
   |some a=>rw[e] at h2;cases h2;rfl
  obtain⟨u,G,L⟩:=r.get Q;have t:ps[i]? =some y:=by
   rw[<-S.pre,List.getElem?_take_of_lt (by lia)];exact h1
  have o:ps.Nodup:=by rw[<-S.pre];exact S.nd.sublist (List.take_sublist _ _)
  refine⟨u,L,?_⟩;rcases S.par y (zaB t) with k|k
  ·exact .inl ⟨k,rB o t G k⟩
  ·obtain⟨c,e⟩:=vX (n:=s.heap.objs.size+1) k;refine .inr ⟨.inl k,c,e,?_⟩;have q:=x.cell y c e;rw[rE o t G (by show scope.names.lookup y≠_;rw[k];decide)] at q;exact q
 ·exact j.hok.fresh (zcz (x.above y c (PySem.mem_of_lookup h)))
 ·unfold start;show _=N.length;rw[zaM,zbK,List.length_replicate];lia
theorem Rm{CX:Hl}{k:Nat}{h:Arguments}{dV kV L pm a ct oc:yai}{an od:Option Addr}{sp:Sp}(lk:K.lookup f=some ⟨oc,od,.func (zcF name qual h body scope dV kV L pm an a ct),osl⟩)(Z:zcg K a qual=true)(S:av N ps scope)(len:∀vs H Q E,sp vs H Q E->vs.length=ps.length)(l:∀(A:yal)(outer:List Env)(s:yah)(H:Hp)(vs:List V)(Q:VK)(E:XK),aV k (A.deeper (envOfC qual scope s.heap.objs.size f a))->sp vs H Q E->∃t,wC (kj CX P w K mg base N qual scope f a A outer s H E) body t/\t {nx:=λ_ H'=>Q .bD H',rt:=Q} (start N vs) H):
  dS P w K mg base CX (k+1) f (zcF name qual h body scope dV kV L pm an a ct) ps sp:=by
 refine⟨len,λA outer s H ab us vs Q E Y G hb r C=>?_⟩;have hl:=len _ _ _ _ C;have KX:K.In s.heap:=G.mod.Sh.keeps λb o e=>(G.bs b o e).1;have X:s.heap.NoLimit:=G.mod.nolimit.keeps λb o e=>(G.bs b o e).1;have j:∀y∈ps.zip us,scope.names.lookup y.1=some .local∨(scope.names.lookup y.1=some .cell/\((cellsFrom (s.heap.objs.size+1) scope.names []).lookup y.1).isSome=true):=λ⟨n,v⟩ hy=>by
  rcases S.par n (zbN hy).1 with q|q
  ·exact .inl q
  ·exact .inr ⟨q,PySem.W.cellsFrom_some _ _ _ (.inl q)⟩
 refine codeAny_call_function Y.depth (KX _ _ lk) rfl S.co S.gen rfl (PySem.W.codeRec_of KX Z) (hb _ _ _ _ ?_);refine wpAny_newFunctionEnv_cells S.kind j λenv he s1 x=>?_;subst he;refine⟨X.keeps x.toInCall.keep,codeAny_func ?_⟩;obtain⟨t,ht,hq⟩:=l A outer s H vs Q E (Y.deeper _) C;have I:Inv (kj CX P w K mg base N qual scope f a A outer s H E) [] (start N vs) H s1:=Ck S Y.hd G hl r x;refine yac (ht [] s1 (start N vs) H _ I hq) (λfl O m=>?_) λe O m=>m;have F:∀{i:St}{H':Hp}{v:V}{u:yai},Inv (kj CX P w K mg base N qual scope f a A outer s H E) [] i H' O->RelV v u->Q v H'->CE outer P w H s Q u O:=
  λ{i H' v u} J U q=>⟨v,H',J.os,J.bare,J.base,J.hok,U,q⟩
 cases fl with
 |ret u=>
  obtain⟨v,i,H',J,U,q⟩:=m;exact F J U q
 |next=>
  obtain⟨i,H',J,q⟩:=m;exact F (v:=V.bD) (u:=Value.none) J rfl q
 |brk=>
  obtain⟨_,_,_,q⟩:=m;exact False.elim q
 |cont=>
  obtain⟨_,_,_,q⟩:=m;exact False.elim q
section
variable {es:List Expr}{t:TA}{id T:String}{r:List V->Hp->VK->Prop}
def PX(r:List V->Hp->VK->Prop)(t:TA):TE:=λa H Q=>t a H λvs h=>r vs h Q
theorem EX(G:bX X (.builtin id) r)(E:Gl X x)(C:X.mg x=none)(v:bootBuiltins x=some (.builtin id))(L:PA X (e::es) t)(y:x≠"__name__":=by decide)(l:(x==("__debug__":Str))=false:=by decide)(F:yao (e::es) X.env=(false,eval e X.env)::yao es X.env:=by rfl)(j:(yau pos (yao es X.env)).any (·.1)=false:=by rfl):PE X (.Call (.Name x p) (e::es) [] pos) (PX r t):=by
 intro a s m H Q I h;refine wpAny_Call_Name_kw (cu I E C v ?_ y l);refine PyProof.Rows.callWith_builtin1 (bT (L pos a s m H _ I h) λn o i=>?_) F j;obtain⟨vs,P,O,q,u⟩:=i;exact G a o m P vs n Q O q u
theorem BS(F:bX X (.type T) r)(C:Gl X x)(y:X.mg x=none)(u:bootBuiltins x=some (.type T))(G:PA X (e::es) t)(v:x≠"__name__":=by decide)(j:(x==("__debug__":Str))=false:=by decide)(E:yao (e::es) X.env=(false,eval e X.env)::yao es X.env:=by rfl)(i:(yau pos (yao es X.env)).any (·.1)=false:=by rfl):PE X (.Call (.Name x p) (e::es) [] pos) (PX r t):=by
 intro a s l H Q I h;refine wpAny_Call_Name_kw (cu I C y u ?_ v j);exact PyProof.Rows.callWith_type1 (bT (G pos a s l H _ I h) λm n ⟨vs,O,L,o,q⟩=>F a n l O vs m Q L o q) E i
end
section
variable {κ:Type}[DecidableEq κ]
noncomputable def gP(kvs:List (κ×V))(k:κ):Option V:=(kvs.find? λa=>decide (a.1=k)).map (·.2)
noncomputable def putK(kvs:List (κ×V))(k:κ)(v:V):List (κ×V):=
 if(kvs.any λa=>decide (a.1=k))=true then kvs.map (λa=>if a.1=k then(a.1,v) else a) else kvs++[(k,v)]
theorem nI{p:κ×V}{r:List (κ×V)}{k:κ}(e:p.1=k):gP (p::r) k=some p.2:=by simp[gP,zbO,e]
theorem nJ{p:κ×V}{r:List (κ×V)}{k:κ}(e:¬p.1=k):gP (p::r) k=gP r k:=by simp[gP,zbO,e]
theorem nK(k:κ):∀kvs:List (κ×V),(kvs.any λa=>decide (a.1=k))=(gP kvs k).isSome
 |[]=>rfl
 |p::r=>by
  rw[zck];by_cases e:p.1=k
  ·simp only[nI e,yDt e,Bool.true_or,Option.isSome_some]
  ·rw[nJ e,yDf e,Bool.false_or];exact nK k r
theorem ir(kvs:List (κ×V))(k:κ)(v:V):(putK kvs k v).length<=kvs.length+1:=by
 unfold putK;split
 ·rw[zbK];lia
 ·rw[zaM,zbq,zbP];lia
theorem jg.fT{o:Option V}{u:Option yai}(r:jg o u):o.isSome=u.isSome:=by
 cases o with
 |none=>cases u with
  |none=>rfl
  |some _=>exact(show False from r).elim
 |some _=>cases u with
  |none=>exact(show False from r).elim
  |some _=>rfl
theorem KV.val{kvs:List (κ×V)}{vs:List (κ×yai)}(r:KV kvs vs)(k:κ):jg (gP kvs k) (valueAt vs k):=by
 unfold KV at r
 induction r with
 |nil=>exact True.intro
 |@cons p q ps qs h t ih=>
  obtain⟨h1,h2⟩:=h;by_cases e:p.1=k
  ·have a:q.1=k:=h1.symm.trans e;have b:valueAt (q::qs) k=some q.2:=by simp[valueAt,zbO,a]
   rw[nI e,b];exact h2
  ·have a:¬q.1=k:=λz=>e (h1.trans z);have b:valueAt (q::qs) k=valueAt qs k:=by simp[valueAt,zbO,a]
   rw[nJ e,b];exact ih
theorem KV.any{kvs:List (κ×V)}{vs:List (κ×yai)}(r:KV kvs vs)(k:κ):(kvs.any λa=>decide (a.1=k))=vs.any λa=>decide (a.1=k):=by
 unfold KV at r
 induction r with
 |nil=>rfl
 |cons h t ih=>rw[zck,zck,ih,h.1]
theorem KV.repl{kvs:List (κ×V)}{vs:List (κ×yai)}(r:KV kvs vs)(k:κ)(i:RelV y u):
  KV (kvs.map λa=>if a.1=k then(a.1,y) else a) (vs.map λa=>if a.1=k then(a.1,u) else a):=by
 unfold KV at r⊢
 induction r with
 |nil=>exact .nil
 |@cons p q ps qs h t ih=>
  rw[zcj,zcj];refine .cons ?_ ih;obtain⟨h1,h2⟩:=h;by_cases e:p.1=k
  ·rw[yIp e,yIp (h1.symm.trans e)];exact⟨h1,i⟩
  ·rw[yIn e,yIn (λz=>e (h1.trans z))];exact⟨h1,h2⟩
theorem KV.put{kvs:List (κ×V)}{vs:List (κ×yai)}(r:KV kvs vs)(k:κ)(a:RelV y u):KV (putK kvs k y) (stored vs k u):=by
 unfold putK stored;rw[r.any k];by_cases e:(vs.any λh=>decide (h.1=k))=true
 ·rw[yIp e,yIp e];exact r.repl k a
 ·rw[yIn e,yIn e];exact Paired.snoc r ⟨rfl,a⟩
theorem KV.length{kvs:List (κ×V)}{vs:List (κ×yai)}(r:KV kvs vs):kvs.length=vs.length:=Paired.length r
end
theorem qP{k:Key}(r:RelV (kV k) u):(bN P w).is k u=true:=by
 cases k with
 |inl i=>obtain⟨t,e⟩:=(show∃t,u=Value.int i t from r);subst e;exact vg P w i t
 |inr x=>obtain⟨t,e⟩:=(show∃t,u=Value.str x t from r);subst e;exact vf P w x t
theorem qQ{P:yaj}{w:yak}:∀{ks:List Key}{us:List yai},Vals (ks.map kV) us->ItemsAre (bN P w) ks us
 |[],_,r=>by rw[zct] at r;cases r;exact .nil
 |k::ks,_,r=>by
  rw[zcj] at r;cases r with
  |cons h t=>exact .cons (qP h) (qQ t)
abbrev KT(H:Hp):List (List Key×V)->List (List Key×Addr×yai)->Prop:=Paired λp q=>p.1=q.1/\H q.2.1=some (.tup (p.1.map kV))/\RelV p.2 q.2.2
theorem KT.val{i:List (List Key×Addr×yai)}(r:KT H kvs i)(k:List Key):jg (gP kvs k) ((atKey i k).map (·.2)):=by
 induction r with
 |nil=>exact True.intro
 |@cons p q ps qs h t ih=>
  obtain⟨h1,_,h2⟩:=h;by_cases e:p.1=k
  ·have a:q.1=k:=h1.symm.trans e;have b:atKey (q::qs) k=some q.2:=by simp[atKey,zbO,a]
   rw[nI e,b];exact h2
  ·have a:¬q.1=k:=λz=>e (h1.trans z);have b:atKey (q::qs) k=atKey qs k:=by simp[atKey,zbO,a]
   rw[nJ e,b];exact ih
theorem KT.repl{i:List (List Key×Addr×yai)}(r:KT H kvs i)(k:List Key)(j:RelV y u):
  KT H (kvs.map λa=>if a.1=k then(a.1,y) else a) (i.map (putAt k u)):=by
 induction r with
 |nil=>exact .nil
 |@cons p q ps qs h t ih=>
  rw[zcj,zcj];refine .cons ?_ ih;obtain⟨h1,h2,l⟩:=h;unfold putAt;by_cases e:p.1=k
  ·rw[yIp e,yIp (h1.symm.trans e)];exact⟨h1,h2,j⟩
  ·rw[yIn e,yIn (λz=>e (h1.trans z))];exact⟨h1,h2,l⟩
theorem KT.put{a:List (List Key×Addr×yai)}(r:KT H kvs a)(k:List Key){b:Addr}(j:H b=some (.tup (k.map kV)))(h:RelV y u):
  KT H (putK kvs k y) (storedH a k b u):=by
 have e:(kvs.any λi=>decide (i.1=k))=(atKey a k).isSome:=by
  rw[nK,(r.val k).fT,zbo]
 unfold putK storedH;rw[e];by_cases q:(atKey a k).isSome=true
 ·rw[yIp q,yIp q];exact r.repl k h
 ·rw[yIn q,yIn q];exact Paired.snoc r ⟨rfl,j,h⟩
theorem KT.keeps{h:List (List Key×Addr×yai)}(r:KT H kvs h)(i:∀b a,H b=some (.tup a)->H' b=some (.tup a)):KT H' kvs h:=
 Paired.QZ r λ_ _ z=>⟨z.1,i _ _ z.2.1,z.2.2⟩
theorem K8{u:HO}(ok:ji P w H h)(e:Rd H a u):bg P w H h a u:=e.ok ok
theorem qW{kvs:List (Key×V)}(ok:ji P w H h)(e:Rd H a (.dK kvs)):kvs.length<=yag/\(a==yas)=false/\∃vs,KV kvs vs/\h.DictOf (bN P w) a vs:=
 show bg P w H h a (.dK kvs) from K8 ok e
theorem Lo{kvs:List (Key×V)}(ok:ji P w H h)(e:H a=some (.dK kvs)):kvs.length<=yag/\(a==yas)=false/\∃vs,KV kvs vs/\h.DictOf (bN P w) a vs:=qW ok (.inl e)
theorem oQ{ks:List Key}(ok:ji P w H h)(e:H a=some (.tup (ks.map kV))):(tupleKind (bN P w)).is h ks a:=by
 obtain⟨_,i,r,o,h1,h2,n,j⟩:=(show bg P w H h a (.tup (ks.map kV)) from ok a _ e)
 exact⟨o,i.toArray,n,h1,h2,j,by simpa using qQ r⟩
theorem vJ(ok:ji P w H h)(e:Rd H a (.dT kvs)):kvs.length<=yag/\(a==yas)=false/\
  ∃j,KT H kvs j/\h.DictOfH (tupleKind (bN P w)) a j:=by
 obtain⟨z,y,j,r,o,v,C,h1,h2,u,s,n⟩:=(show bg P w H h a (.dT kvs) from K8 ok e)
 refine⟨z,y,j,r,o,v,C,h1,h2,u,s,λx i=>?_,n⟩;have all:∀{l:List (List Key×V)}{m:List (List Key×Addr×yai)},KT H l m->∀x∈m,(tupleKind (bN P w)).is h x.1 x.2.1:=by
  intro l m q
  induction q with
  |nil=>intro x i;exact nomatch i
  |@cons p q ps qs hq t ih=>
   intro x i;rcases zci.mp i with e|i
   ·subst e;exact oQ ok (by rw[<-hq.1];exact hq.2.1)
   ·exact ih x i
 exact all r x i
theorem Rp(ok:ji P w H h)(e:H a=some (.dT kvs)):kvs.length<=yag/\(a==yas)=false/\
  ∃i,KT H kvs i/\h.DictOfH (tupleKind (bN P w)) a i:=vJ ok (.inl e)
def qi(H:Hp)(a:Addr)(y:V)(r:Option V):Prop:=
 (∃h k,Rd H a (.dK h)/\y=kV k/\r=gP h k)∨∃h k b,Rd H a (.dT h)/\y=.ref b/\H b=some (.tup (k.map kV))/\r=gP h k
def Hj(H:Hp)(a:Addr)(y v:V)(H':Hp):Prop:=
 (∃h k,H a=some (.dK h)/\y=kV k/\h.length<yag/\H'=upd H a (.dK (putK h k v)))∨
 ∃h k b,H a=some (.dT h)/\y=.ref b/\H b=some (.tup (k.map kV))/\h.length<yag/\H'=upd H a (.dT (putK h k v))
theorem qi.k{H:Hp}{a:Addr}{kvs:List (Key×V)}{k:Key}(e:H a=some (.dK kvs)):qi H a (kV k) (gP kvs k):=.inl ⟨kvs,k,.inl e,rfl,rfl⟩
theorem Hj.k{H:Hp}{a:Addr}{kvs:List (Key×V)}{k:Key}{v:V}(e:H a=some (.dK kvs))(h:kvs.length<yag):Hj H a (kV k) v (upd H a (.dK (putK kvs k v))):=.inl ⟨kvs,k,e,rfl,h,rfl⟩
section
variable {σ:St}{r:yai}{o:Option V}
theorem Inv.big(I:Inv X pins σ H s):yas<s.heap.objs.size:=by
 have h:yaq<s.heap.objs.size:=(I.mod.glob.keeps I.bk).lt;exact zcB (by decide) h
theorem Cs(G:A.units+1<cLine)(I:Inv X pins σ H s)(g:qi H a y (some v))(C:RelV y u)(h:∀m s',Inv X pins σ H s'->RelV v m->Q m s'):
  yar (model X.prog X.w) A (getItem (.ref a) u) Q E s:=by
 rcases g with⟨n,k,e,t,l⟩|⟨n,k,b,e,t,O,l⟩
 ·subst t;obtain⟨z,hd,vs,j,x⟩:=qW I.hok e;obtain⟨m,hw,i⟩:=jg.some_of (v:=v) (o:=valueAt vs k) (by rw[l];exact j.val k);exact wpAny_getItem_of (qP C) x.mapOf hw (h m _ (I.tok _) i)
 ·subst t;cases(show u=Value.ref b from C);obtain⟨z,hd,F,j,x⟩:=vJ I.hok e;obtain⟨m,hw,i⟩:=jg.some_of (v:=v) (o:=(atKey F k).map (·.2)) (by rw[l];exact j.val k);obtain⟨p,L,q⟩:=Option.map_eq_some_iff.mp hw;refine wpAny_getItem_heap (tupleKind_room_in1 G) (oQ I.hok O) x L ?_;rw[q];exact h m _ (I.tok _) i
theorem Tu(v:A.units+1<cLine)(I:Inv X pins σ H s)(g:qi H a y o)(t:RelV y u)(h:∀s',Inv X pins σ H s'->Q (.bool o.isSome) s'):
  yar (model X.prog X.w) A (yan .In u (.ref a)) Q E s:=by
 rcases g with⟨j,k,e,m,l⟩|⟨j,k,b,e,m,x,l⟩
 ·subst m;obtain⟨z,hd,vs,i,n⟩:=qW I.hok e;refine wpAny_in_of (qP t) hd n.mapOf ?_;rw[<-(i.val k).fT,<-l];exact h _ (I.tok _)
 ·subst m;cases(show u=Value.ref b from t);obtain⟨z,hd,C,i,n⟩:=vJ I.hok e;refine wpAny_in_heap (tupleKind_room_in1 v) (oQ I.hok x) hd n ?_;have q:=(i.val k).fT;rw[zbo] at q;rw[<-q,<-l];exact h _ (I.tok _)
theorem JH(v:A.units+1<cLine)(I:Inv X pins σ H s)(g:qi H a y o)(t:RelV y u)(h:∀s',Inv X pins σ H s'->Q (.bool (!o.isSome)) s'):
  yar (model X.prog X.w) A (yan .NotIn u (.ref a)) Q E s:=by
 rcases g with⟨j,k,e,m,l⟩|⟨j,k,b,e,m,x,l⟩
 ·subst m;obtain⟨z,hd,vs,i,n⟩:=qW I.hok e;refine wpAny_notIn_of (qP t) hd n.mapOf ?_;rw[<-(i.val k).fT,<-l];exact h _ (I.tok _)
 ·subst m;cases(show u=Value.ref b from t);obtain⟨z,hd,C,i,n⟩:=vJ I.hok e;refine wpAny_notIn_heap (tupleKind_room_in1 v) (oQ I.hok x) hd n ?_;have q:=(i.val k).fT;rw[zbo] at q;rw[<-q,<-l];exact h _ (I.tok _)
theorem tG{ob:HO}(I:Inv X pins σ H s)(h:RX (H a))(i:Heap.SameBut a s.heap h')(j:∃q,h'.get? a=some q)(new:bg X.prog X.w (upd H a ob) h' a ob):
  Inv X pins σ (upd H a ob) {s with heap:=h',toks:=t'}:=
 I.write (x:=a) (e:=a) h (.inl rfl) (λb q l z=>(i.2 b l).trans z) j new
theorem Oh{kvs:List (Key×V)}{vs:List (Key×yai)}(z:kvs.length<=yag)(hd:(a==yas)=false)(h:KV kvs vs)(dd:h'.DictOf (bN P w) a vs):
  bg P w H' h' a (.dK kvs):=⟨z,hd,vs,h,dd⟩
theorem Cr{Q:Unit->yah->Prop}(Y:A.units+1<cLine)(I:Inv X pins σ H s)(g:Hj H a y v H')(L:RelV y u)(O:RelV v r)(h:∀s',Inv X pins σ H' s'->Q () s'):
  yar (model X.prog X.w) A (setItem (.ref a) u r) Q E s:=by
 rcases g with⟨j,k,e,C,l,F⟩|⟨j,k,b,e,C,U,l,F⟩
 ·subst C F;obtain⟨z,hd,vs,i,G⟩:=Lo I.hok e;have hz:vs.length<=yag:=by rw[<-i.length];exact z
  have x:(putK j k v).length<=yag:=by have:=ir j k v;lia
  refine wpAny_setItem_pairs (hsz:=hz) (qP L) G λP m t=>h _ ?_;have Z:∃q,P.get? a=some q:=by obtain⟨q,_,_,n,_⟩:=m;exact⟨q,n⟩
  exact tG I (by rw[e];exact True.intro) t Z (Oh x hd (i.put k O) m)
 ·subst C F;cases(show u=Value.ref b from L);obtain⟨z,hd,W,i,G⟩:=Rp I.hok e;have hz:W.length<=yag:=by rw[<-Paired.length i];exact z
  have x:(putK j k v).length<=yag:=by have:=ir j k v;lia
  refine wpAny_setItem_heap (hsz:=hz) (tupleKind_room_in1 Y) (oQ I.hok U) G λP m t=>h _ ?_;obtain⟨q,es,ep,n,h2,h3,h4,_,h5⟩:=m;refine tG I (by rw[e];exact True.intro) t ⟨q,n⟩ ⟨x,hd,_,(i.put k U O).keeps λc ys S=>?_,q,es,ep,n,h2,h3,h4,h5⟩;rw[aP (QX S e (λz=>nomatch z))];exact S
end
section
variable {σ:St}{kvs:List (Key×V)}{k:Key}
theorem Rt(I:Inv X pins σ H s)(e:Rd H a (.dK kvs))(h:∀t s',Inv X pins σ H s'->Q (.int kvs.length t) s'):yar (model X.prog X.w) A (call (.builtin "len") [.ref a]) Q E s:=by
 obtain⟨z,hd,vs,i,j⟩:=qW I.hok e;refine call_len_dict hd j (by rw[<-i.length];rw[yaf] at z;lia) ?_;rw[<-i.length];exact h _ _ (I.tok _)
end
def Pd(i:Expr):Prop:=∀a h,subscripted i false a h=operate [a,h] (getItem a h)
theorem HL{a:Expr}{T id:String}(C:typeLookup (.type T) "__getitem__"=pure (some (.builtin id)))(y:Pd a)(h:yar (model prog w) A (eval value env) (λo n=>yar (model prog w) A (eval a env) (λi j=>j.TypeIs o T/\yar (model prog w) A (getItem o i) Q E j) E n) E s):
  yar (model prog w) A (eval (.Subscript value a pos) env) Q E s:=by
 refine Subscript_ (yac h (λo n u=>yac u (λi j l=>?_) λ_ _ x=>x) λ_ _ x=>x);obtain⟨v,l⟩:=l;unfold subscriptTail;refine yaa ?_;rw[getitemInPython_of_ne v.not_modules];refine yaa (wpAny_specialOf v C ?_);have q:yar (model prog w) A (subscripted a false o i) (λr m=>yar (model prog w) A (letTemporaryGo value o r >>= λ_=>pure r) Q E m) E j:=by
  rw[y o i];exact wpAny_operating (yac l (λr m t=>yaa (wpAny_letTemporaryGo (yab t))) λ_ _ x=>x)
 first
  |exact yab (yaa q)
  |exact yaa (yab (yaa q))
  |exact yaa q
theorem vM{j:St}{o:Option V}(I:Inv X pins j H s)(g:qi H a y o):s.TypeIs (.ref a) "dict":=by
 rcases g with⟨h,k,e,_,_⟩|⟨h,k,b,e,_,_,_⟩
 ·obtain⟨_,_,vs,_,i⟩:=qW I.hok e;exact i.typeIs
 ·obtain⟨_,_,l,_,i⟩:=vJ I.hok e;exact i.typeIs
def KL(j ty:TE):TE:=λh H Q=>j h H λx l=>ty h l λy i=>∃a v,x=.ref a/\qi i a y (some v)/\Q v i
def K6(l ty j:TE):TS:=λD h H=>j h H λv o=>l h o λx n=>ty h n λy m=>∃a i,x=.ref a/\Hj m a y v i/\D.nx h i
section
variable {o i:Expr}{tpos:Pos}{td ty tv:TE}
theorem IF(O:X.A.units+1<cLine)(S:PE X o td)(hi:PE X i ty)(P:Pd i):PE X (.Subscript o i pos) (KL td ty):=by
 intro j s q H Q I h;refine HL PySem.F.slot_dict_getitem.lookup P (bT (S j s q H _ I h) λu C m=>?_);obtain⟨x,Z,W,G,L⟩:=m;refine bT (hi j C q Z _ W L) λiv s2 l=>?_;obtain⟨y,Y,t,E,a,v,ex,g,q2⟩:=l;subst ex;obtain rfl:u=Value.ref a:=G;exact⟨vM t g,Cs O t g E λw' s3 U n=>⟨v,Y,U,n,q2⟩⟩
theorem ID(P:X.A.units+1<cLine)(S:PE X o td)(hi:PE X i ty)(O:PE X value tv)(Q:yat value (some (.Subscript o i pos')) pos.line X.env=pure false):
  PS X (.Assign [.Subscript o i pos'] value pos) (K6 td ty tv):=by
 intro j s l H D I h;refine wpAny_Assign_Subscript (bT (O j s l H _ I h) λr C q=>?_) Q;obtain⟨v,H1,Z,G,L⟩:=q;refine bT (S j C l H1 _ Z L) λu t n=>?_;obtain⟨x,H2,Y,F,q2⟩:=n;refine bT (hi j t l H2 _ Y q2) λiv s3 m=>?_;obtain⟨y,H3,W,E,a,H4,ex,g,q3⟩:=m;subst ex;obtain rfl:u=Value.ref a:=F;exact Cr P W g E G λs4 U=>⟨l,H4,U,q3⟩
end
theorem FQ(h:Heap)(a:yas<h.objs.size):bg P w H (h.push {cls:=.type "dict",data:=.dict #[]}) h.objs.size (.dK []):=
 ⟨zcL _,beq_eq_false_iff_ne.mpr (Ne.symm (zcx a)),[],.nil,Heap.DictOf.new h⟩
def Dv:TE:=λ_ H Q=>∀p,H p=none->Q (.ref p) (upd H p (.dK []))
theorem fR:PE X (.Dict [] [] pos) Dv:=λi s j H Q I h=>
 wpAny_Dict_empty ⟨.ref s.heap.objs.size,_,I.laid (a:=s.heap.objs.size) (o:=.dK []) (t':=s.toks) (λ_ _ q=>zaq _ q) (zcK _) (FQ s.heap I.big),rfl,h _ (I.hok.fresh (zcK _))⟩
structure M1(X:Cx)(o:Expr)(m:Str)(apos:Pos)(e:Expr)(cpos:Pos):Prop where
 base:attributeBase o m X.env (eval o X.env)=eval o X.env
 few:((yau cpos (yao [e] X.env)).all (λx=>!x.1)&&(yaE cpos (yaD [] X.env)).all (λx=>x.1.isSome)&&decide (([e]:List Expr).length+([]:List Keyword).length+(if([]:List Keyword).isEmpty then 0 else 1)<30))=true
 line:(apos.endLine==cpos.line)=true
 trees:yau cpos (yao [e] X.env)=[(false,eval e X.env)]
structure M2(X:Cx)(o:Expr)(m:Str)(apos:Pos)(e f:Expr)(cpos:Pos):Prop where
 base:attributeBase o m X.env (eval o X.env)=eval o X.env
 few:((yau cpos (yao [e,f] X.env)).all (λx=>!x.1)&&(yaE cpos (yaD [] X.env)).all (λx=>x.1.isSome)&&decide (([e,f]:List Expr).length+([]:List Keyword).length+(if([]:List Keyword).isEmpty then 0 else 1)<30))=true
 line:(apos.endLine==cpos.line)=true
 trees:yau cpos (yao [e,f] X.env)=[(false,eval e X.env),(false,eval f X.env)]
end L2
variable {te:L2.TE}
namespace HT
open PySem PyProof.Rows
theorem J0{t b:Addr}{vs ws:List yai}(G:IsTup s.heap t vs.toArray)(H:IsTup s.heap b ws.toArray)(v:vs≠[])(h1:ws=[]->Q (.ref t) s)(h2:ws≠[]->Q (.ref s.heap.objs.size) {s with heap:=s.heap.push {cls:=.type "tuple",data:=.seq (vs++ws).toArray}})(hsz:vs.length+ws.length<=yag):yar (model prog w) A (binaryOp .Add (.ref t) (.ref b)) Q E s:=by
 obtain⟨⟨cls,y,data,q⟩,m,x,n,hd⟩:=id G;obtain⟨⟨C,l,o,h⟩,a,j,u,i⟩:=id H;simp only at x hd j i;subst x hd j i;have e:vs.toArray++ws.toArray=(vs++ws).toArray:=by simp
 by_cases hw:ws=[]
 ·exact concat_meets ⟨_,m,rfl⟩ ⟨_,a,rfl⟩ noFill_tuple_add seq_tuple_add PySem.F.slot_tuple_add PySem.F.entry_tuple_add (PySem.F.args_tuple_add_2 _ _)
   (tuple_addW1 t b vs.toArray ws.toArray n u y l q h (by simpa using v) (by simp[hw])) ⟨m,a,h1 hw⟩
 ·refine concat_meets ⟨_,m,rfl⟩ ⟨_,a,rfl⟩ noFill_tuple_add seq_tuple_add PySem.F.slot_tuple_add PySem.F.entry_tuple_add (PySem.F.args_tuple_add_2 _ _)
   (tuple_addW2 t b vs.toArray ws.toArray n u y l q h (by simpa using v) (by simpa using hw) (by rw[zaY,zaY];exact hsz)) ⟨m,a,?_⟩
  rw[e];exact h2 hw
noncomputable def l6(n d:Nat):Option Int->Nat
 |none=>d
 |some v=>if v<0 then(v+(n:Int)).toNat else min v.toNat n
theorem jO(n d k:Nat):l6 n d (some (k:Int))=min k n:=by
 show(if(k:Int)<0 then((k:Int)+(n:Int)).toNat else min (k:Int).toNat n)=min k n;rw[yIn (by lia),zbk]
end HT
namespace L2
open PySem PySem.Spec PyProof.Rows
abbrev TO:=St->Hp->(Option Int->Hp->Prop)->Prop
def PO(X:Cx)(e:Option Expr)(t:TO):Prop:=
 ∀(a:List (Addr×Obj))(s:yah)(h:St)(H:Hp)(Q:Option Int->Hp->Prop),Inv X a h H s->t h H Q->
  yar (model X.prog X.w) X.A (evalPart e X.env) (λu j=>∃o i,Inv X a h i j/\IsPart u o/\Q o i) X.xe s
def zw:TO:=λ_ H Q=>Q none H
def KC(t:TE):TO:=λa H Q=>t a H λx h=>∃i,x=.int i/\Q (some i) h
theorem intsAre_of{ns:List Int}:∀{us:List yai},Vals (ns.map V.int) us->IntsAre us ns:=by
 induction ns with
 |nil=>intro us r;rw[zct] at r;cases r;exact .nil
 |cons n ns ih=>
  intro us r;rw[zcj] at r;cases r with
  |cons r1 r2=>
   obtain⟨t,e⟩:=r1;subst e;exact .cons n t (ih r2)
section
variable {lo hi:Option Expr}{tl th:TO}
theorem iZ:PO X none zw:=by
 intro a s i H Q I h;rw[evalPart_none];exact yab ⟨none,H,I,.none,h⟩
theorem fk(h:PE X e te):PO X (some e) (KC te):=by
 intro a s l H Q I hw;rw[evalPart_some];refine bT (h a s l H _ I hw) λu y j=>?_;obtain⟨x,v,o,m,n⟩:=j;obtain⟨i,rfl,q⟩:=n;obtain⟨t,rfl⟩:=m;exact⟨some i,v,o,.int i t,q⟩
def O8(X:Cx)(r:V->Option Int->Option Int->Hp->VK->Prop):Prop:=
 ∀(a:List (Addr×Obj))(s:yah)(h:St)(H:Hp)(x:V)(v j i:yai)(lo hi:Option Int)(l:Addr)(Q:VK),Inv X a h H s->RelV x v->s.heap.IsSliceOf l j i .none->IsPart j lo->IsPart i hi->r x lo hi H Q->
  ∃T id,typeLookup (.type T) "__getitem__"=pure (some (.builtin id))/\s.TypeIs v T/\yar (model X.prog X.w) X.A (getItem v (.ref l)) (EP X a h Q) X.xe s
theorem O8.or{r o:V->Option Int->Option Int->Hp->VK->Prop}(h:O8 X r)(h':O8 X o):O8 X (λx lo hi H Q=>r x lo hi H Q∨o x lo hi H Q):=by
 intro a s i H x v l j lo hi m Q I n t pl pu q;rcases q with q|q
 ·exact h a s i H x v l j lo hi m Q I n t pl pu q
 ·exact h' a s i H x v l j lo hi m Q I n t pl pu q
def T8(r:V->Option Int->Option Int->Hp->VK->Prop)(h:TE)(tl th:TO):TE:=λa H Q=>h a H λx m=>tl a m λl j=>th a j λu i=>r x l u i Q
theorem eV{r:V->Option Int->Option Int->Hp->VK->Prop}(P:O8 X r)(W:PE X e te)(S:PO X lo tl)(L:PO X hi th):PE X (.Subscript e (.Slice lo hi none p2) pos) (T8 r te tl th):=by
 intro a s m H Q I h;refine Subscript_ (bT (W a s m H _ I h) λv E j=>?_);obtain⟨x,H1,I1,F,G⟩:=j;refine wpAny_Slice (bT (S a E m H1 _ I1 G) λo C j=>?_);obtain⟨l,H2,I2,pl,q2⟩:=j;refine bT (L a C m H2 _ I2 q2) λn i t=>?_;obtain⟨u,y,I3,pu,q3⟩:=t;rw[evalPart_none];refine yab ?_;have Z:Inv X a m y {i with heap:=i.heap.push {cls:=.type "slice",data:=.fields #[o,n,.none]}}:=I3.kept (t':=i.toks) λb ob q=>zaq _ q;obtain⟨T,id,Y,O,U⟩:=P a {i with heap:=i.heap.push {cls:=.type "slice",data:=.fields #[o,n,.none]}} m y x v o n l u i.heap.objs.size Q Z F (Heap.IsSliceOf.new ..) pl pu q3;show yar (model X.prog X.w) X.A (subscriptTail e (.Slice lo hi none p2) v (.ref i.heap.objs.size)) (EP X a m Q) X.xe {i with heap:=i.heap.push {cls:=.type "slice",data:=.fields #[o,n,.none]}};exact tail_any (ops:=[.ref i.heap.objs.size,v]) O Y U (by with_unfolding_all rfl)
noncomputable def Ct(a:List V)(lo hi:Option Int):List V:=(a.drop (HT.l6 a.length 0 lo)).take (HT.l6 a.length a.length hi - HT.l6 a.length 0 lo)
theorem vQ(a:List V)(lo hi:Option Int):(Ct a lo hi).length<=a.length:=by
 unfold Ct;rw[zbr,zbs];lia
def QE(K:yaI):R2:=λx y H Q=>∃a b i h,x=.ref a/\y=.ref b/\dI K H a i/\dI K H b h/\i≠[]/\i.length+h.length<=yag/\
 (h=[]->Q (.ref a) H)/\(h≠[]->∀p,H p=none->Q (.ref p) (upd H p (.tup (i++h))))
theorem Vals.sI(r:Vals xs us):us=[]↔xs=[]:=by
 cases r with
 |nil=>simp
 |cons _ _=>simp
theorem IQ:fE X (binaryOp .Add) (QE X.K):=by
 intro l s W H x y v u Q I E C h;obtain⟨a,b,t,n,rfl,rfl,U,S,P,hz,F,q2⟩:=h;cases E;cases C;obtain⟨O,j,L,_⟩:=I.tuple U;obtain⟨m,i,G,_⟩:=I.tuple S;refine HT.J0 L G (λz=>P (j.sI.mp z)) (λz=>⟨.ref a,H,I,rfl,F (i.sI.mp z)⟩) (λz=>?_) (by rw[<-j.length,<-i.length];exact hz);refine⟨.ref s.heap.objs.size,_,I.laid (t':=s.toks) (o:=.tup (t++n)) (λb Y q=>zaq _ q) (zcK _) ?_,rfl,q2 (λw=>z (i.sI.mpr w)) _ (I.hok.fresh (zcK _))⟩;exact⟨by rw[zaM];exact hz,_,j.append i,IsTup.new _ _⟩
end
noncomputable def Hw(n:Nat)(i:Int):Option Nat:=if 0<=i then(if i<n then some i.toNat else none) else if -(n:Int)<=i then some (i+n).toNat else none
noncomputable def fB{α:Type}(a:List α)(i:Int):Option α:=(Hw a.length i).bind λj=>a[j]?
theorem Jl{i:Int}(h:Hw n i=some j):seqIndex? i n=some j/\j<n/\-(n:Int)<=i/\i<n:=by
 unfold Hw at h;by_cases a:0<=i
 ·rw[yIp a] at h;by_cases h1:i<n
  ·rw[yIp h1] at h;have e:i.toNat=j:=zcN.inj h;exact⟨by rw[seqIndex_of a h1,e],by lia,by lia,h1⟩
  ·rw[yIn h1] at h;cases h
 ·rw[yIn a] at h;by_cases h1: -(n:Int)<=i
  ·rw[yIp h1] at h;have e:(i+n).toNat=j:=zcN.inj h;exact⟨by rw[seqIndex_neg (by lia) h1,e],by lia,h1,by lia⟩
  ·rw[yIn h1] at h;cases h
theorem tP{α:Type}{a:List α}{i:Int}{v:α}(h:fB a i=some v):∃j,seqIndex? i a.length=some j/\a[j]? =some v/\j<a.length/\-(a.length:Int)<=i/\i<a.length:=by
 unfold fB at h;cases e:Hw a.length i with
 |none=>rw[e] at h;cases h
 |some j=>
  rw[e] at h;obtain⟨h1,h2,m,l⟩:=Jl e;exact⟨j,h1,h,h2,m,l⟩
theorem cR{α:Type}{a:List α}{v:α}(h:a[j]? =some v):fB a (j:Int)=some v:=by
 have i:j<a.length:=(zad.mp h).1;have e:Hw a.length (j:Int)=some j:=by
  unfold Hw;rw[yIp (by lia),yIp (by lia)];simp
 unfold fB;rw[e];exact h
def nG(b:Expr):Prop:=∀o i,subscripted b false o i=operate [o,i] (getItem o i)
def Hz(X:Cx)(r:R2):Prop:=
 ∀(i a:Expr)(h:List (Addr×Obj))(s:yah)(j:St)(H:Hp)(x y:V)(v u:yai)(Q:VK),Inv X h j H s->RelV x v->RelV y u->r x y H Q->
  subscripted a false v u=operate [v,u] (getItem v u)->yar (model X.prog X.w) X.A (subscriptTail i a v u) (EP X h j Q) X.xe s
def CZ(X:Cx)(id:String)(r:V->List V->Hp->VK->Prop):Prop:=
 ∀(a:List (Addr×Obj))(s:yah)(h:St)(H:Hp)(x:V)(i:List V)(v:yai)(j:List yai)(Q:VK),Inv X a h H s->RelV x v->Vals i j->r x i H Q->
  yar (model X.prog X.w) X.A (call (.builtin id) (v::j)) (EP X a h Q) X.xe s
section
variable {a b:Expr}{ta tb:TE}
theorem Hz.or{r t:R2}(h:Hz X r)(h':Hz X t):Hz X (λx y H Q=>r x y H Q∨t x y H Q):=by
 intro i j l s m H x y v u Q I o n q C;rcases q with q|q
 ·exact h i j l s m H x y v u Q I o n q C
 ·exact h' i j l s m H x y v u Q I o n q C
theorem CZ.or{id:String}{r t:V->List V->Hp->VK->Prop}(h:CZ X id r)(h':CZ X id t):CZ X id (λx j H Q=>r x j H Q∨t x j H Q):=by
 intro i s l H x j v m Q I n o q;rcases q with q|q
 ·exact h i s l H x j v m Q I n o q
 ·exact h' i s l H x j v m Q I n o q
theorem Ac{r:R2}(t:Hz X r)(E:PE X a ta)(C:PE X b tb)(o:nG b):PE X (.Subscript a b pos) (PL r ta tb):=by
 intro i s j H Q I h;exact Subscript_ (OP E C I h λv u l x y G F n m q=>t a b i l j G x y v u Q F n m q (o _ _))
def QD(K:yaI):R2:=λx y H Q=>∃p h i v,x=.ref p/\y=.int i/\cF K H p h/\fB h i=some v/\Q v H
def QB(K:yaI):R2:=λx y H Q=>∃p h i v,x=.ref p/\y=.int i/\dI K H p h/\fB h i=some v/\Q v H
def QC:R2:=λx y H Q=>∃z i c,x=.str z/\y=.int i/\z.length<=yag/\fB z.cps.toList i=some c/\Q (.str ⟨#[c]⟩) H
theorem Jk:Hz X (QD X.K):=by
 intro n o l s G H x y v u Q I W U h L;obtain⟨p,xs,i,z,rfl,rfl,Y,he,q⟩:=h;cases W;obtain⟨t,rfl⟩:=U;obtain⟨E,r,pl,hz⟩:=I.list Y;obtain⟨j,h1,h2,h3,h4,h5⟩:=tP he;obtain⟨w,P,C⟩:=r.get h2;have Z:=r.length;have hn:=oN;have m:EP X l G Q w s:=⟨z,H,I,C,q⟩
 by_cases O:0<=i
 ·have F:i.toNat=j:=by
   rw[seqIndex_of O h5] at h1;exact zcN.inj h1
  exact item_listR pl.isList O (by lia) (by rw[F];simpa using P) m L
 ·have F:(i+(E.toArray.size:Int)).toNat=j:=by
   rw[seqIndex_neg (by lia) h4] at h1;rw[zaY,<-Z];exact zcN.inj h1
  exact subscriptTail_builtinR (x:=w) pl.isList.typeIs slot_list_getitem.lookup
   (wpAny_getItem_list_neg (Q:=λr S=>r=w/\EP X l G Q r S) pl.isList (by lia) (by rw[zaY]<;>lia) (by lia) (by rw[F];simpa using P) ⟨rfl,m⟩) L
theorem aE:Hz X (QB X.K):=by
 intro m n l s E H x y v u Q I L G h P;obtain⟨p,Z,i,z,rfl,rfl,S,W,q⟩:=h;cases L;obtain⟨t,rfl⟩:=G;obtain⟨O,r,pl,hz⟩:=I.tuple S;obtain⟨j,h1,h2,h3,h4,h5⟩:=tP W;obtain⟨w,Y,o⟩:=r.get h2;have U:=r.length;have hn:=oN;have C:EP X l E Q w s:=⟨z,H,I,o,q⟩
 exact subscriptTail_builtinR (x:=w) pl.typeIs slot_tuple_getitem.lookup
  (getItem_tuple (j:=j) (Q:=λr F=>r=w/\EP X l E Q r F) pl (by lia) (by lia) (by rw[zaY,<-U];exact h1) (by simpa using Y) ⟨rfl,C⟩) P
theorem NU:Hz X QC:=by
 intro l m n s U H x y v u Q I C o h E;obtain⟨z,i,c,rfl,rfl,hz,G,q⟩:=h;obtain⟨t,rfl⟩:=C;obtain⟨W,rfl⟩:=o;obtain⟨j,h1,h2,Z,O,L⟩:=tP G;have F:z.cps.toList.length=z.length:=by simp[Str.length]
 rw[F] at h1 O L;have Y:=oN;exact tail_any (typeIs_str s z t) slot_str_getitem.lookup (getItem_str (c:=c) (by
  have S:decide (i< -(2 ^ 63:Int))=false:=yDf (by lia);have P:decide (i≥2 ^ 63)=false:=yDf (by lia);rw[S,P,zco]) (by rw[h1];simpa using h2) ⟨.str ⟨#[c]⟩,H,I.tok _,⟨_,rfl⟩,q⟩) E
def rIx(K:yaI):R2:=λx y H Q=>QD K x y H Q∨QB K x y H Q∨QC x y H Q
theorem NV:Hz X (rIx X.K):=Jk.or (aE.or NU)
theorem rX(lo hi:Option Int)(n:Nat):(sliceBounds lo hi none n).1=((HT.l6 n 0 lo:Nat):Int)/\(sliceBounds lo hi none n).2.1=((HT.l6 n n hi:Nat):Int)/\(sliceBounds lo hi none n).2.2=1:=by
 refine⟨?_,?_,rfl⟩
 ·cases lo with
  |none=>simp[sliceBounds,HT.l6]
  |some i=>
   simp only[sliceBounds,HT.l6,Option.getD_none,show(1:Int)> 0 by decide,if_true];by_cases h:i<0
   ·simp only[h,if_true]<;>lia
   ·simp only[h,if_false]<;>lia
 ·cases hi with
  |none=>simp[sliceBounds,HT.l6]
  |some i=>
   simp only[sliceBounds,HT.l6,Option.getD_none,show(1:Int)> 0 by decide,if_true];by_cases h:i<0
   ·simp only[h,if_true]<;>lia
   ·simp only[h,if_false]<;>lia
theorem pW(its:List yai)(lo hi:Option Int):slicePick its.toArray lo hi none=((its.drop (HT.l6 its.length 0 lo)).take (HT.l6 its.length its.length hi - HT.l6 its.length 0 lo)).toArray:=by
 obtain⟨h1,h2,h⟩:=rX lo hi its.toArray.size;unfold slicePick;rw[h1,h2,h];simp only[sliceRange_one,pick_run,zaY]<;>rfl
def SO(K:yaI):V->Option Int->Option Int->Hp->VK->Prop:=λx lo i H Q=>∃a h,x=.ref a/\cF K H a h/\∀p,H p=none->Q (.ref p) (upd H p (.lst (Ct h lo i)))
theorem HQ:O8 X (SO X.K):=by
 intro m s E H x v G F lo l L Q I t C pl pu h;obtain⟨a,i,rfl,y,q⟩:=h;cases t;obtain⟨u,r,n,hz⟩:=I.list y;have j:=r.length;refine⟨"list",_,slot_list_getitem.lookup,n.isList.typeIs,?_⟩;refine wpAny_getItem_list_slice n.isList C pl pu .none (by simp) ?_ (by rw[zaY]<;>lia);rw[pW,<-j];refine⟨.ref s.heap.objs.size,_,I.laid (t':=s.toks) (o:=.lst (Ct i lo l)) (λb O q=>zaq _ q) (zcK _) ?_,rfl,q _ (I.hok.fresh (zcK _))⟩;exact⟨zcy (vQ i lo l) hz,_,0,(r.drop (HT.l6 i.length 0 lo)).take (HT.l6 i.length i.length l - HT.l6 i.length 0 lo),zaK _ rfl⟩
theorem tO:bX X (.type "list") (λL H Q=>∃p m,L=[.ref p]/\(cF X.K H p m∨dI X.K H p m)/\∀l,H l=none->Q (.ref l) (upd H l (.lst m))):=by
 intro x s P H L U Q I r h;obtain⟨p,m,rfl,y,q⟩:=h;obtain⟨u,rfl,S⟩:=vals1 r;cases S;have E:∀(i:List yai),Vals m i->m.length<=yag->∀(j:Heap)(v:Nat),(∀b O,s.heap.get? b=some O->j.get? b=some O)->
   j.get? s.heap.objs.size=some {cls:=.type "list",dict:=none,data:=.seq i.toArray v,slots:=#[]}->EP X x P Q (.ref s.heap.objs.size) {s with heap:=j}:=λi t hz j v kp e=>
  ⟨.ref s.heap.objs.size,_,I.laid (t':=s.toks) kp (zcK _) (show bg X.prog X.w _ j _ (.lst m) from⟨hz,i,v,t,e⟩),rfl,q _ (I.hok.fresh (zcK _))⟩
 rcases y with y|y
 ·obtain⟨i,t,pl,hz⟩:=I.list y;have C:=t.length;obtain⟨o,F,G,n,hd⟩:=pl.isList;exact call_list_seq p (.inl rfl) F G hd (λj v kp e=>E i t hz j v kp e) (by simp only[zaY]<;>lia)
 ·obtain⟨i,t,pl,hz⟩:=I.tuple y;have C:=t.length;obtain⟨o,F,G,n,hd⟩:=pl;exact call_list_seq p (.inr rfl) F G hd (λj v kp e=>E i t hz j v kp e) (by simp only[zaY]<;>lia)
theorem qb:bX X (.type "tuple") (λy H Q=>∃p m,y=[.ref p]/\((cF X.K H p m/\∀l,H l=none->Q (.ref l) (upd H l (.tup m)))∨(dI X.K H p m/\Q (.ref p) H))):=by
 intro i s x H y L Q I r h;obtain⟨p,m,rfl,h⟩:=h;obtain⟨u,rfl,F⟩:=vals1 r;cases F;rcases h with⟨v,q⟩|⟨v,q⟩
 ·obtain⟨j,t,pl,hz⟩:=I.list v;have C:=t.length;refine call_tuple_list pl.isList (λn kp=>?_) (by simp only[zaY]<;>lia);have E:Inv X i x H {s with heap:=n}:=I.kept (t':=s.toks) kp;have G:Inv X i x (upd H n.objs.size (.tup m)) {s with heap:=n.push {cls:=.type "tuple",data:=.seq j.toArray}}:=
   E.laid (t':=s.toks) (λb o e=>zaq _ e) (zcK _) (show bg X.prog X.w _ _ _ (.tup m) from⟨hz,j,t,IsTup.new _ _⟩)
  exact⟨.ref n.objs.size,_,G,rfl,q _ (E.hok.fresh (zcK _))⟩
 ·obtain⟨j,t,pl,hz⟩:=I.tuple v;exact call_tuple_same pl ⟨.ref p,H,I,rfl,q⟩
def Sa(K:yaI)(T:String)(x:V)(H:Hp):Prop:=match x with
 |.str _=>T="str"
 |.int _=>T="int"
 |.ref p=>(T="list"/\∃i,cF K H p i)∨(T="tuple"/\∃o,K.lookup p=some o/\o.cls=.type "tuple"/\o.dict=none)∨
   (T="dict"/\((∃h,H p=some (.dK h))∨∃h,H p=some (.dT h)))∨(T="set"/\∃S n,H p=some (.set S n))
 |_=>False
theorem Di{m:St}{T:String}{x:V}{v:yai}(I:Inv X pins m H s)(r:RelV x v)(ty:Sa X.K T x H):
  s.TypeIs v T/\∀a,v=.ref a->∃ob,s.heap.get? a=some ob/\ob.dict=none:=by
 cases x with
 |str z=>
  obtain⟨t,rfl⟩:=r;cases(show T="str" from ty);exact⟨typeIs_str s z t,λ_ e=>nomatch e⟩
 |int i=>
  obtain⟨t,rfl⟩:=r;cases(show T="int" from ty);exact⟨typeIs_int s i t,λ_ e=>nomatch e⟩
 |ref p=>
  cases r;rcases ty with⟨rfl,C,u⟩|⟨rfl,o,h,y,hd⟩|⟨rfl,h⟩|⟨rfl,S,n,h⟩
  ·obtain⟨q,_,pl,_⟩:=I.list u;refine⟨pl.isList.typeIs,λa e=>?_⟩;cases e;obtain⟨o,n,e,c,hd,_⟩:=pl;exact⟨o,e,hd⟩
  ·refine⟨⟨o,I.mq p o h,y⟩,λa e=>?_⟩;cases e;exact⟨o,I.mq _ o h,hd⟩
  ·have z:∃o,s.heap.get? p=some o/\o.ExactDict:=by
    rcases h with⟨j,h⟩|⟨j,h⟩
    ·obtain⟨_,_,_,_,o,_,_,e,ex,_⟩:=I.hok p _ h;exact⟨o,e,ex⟩
    ·obtain⟨_,_,_,_,o,_,_,e,ex,_⟩:=I.hok p _ h;exact⟨o,e,ex⟩
   obtain⟨o,e,ex⟩:=z;refine⟨⟨o,e,ex.1⟩,λa l=>?_⟩;cases l;exact⟨o,e,ex.2.1⟩
  ·obtain⟨o,_,_,_,e,ex,_⟩:=I.hok p _ h;refine⟨⟨o,e,ex.1⟩,λa l=>?_⟩;cases l;exact⟨o,e,ex.2.1⟩
 |_=>exact False.elim ty
def LX(K:yaI)(T:String)(r:V->List V->Hp->VK->Prop)(to:TE):TE:=λi H Q=>to i H λx h=>Sa K T x h/\r x [] h Q
def Su(K:yaI)(T:String)(r:V->List V->Hp->VK->Prop)(to:TE)(t:TA):TE:=λh H Q=>to h H λx i=>Sa K T x i/\t h i λj l=>r x j l Q
variable {o:Expr}{es:List Expr}{to:TE}{t:TA}{cpos:Pos}{T id:String}{r:V->List V->Hp->VK->Prop}
theorem yf(F:PlainAttrs T)(slot:Slot T name id)(n:typeOf (.builtin id)=pure (.type "method_descriptor"))(L:CZ X id r)(G:PE X o to)(l:attributeBase o name X.env (eval o X.env)=eval o X.env:=by rfl)(j:(apos.endLine==cpos.line)=true:=by rfl):PE X (.Call (.Attribute o name apos) [] [] cpos) (LX X.K T r to):=by
 intro i s q H Q I h;refine wpAny_Call_method0_late l j (bT (G i s q H _ I h) λv C m=>?_);obtain⟨x,O,y,u,ty,E⟩:=m;obtain⟨h1,h2⟩:=Di y u ty;exact⟨T,id,F,slot,n,h1,h2,Calls.callWith_builtin rfl (PySem.evalArgs_none (L i C q O x [] v [] Q y u .nil E))⟩
theorem fu(U:PlainAttrs T)(slot:Slot T name id)(y:typeOf (.builtin id)=pure (.type "method_descriptor"))(Z:CZ X id r)(Y:PE X o to)(ha:PA X (e::es) t)(n:attributeBase o name X.env (eval o X.env)=eval o X.env:=by rfl)(q:((yau cpos (yao (e::es) X.env)).all (λx=>!x.1)&&(yaE cpos (yaD [] X.env)).all (λx=>x.1.isSome)&&decide ((e::es).length+([]:List Keyword).length+(if([]:List Keyword).isEmpty then 0 else 1)<30))=true:=by rfl)(m:(apos.endLine==cpos.line)=true:=by rfl)(W:yao (e::es) X.env=(false,eval e X.env)::yao es X.env:=by rfl)(j:(yau cpos (yao es X.env)).any (·.1)=false:=by rfl):
  PE X (.Call (.Attribute o name apos) (e::es) [] cpos) (Su X.K T r to t):=by
 intro i s u H Q I h;refine wpAny_Call_method_late n q m rfl (bT (Y i s u H _ I h) λv O l=>?_);obtain⟨x,H1,F,C,ty,S⟩:=l;obtain⟨h1,h2⟩:=Di F C ty;refine⟨T,id,U,slot,y,h1,h2,?_⟩;have E:=ha cpos i O u H1 _ F S;rw[W] at E⊢;refine Calls.callWith_builtin (by show(false||(yau cpos (yao es X.env)).any (·.1))=false;rw[j]<;>rfl) (Calls.evalArgs_plain ?_);refine bT E λG L l=>?_;obtain⟨vs,H2,I2,P,q2⟩:=l;exact Z i L u H2 x vs v G Q I2 C P q2
end
def TU(X:Cx)(id:String)(r:V->List V->Hp->VK->Prop):Prop:=
 ∀(a:List (Addr×Obj))(s:yah)(h:St)(H:Hp)(x:V)(i:List V)(v:yai)(j:List yai)(Q:VK),Inv X a h H s->RelV x v->Vals i j->r x i H Q->
  yar (model X.prog X.w) X.A (call (.builtin id) (v::j)) (EP X a h Q) X.xe s
theorem Vals.one:∀{x:V}{us:List yai},Vals [x] us->∃u,us=[u]/\RelV x u:=by
 intro x us h;cases h with
 |cons r t=>cases t;exact⟨_,rfl,r⟩
theorem Vals.zero:∀{us:List yai},Vals [] us->us=[]
 |_,.nil=>rfl
theorem Vals.dropLast(h:Vals xs us):Vals xs.dropLast us.dropLast:=by
 induction h with
 |nil=>exact .nil
 |cons r t ih=>
  cases t with
  |nil=>exact .nil
  |cons q t'=>exact .cons r ih
theorem Vals.rep(h:Vals xs us):∀k:Nat,Vals (zcc k xs).flatten (zcc k us).flatten
 |0=>.nil
 |k+1=>by
  rw[zaE,zaE,zbb,zbb];exact Vals.append h (Vals.rep h k)
theorem yK{α:Type}(l:List α):l.eraseIdx (l.length - 1)=l.dropLast:=by
 induction l with
 |nil=>rfl
 |cons a r ih=>
  cases r with
  |nil=>rfl
  |cons b r=>
   have e:(a::b::r).length - 1=((b::r).length - 1)+1:=by
    have h1:(a::b::r).length=r.length+2:=rfl;have h2:(b::r).length=r.length+1:=rfl;lia
   rw[e,List.eraseIdx_cons_succ,ih]
   all_goals rfl
theorem foldl_rep(its:List yai):∀(k:Nat)(a:List yai),
  List.foldl (λi h=>i++h) a.toArray (zcc k its.toArray)=(a++(zcc k its).flatten).toArray
 |0,a=>by simp
 |k+1,a=>by
  have e:a.toArray++its.toArray=(a++its).toArray:=by simp
  have j:(a++its)++(zcc k its).flatten=a++(zcc (k+1) its).flatten:=by
   rw[zaE,zbb,zbc]
  rw[<-j,<-foldl_rep its k (a++its),<-e,zaE,zbQ]
section
variable {σ:St}{b:Addr}{ys zs:List V}
theorem Inv.Jg{its its':List yai}{f:Array yai->Array yai}(I:Inv X pins σ H s)(m:H l=some (.lst xs))(e:s.heap.get? l=some {cls:=.type "list",data:=.seq its.toArray n})(i:f its.toArray=its'.toArray)(a:Vals ys its')(hz:ys.length<=yag):
  Inv X pins σ (upd H l (.lst ys)) {s with heap:=s.heap.update l (Obj.mapSeq f),toks:=t'}:=by
 have q:=PySem.IsL.update e f;rw[i] at q;refine I.write (x:=l) (e:=l) (by rw[m];exact trivial) (.inl rfl) (λo u j h=>(zar s.heap (Obj.mapSeq f) (Ne.symm j)).trans h) ⟨_,q⟩ ?_;exact⟨hz,its',_,a,q⟩
theorem Inv.Q3{its:List yai}(I:Inv X pins σ H s)(a:Vals ys its)(hz:ys.length<=yag):
  Inv X pins σ (upd H s.heap.objs.size (.lst ys)) {s with heap:=s.heap.push {cls:=.type "list",data:=.seq its.toArray},toks:=t'}:=
 I.laid (λ_ _ q=>zaq _ q) (zcK _) ⟨hz,its,0,a,zaK _ rfl⟩
theorem Inv.fresh(I:Inv X pins σ H s):H s.heap.objs.size=none:=I.hok.fresh (zcK _)
theorem Inv.vn(I:Inv X pins σ H s)(a:H l=some (.lst xs)):xs.length<=yag/\∃(its:List yai)(n:Nat),Vals xs its/\xs.length=its.length/\s.heap.get? l=some {cls:=.type "list",data:=.seq its.toArray n}:=by
 obtain⟨z,its,n,r,e⟩:=I.hok l _ a;exact⟨z,its,n,r,r.length,e⟩
theorem oB(h:n<=yag):Builtin.List.listTooLong n=false:=by
 unfold Builtin.List.listTooLong;exact yDf (by lia)
end
def z7:V->List V->Hp->VK->Prop:=λx vs H Q=>∃l a y,x=.ref l/\vs=[y]/\H l=some (.lst a)/\a.length<yag/\Q .bD (upd H l (.lst (a++[y])))
theorem B7:TU X "list.append" z7:=by
 intro i s t H x vs v E Q I m o h;obtain⟨l,C,y,rfl,rfl,j,hz,q⟩:=h;cases m;obtain⟨u,rfl,ru⟩:=o.one;obtain⟨z,a,n,r,G,e⟩:=I.vn j;refine call_meets F.slot_list_append ⟨_,e,rfl⟩ F.entry_list_append (F.args_list_append_2 _ _) (PySem.list_append l a.toArray n u (by rw[zaY];lia)) ⟨e,?_⟩;refine⟨.bD,_,I.Jg (its':=a++[u]) j e (by simp) (r.append (.cons ru .nil)) ?_,rfl,q⟩;rw[zaM,List.length_singleton];lia
def z6:V->List V->Hp->VK->Prop:=λx vs H Q=>∃l b h a,x=.ref l/\vs=[.ref b]/\H l=some (.lst h)/\H b=some (.lst a)/\h.length+a.length<=yag/\Q .bD (upd H l (.lst (h++a)))
theorem B6:TU X "list.extend" z6:=by
 intro m s S H x vs v Z Q I y C h;obtain⟨l,b,Y,U,rfl,rfl,o,O,hz,q⟩:=h;cases y;obtain⟨u,rfl,ru⟩:=C.one;cases ru;obtain⟨z,i,n,r,hl,e⟩:=I.vn o;obtain⟨W,a,G,E,L,P⟩:=I.vn O;have j:i.toArray.size+a.toArray.size<=yag:=by rw[zaY,zaY];lia
 have t:¬(!i.toArray.isEmpty&&Builtin.List.listTooLong (i.toArray.size+a.toArray.size))=true:=by
  rw[oB j,Bool.and_false];exact zaT
 refine call_meets F.slot_list_extend ⟨_,e,rfl⟩ F.entry_list_extend (F.args_list_extend_2 _ _)
  (AutoSeq1.list_extend_list_list_0 l i.toArray n b a.toArray G t (by rw[zaY];lia) (by lia)) ⟨e,P,?_⟩
 refine⟨.bD,_,I.Jg (its':=i++a) o e (by simp) (r.append E) ?_,rfl,q⟩;rw[zaM];lia
def Qz:V->List V->Hp->VK->Prop:=λx vs H Q=>∃l a y,x=.ref l/\vs=[]/\H l=some (.lst a)/\a[a.length - 1]? =some y/\Q y (upd H l (.lst a.dropLast))
theorem NB:TU X "list.pop" Qz:=by
 intro m s O H x vs v S Q I t C h;obtain⟨l,P,y,rfl,rfl,o,E,q⟩:=h;cases t;have j:=C.zero;subst j;obtain⟨z,a,n,r,L,e⟩:=I.vn o;obtain⟨u,G,ru⟩:=r.get E;have i:a.toArray[a.toArray.size - 1]? =some u:=by
  show a.toArray[a.length - 1]? =some u;rw[<-zaw,<-L];exact G
 refine call_meets F.slot_list_pop ⟨_,e,rfl⟩ F.entry_list_pop (F.args_list_pop_1 _) (MeetsSeq.list_pop_last l a.toArray n u i (by rw[zaY];lia)) ⟨e,?_⟩;refine⟨y,_,I.Jg (its':=a.dropLast) o e ?_ r.dropLast ?_,ru,q⟩
 ·show a.toArray.eraseIdxIfInBounds (a.toArray.size - 1)=a.dropLast.toArray;rw[zaY,List.eraseIdxIfInBounds_toArray,yK]
 ·rw[List.length_dropLast];lia
def SY:R2:=λx y H Q=>∃l b h a,x=.ref l/\y=.ref b/\H l=some (.lst h)/\H b=some (.lst a)/\h.length+a.length<=yag/\∀p,H p=none->Q (.ref p) (upd H p (.lst (h++a)))
theorem Nn:fE X (binaryOp .Add) SY:=by
 intro j s O H x y v u Q I o m h;obtain⟨l,b,W,S,rfl,rfl,E,F,hz,q⟩:=h;cases o;cases m;obtain⟨z,i,n,r,Z,e⟩:=I.vn E;obtain⟨U,a,Y,t,C,L⟩:=I.vn F;refine PySem.P.add_list e L ?_ (by rw[zaY,zaY];lia);have G:i.toArray++a.toArray=(i++a).toArray:=by simp
 rw[G];exact⟨.ref _,_,I.Q3 (t':=s.toks) (r.append t) (by rw[zaM];lia),rfl,q _ I.fresh⟩
def SQ:R2:=λx y H Q=>∃l k a,x=.ref l/\y=.int k/\H l=some (.lst a)/\-(2 ^ 63)<=k/\k<2 ^ 63/\a.length*k.toNat<=yag/\
 ∀p,H p=none->Q (.ref p) (upd H p (.lst (zcc k.toNat a).flatten))
theorem len_rep{α:Type}(a:List α)(k:Nat):(zcc k a).flatten.length=k*a.length:=by
 induction k with
 |zero=>simp
 |succ k ih=>rw[zaE,zbb,zaM,ih,Nat.succ_mul,Nat.add_comm]
theorem Nd:fE X (binaryOp .Mult) SQ:=by
 intro O s σ H x y v u Q I Y W h;obtain⟨l,k,xs,rfl,rfl,hH,h1,h2,hz,q⟩:=h;cases Y;obtain⟨t,rfl⟩:=W;obtain⟨z,i,n,r,Z,e⟩:=I.vn hH;have o:i.toArray.size*k.toNat<=yag:=by rw[zaY,<-Z];exact hz
 have E:¬i.toArray.size*k.toNat> (2 ^ 63 - 1) / 8:=by
  have:(yag:Nat)<=(2 ^ 63 - 1) / 8:=by decide
  lia
 have C:¬(!Builtin.List.listFitsIndex k)=true:=by
  rw[fitsIndex_both h1 h2];exact zaT
 have P:¬Builtin.List.listTooLong (i.toArray.size*k.toNat)=true:=by
  rw[oB o];exact zaT
 have j:List.foldl (λL G=>L++G) #[] (zcc (if i.toArray.isEmpty=true then 0 else k.toNat) i.toArray)=(zcc k.toNat i).flatten.toArray:=by
  have f0:∀m:Nat,List.foldl (λL G=>L++G) #[] (zcc m i.toArray)=(zcc m i).flatten.toArray:=λm=>by
   have:=foldl_rep i m [];rw[zbR] at this;exact this
  rw[f0];cases i with
  |nil=>simp
  |cons a r'=>rw[yIn (by simp)]
 refine wpAny_binaryOp_repeat_ref (T:="list") (U:="int") (by decide) ⟨_,e,rfl⟩ (λS=>typeIs_int S k t) noFill_list_mul F.fills_int_mul F.slot_int_rmul repeat_list F.slot_int_index.lookup
  (call_meets F.slot_int_rmul (typeIs_int s k t) F.entry_int_rmul (F.args_int_rmul_2 _ _) (int___rmul___int_list k t l i.toArray n) ⟨e,rfl,⟨_,e,rfl⟩,call_meets F.slot_list_mul ⟨_,e,rfl⟩ F.entry_list_mul (F.args_list_mul_2 _ _) (AutoListH.list___mul___list_int_3 l i.toArray n k t C E P) ⟨e,?_⟩⟩)
 rw[j];exact⟨.ref _,_,I.Q3 (t':=s.toks) (r.rep k.toNat) (by rw[len_rep,Nat.mul_comm];exact hz),rfl,q _ I.fresh⟩
end L2
namespace Att
open PySem PySem.W PySem.Calls PyProof.Rows
theorem mP{P:Params}:∀(ns:List Int)(vs:List yai),WellAll P h vs (ns.map WData.int)->IntsAre vs ns:=by
 intro ns
 induction ns with
 |nil=>
  intro vs w;rw[zct] at w;cases w;exact .nil
 |cons n ns ih=>
  intro vs w;rw[zcj] at w;cases w with
  |cons a b=>
   cases a;exact .cons _ _ (ih _ b)
theorem BO{l:OpenLaw}(y:l.most=some n){P:Params}{args:List WData}{i:List yai}(j:l.row.toRowW.claim.pre args=true)(t:WellAll P h i args):
  ∃a vs ns,i=[Value.ref a]/\args=[WData.list (ns.map WData.int)]/\h.get? a=some {cls:=.type "list",data:=.seq vs.toArray}/\IntsAre vs ns/\ns.length<=n:=by
 have u:WShape.hasAll [] args [.list .int]=true:=(pre_splitW j).1;have v:l.pre.holds [] {args:=args}=true:=(pre_splitW j).2;obtain⟨d,r,rfl,h1,h2⟩:=hasAllW_cons u;obtain rfl:=hasAllW_nil h2;obtain⟨E,rfl,C⟩:=hasW_list h1;obtain⟨ns,rfl⟩:=items_int C;have m:ns.length<=n:=by
  unfold OpenLaw.pre at v;have s:(WTm.not (.lt (.lit (.int (n:Int))) (.len (.arg 0)))).holds [] {args:=[.list (ns.map .int)]}=true:=by
   have s:=(holds_andW v).1;rw[y] at s;exact s
  have o:=condW_of s (w_not (w_lt w_lit (w_len_list (w_arg rfl))));rw[zbK] at o;refine Nat.le_of_not_lt λq=>?_;have x:(n:Int)<((ns.length:Nat):Int):=by lia
  first
   |(rw[yDt x] at o;exact absurd o (by decide))
   |(simp at o;lia)
 cases t with
 |cons w1 w2=>
  cases w2;cases w1 with
  |list ho hall=>exact⟨_,_,ns,rfl,rfl,ho,mP ns _ hall,m⟩
theorem BR(l:OpenLaw)(args:List WData):l.row.toRowW.claim.post args (.bool true) args=true:=
 postW_of (r:=l.row.toRowW) (X:=(true==true))
  (show WShape.has [] (.bool true) .bool=true by first|rfl|decide|simp[WShape.has,WShape.arms,WShape.armsAll])
  (show(WTm.eq .res (.lit (.bool true))).value [] {args:=args,res:=some (.bool true),after:=args}=some (.bool (true==true)) from w_eq_bool (w_res rfl) w_lit) rfl
theorem wc{l:OpenLaw}{q:yaj}{d:DefRec}(S:l.most=some n)(C:d.params.defaults=[])(call:∀(w:yak)(s₀ h:yah)(mg mb:Str->Option yai)(u:Addr)(o:Obj)(pm v j:yai)(a:Addr)(vs:List yai)(ns:List Int),Ground q loose [] XP w s₀ mg mb h.heap->YP w h.heap->h.heap.get? u=some o->o.data=.func (docDef d.name d.params d.body d.scope pm v j)->h.heap.CodeRec v d.name->mg d.name=some (.ref u)->h.heap.get? a=some {cls:=.type "list",data:=.seq vs.toArray}->IntsAre vs ns->ns.length<=n->h.gens=#[]->codeAny (model l.prog w) callerA (.call (.ref u) ⟨[.ref a],[]⟩) (λr s'=>r=.ok (.ret (.bool true))/\OldK h.heap s'.heap/\s'.os=h.os/\AllBare s'.gens) h):
  WalkO q loose XP YP l.row.toRowW d [] (λf vs=>PySem.call f vs):=by
 intro w s₀ h mg mb G Y u o pm v j dV kV Q hd E I y X L F as m H O x W;obtain rfl:dV=.none:=Dflts.none I C;obtain rfl:kV=.none:=Dflts.noKw I;obtain⟨a,vs,ns,rfl,rfl,s,i,t⟩:=BO S m x;refine enter_call (yax (call w s₀ h mg mb u o pm v j a vs ns G Y Q (fd_plain hd) E y s i t X) λr s' P=>?_);obtain⟨rfl,h2,h3,Z⟩:=P;exact⟨.inl ⟨.bool true,.bool true,[],rfl,λ_=>rfl,.bool true,BR l _,λ_=>⟨List.Pairwise.nil,λ_ U=>(nomatch U)⟩⟩,h2,h3,Z⟩
end Att
namespace L2
open PySem PySem.Spec PyProof.Rows
theorem k8:∀{vs:List yai}{ns:List Int},IntsAre vs ns->Vals (ns.map V.int) vs:=by
 intro vs ns h
 induction h with
 |nil=>exact .nil
 |cons n t h ih=>exact .cons ⟨t,rfl⟩ ih
def Pc(H:Hp):Prop:=∀b,H b=none∨∃o a,H b=some (.AJ o (.lst a))
theorem Fv{mb:Str->Option yai}{CX:Hl}{k:Nat}{fa:Addr}{sp:Sp}{i:yah}{vs:List yai}{ns:List Int}(KX:K.In i.heap)(G:i.heap.Ns yaq mg)(j:i.heap.Ns builtinsNs mb)(Y:∀x:Str,x≠"__name__"->mb x=bootBuiltins x)(I:i.heap.NoLimit)(hg:i.gens=#[])(S:i.heap.get? a=some {cls:=.type "list",data:=.seq vs.toArray})(hi:IntsAre vs ns)(hl:ns.length<=yag)(hr:aV k callerA)(F:∀base:Heap,K.In base->base.Ns yaq mg->dS P w K mg base CX k fa fd [x] sp)(y:∀(s:yah)(u:yai),yaA s fd ⟨[u],[]⟩ [(x,u)])(W:∀H:Hp,Pc H->cF K H a (ns.map V.int)->sp [.ref a] H (λv _=>v=.bl true) λ_ _ _=>False)(Z:∀H e s',CX [] H i (λ_ _ _=>False) e s'->False):
  codeAny (model P w) callerA (.call (.ref fa) ⟨[.ref a],[]⟩) (λr s'=>r=.ok (.ret (.bool true))/\OldK i.heap s'.heap/\s'.os=i.os/\AllBare s'.gens) i:=by
 have rv:=k8 hi;have Tf:=hi.length;have t:∀H:Hp,Pc H->cF K H a (ns.map V.int)->ji P w H i.heap->(∀b,H b≠none->b=a)->(H a≠none->K.lookup a=none)->
   codeAny (model P w) callerA (.call (.ref fa) ⟨[.ref a],[]⟩) (λr s'=>r=.ok (.ret (.bool true))/\OldK i.heap s'.heap/\s'.os=i.os/\AllBare s'.gens) i:=by
  intro H hO hS hok hA hK;have A6:∀{b:Addr}{o:Obj},i.heap.get? b=some o->H b=none->(s9 i.heap H).get? b=some o:=λe n=>FD e n;have U:∀{b:Addr}{o:Obj}{O:Array yav}{Q:Nat},i.heap.get? b=some o->o.data=.dict O Q->H b=none:=λ{b o O Q} e d=>by
   cases q:H b with
   |none=>rfl
   |some u=>
    have e':b=a:=hA b (by rw[q];simp);subst e';rw[S] at e;cases e;have d':Data.seq vs.toArray _=Data.dict O Q:=d;cases d'
  have l:∀{b:Addr}{m:Str->Option yai},i.heap.Ns b m->(s9 i.heap H).Ns b m:=λ{b m} ⟨o,O,Q,e,d,r⟩=>⟨o,O,Q,A6 e (U e d),d,r⟩
  have L:K.In (s9 i.heap H):=λb o e=>A6 (KX b o e) (by
   cases q:H b with
   |none=>rfl
   |some u=>
    have e':b=a:=hA b (by rw[q];simp);subst e';rw[hK (by rw[q];simp)] at e;cases e)
  have hM:Mod K mg (s9 i.heap H):=⟨L,l G,⟨mb,l j,Y⟩,by obtain⟨mc,h1,h2⟩:=I;exact⟨mc,l h1,h2⟩⟩
  have e0:zp P w K mg (s9 i.heap H) callerA [] i H:=⟨rfl,hM,λb o e=>IV e,Nat.le_of_eq (Co _ _),trivial,λb j=>absurd (show b∈([]:List Addr) from j) (by simp),hok,.of_eq hg⟩
  refine yax ((F _ L (l G)).run callerA [] i H ⟨[.ref a],[]⟩ [.ref a] [.ref a] _ _ hr e0 (y i (.ref a)) (.cons rfl .nil) (W H hO hS)) λr s' h=>?_;cases r with
  |error e=>exact(Z H e s' h).elim
  |ok fl=>
   cases fl with
   |next=>exact False.elim h
   |brk=>exact False.elim h
   |cont=>exact False.elim h
   |ret u=>
    obtain⟨v,H',os,bare,un,E,r',q⟩:=h;have q':v=.bl true:=q;subst q';obtain rfl:u=Value.bool true:=r';refine⟨rfl,OldK.of_keep λb o e=>?_,os,bare⟩;cases q:H b with
    |none=>exact un.keep b o e q (by intro z;exact absurd (show b∈([]:List Addr) from z) (by simp)) (by simp)
    |some u=>
     rcases hO b with z|⟨ob,xs,z⟩
     ·rw[q] at z;cases z
     ·have z2:=un.p7 b ob _ z;obtain⟨e1,_⟩:=hok b _ z;obtain⟨e2,_⟩:=E b _ z2;rw[e] at e1;cases e1;exact e2
 cases X:K.lookup a with
 |some o=>
  have e:=KX a o X;rw[S] at e;cases e;refine t (λ_=>none) (λ_=>.inl rfl) (.inr ⟨_,vs.toArray,_,X,rfl,rfl,rfl,by rw[zaY,Tf];exact hl,by simpa using rv⟩) (λb u z=>by have C:(none:Option HO)=some u:=z;cases C) (λb z=>absurd rfl z) λz=>absurd rfl z
 |none=>
  refine t (λb=>if b=a then some (.AJ {cls:=.type "list",data:=.seq vs.toArray} (.lst (ns.map V.int))) else none) (λb=>?_) (.inl (.inr ⟨{cls:=.type "list",data:=.seq vs.toArray},yIp rfl⟩)) (λb u z=>?_) (λb z=>?_) λ_=>X
  ·by_cases j:b=a
   ·exact .inr ⟨_,_,yIp j⟩
   ·exact .inl (yIn j)
  ·by_cases j:b=a
   ·have C:=(yIp j).symm.trans z;cases C;subst j;exact⟨S,by rw[zbK];exact hl,vs,_,rv,S⟩
   ·have C:=(yIn j).symm.trans z;cases C
  ·by_cases j:b=a
   ·exact j
   ·exact absurd (yIn j) z
theorem HA{l:PySem.W.OpenLaw}{k:Nat}{q:yaj}{d:DefRec}{K:Params->yaI}{CX:yak->Hl}{sp:yak->Sp}(S:l.most=some n)(E:n<=yag)(L:d.params.defaults=[])(Q:aV k callerA)(hY:∀(w:yak)(h:Heap),YP w h->(K w.params).In h)(F:∀(w:yak)(mg:Str->Option yai)(y:Addr)(h:Heap),(K w.params).In h->h.Ns yaq mg->mg d.name=some (.ref y)->∃fd:yap,(∀(s:yah)(u:yai),yaA s fd ⟨[u],[]⟩ [(x,u)])/\∀base:Heap,(K w.params).In base->base.Ns yaq mg->dS l.prog w (K w.params) mg base (CX w) k y fd [x] (sp w))(C:∀(w:yak)(H:Hp)(a:Addr)(ns:List Int),ns.length<=n->Pc H->cF (K w.params) H a (ns.map V.int)->sp w [.ref a] H (λv _=>v=.bl true) λ_ _ _=>False)(O:∀(w:yak)(H:Hp)(s:yah)(e:yai)(s':yah),CX w [] H s (λ_ _ _=>False) e s'->False):
  PySem.W.WalkO q loose XP YP l.row.toRowW d [] (λf vs=>PySem.call f vs):=by
 refine Att.wc S L λw s₀ m mg mb y o pm cd doc a vs ns G Y ho hd X I t j i U=>?_;have P:=hY w _ Y;obtain⟨fd,Z,hF⟩:=F w mg y _ P G.T.g I;exact Fv P G.T.g G.T.b G.T.builtins G.T.nolimit U t j (zcy i E) Q hF Z (λH hO hS=>C w H a ns i hO hS) λH e s'=>O w H m e s'
noncomputable def inClass(s:Stmt)(j:Nat):Stmt:=match s with
 |.ClassDef _ _ _ body _ _ _ _ _ _ _=>body.getD j (.Pass ⟨0,0,0,0⟩)
 |_=>.Pass ⟨0,0,0,0⟩
noncomputable def cC(s:Stmt):Arguments:=match s with
 |.FunctionDef _ a _ _ _ _ _ _ _ _=>a
 |_=>{posonlyargs:=[],args:=[],vararg:=none,kwonlyargs:=[],kw_defaults:=[],kwarg:=none,defaults:=[]}
noncomputable def bE(s:Stmt):List Stmt:=match s with
 |.FunctionDef _ _ b _ _ _ _ _ _ _=>b
 |_=>[]
noncomputable def ah(s:Stmt):Scope:=match s with
 |.FunctionDef _ _ _ _ _ _ sc _ _ _=>sc
 |_=>{kind:=.function,names:=[],isGenerator:=false,isCoroutine:=false}
abbrev m5:Hl:=λ_ _ _ _ _ _=>False
abbrev E0:XK:=λ_ _ _=>False
theorem Ad:Passes m5 X E0:=λ_ _ _ _ _ _ _ h=>h.elim
structure Hg(K:yaI)(x qual:Str)(st:Stmt)(f:Addr)(fd:yap):Prop where
 ex:∃(oc:yai)(od:Option Addr)(kV doc pm:yai)(an:Option Addr)(cdv ct:yai)(osl:Array (Option yai)),
  fd=zcF x qual (cC st) (bE st) (ah st) .none kV doc pm an cdv ct/\K.lookup f=some ⟨oc,od,.func fd,osl⟩/\zcg K cdv qual=true
 kp:zcf K (.ref f)=true
theorem Hg.ok{k:Nat}{sp:Sp}(F:Hg K x qual st f fd)(S:av N ps (ah st))(len:∀vs H Q E,sp vs H Q E->vs.length=ps.length)(i:∀(a:yai)(A:yal)(outer:List Env)(s:yah)(H:Hp)(vs:List V)(Q:VK)(E:XK),aV k (A.deeper (envOfC qual (ah st) s.heap.objs.size f a))->sp vs H Q E->∃t,wC (kj m5 P w K mg base N qual (ah st) f a A outer s H E).Ht (bE st) t/\t {nx:=λ_ H'=>Q .bD H',rt:=Q} (start N vs) H):dS P w K mg base m5 (k+1) f fd ps sp:=by
 obtain⟨oc,v,kV,u,pm,y,a,ct,m,rfl,n,l⟩:=F.ex;refine Rm n l S len λA outer s H vs Q E o j=>?_;obtain⟨t,h,q⟩:=i a A outer s H vs Q E o j;exact⟨t,h.Ht,q⟩
theorem Hg.binds(F:Hg K x qual st f fd)(h:∀(kV a pm:yai)(j:Option Addr)(i ct:yai)(us:List yai),us.length=ps.length->yaz (zcF x qual (cC st) (bE st) (ah st) .none kV a pm j i ct) ⟨us,[]⟩=pure (ps.zip us)):Binds K fd ps []:=by
 obtain⟨oc,n,kV,a,pm,j,i,ct,l,rfl,o,m⟩:=F.ex;exact .all (h kV a pm j i ct)
theorem jA{oc:yai}{j i:Option Addr}{kV h pm a ct:yai}(l:K.lookup f=some ⟨oc,j,.func (zcF x qual (cC st) (bE st) (ah st) .none kV h pm i a ct),osl⟩)(c:zcg K a qual=true)(k:zcf K (.ref f)=true):Hg K x qual st f (zcF x qual (cC st) (bE st) (ah st) .none kV h pm i a ct):=⟨⟨oc,j,kV,h,pm,i,a,ct,osl,rfl,l,c⟩,k⟩
theorem dW{k:Nat}(a:aV k A):A.units+1<cLine:=Nat.lt_of_le_of_lt (Nat.add_le_add_left (by decide:1<=64) _) a.units
theorem CA:bX X (.builtin "len") (λi H Q=>∃a kvs,i=[V.ref a]/\H a=some (.dK kvs)/\Q (.int kvs.length) H):=by
 intro j s n H i o Q I r h;obtain⟨a,kvs,rfl,l,q⟩:=h;obtain⟨u,rfl,ru⟩:=vals1 r;cases ru;exact Rt I (.inl l) λt v m=>⟨.int kvs.length,H,m,⟨t,rfl⟩,q⟩
theorem sV{A B:Prop}(h:B):if false=true then A else B:=by
 rw[yIn zaT];exact h
theorem sU{A B:Prop}(h:A):if true=true then A else B:=by
 rw[yIp rfl];exact h
theorem fc{c A B:Prop}[Decidable c](h1:c->A)(h2:¬c->B):if c then A else B:=by
 by_cases h:c
 ·rw[yIp h];exact h1 h
 ·rw[yIn h];exact h2 h
def gO(H H':Hp):Prop:=∀b o,H b=some o->H' b=some o
theorem gO.refl(H:Hp):gO H H:=λ_ _ h=>h
theorem gO.trans{j i:Hp}(a:gO H j)(b:gO j i):gO H i:=λc o h=>b c o (a c o h)
theorem gO.free(e:gO H H')(h:H' l=Option.none):H l=Option.none:=by
 cases q:H l with
 |none=>rfl
 |some o=>
  rw[e l o q] at h;cases h
theorem gO.seq(e:gO H H')(h:cF K H a xs):cF K H' a xs:=by
 rcases h with(h|⟨o,h⟩)|h
 ·exact .inl (.inl (e _ _ h))
 ·exact .inl (.inr ⟨o,e _ _ h⟩)
 ·exact .inr h
end L2
set_option maxHeartbeats 4000000
namespace L2
open PySem PySem.Spec PyProof.Rows
theorem ji.ur{D:Addr}{o:HO}(ok:ji P w H h)(a:H D=none)(new:bg P w (upd H D o) h D o):ji P w (upd H D o) h:=λb u e=>by
 by_cases i:b=D
 ·subst i;rw[bG] at e;cases e;exact new
 ·rw[aP i] at e;refine(ok b u e).stay (λ_ _ _ q=>q) (λc q=>?_) (λc j q=>?_)
  ·rw[aP (bF q a)];exact q
  ·rw[aP (bF q a)];exact q
theorem Inv.ur{D:Addr}{o:HO}(I:Inv X pins σ H s)(i:H D=none)(F:X.s₀.heap.objs.size<=D)(E:D≠X.env.locals)(C:∀x c,X.env.cells.lookup x=some c->c≠D)(y:∀p∈X.pn++pins,p.1≠D)(new:bg X.prog X.w (upd H D o) s.heap D o):Inv X pins σ (upd H D o) s:=by
 refine⟨I.ok,I.os,I.bare,⟨I.base.keep,I.base.slot,λb j e n v=>?_,I.base.there,λb l e=>?_,λb j u e=>?_,λb t e=>?_⟩,I.loc,I.cell,?_,λx c e=>?_,λp h=>?_,I.hok.ur i new,I.len⟩
 ·rw[aP (zcx (zaR (zcH e) F))];exact I.base.free b j e n v
 ·have q:=I.base.tups b l e;rw[aP (bF q i)];exact q
 ·have q:=I.base.p7 b j u e;rw[aP (bF q i)];exact q
 ·obtain⟨m,q⟩:=I.base.rO b t e;exact⟨m,by rw[aP (bF q i)];exact q⟩
 ·rw[aP (Ne.symm E)];exact I.free
 ·rw[aP (C x c e)];exact I.gE x c e
 ·obtain⟨e,n,a,b,d⟩:=I.pin p h;exact⟨e,by rw[aP (y p h)];exact n,a,b,d⟩
noncomputable def kq(env:Env):List (Str×NameKind)->List (Str×Addr)->List (Str×Addr)
 |[],acc=>acc
 |(n,k)::r,acc=>kq env r (if k==NameKind.free then(n,(env.cells.lookup n).getD 0)::acc else acc)
theorem jC(env:Env):∀(l:List (Str×NameKind))(i:List (Str×Addr)),(∀n,(n,NameKind.free)∈l->∃c,env.cells.lookup n=some c)->
  (forIn l i (λ(x:Str×NameKind)(r:List (Str×Addr))=>if(x.2==NameKind.free)=true then(do let a <-cellOf env x.1;pure (ForInStep.yield ((x.1,a)::r))) else pure (ForInStep.yield r)):Sem (List (Str×Addr)))=pure (kq env l i)
 |[],i,_=>rfl
 |(n,k)::r,i,h=>by
  rw[List.forIn_cons];by_cases o:(k==NameKind.free)=true
  ·have e:k=.free:=by simpa using o
   subst e;obtain⟨c,q⟩:=h n zaL;have t:cellOf env n=pure c:=by unfold cellOf;rw[q]
   have s:((NameKind.free==NameKind.free)=true)=True:=by simp
   simp only[s,if_true,t,pure_bind];rw[jC env r _ λm j=>h m (zay _ j)];show _=pure (kq env r (if(NameKind.free==NameKind.free)=true then(n,(env.cells.lookup n).getD 0)::i else i));simp only[s,if_true,q,Option.getD_some]
  ·simp only[yIn o,pure_bind];rw[jC env r _ λm j=>h m (zay _ j)];show _=pure (kq env r (if(k==NameKind.free)=true then(n,(env.cells.lookup n).getD 0)::i else i));rw[yIn o]
theorem jm(h:∀n,(n,NameKind.free)∈scope.names->∃c,env.cells.lookup n=some c):closureFor scope env=pure (kq env scope.names []):=by
 unfold closureFor;have e:=jC env scope.names [] h
 first
  |exact e
  |(simp only[bind_pure];exact e)
  |(rw[show(forIn scope.names ([]:List (Str×Addr)) _:Sem (List (Str×Addr)))=_ from e];rfl)
theorem vV(env:Env):∀(l:List (Str×NameKind))(a:List (Str×Addr))(x:Str)(c:Addr),(kq env l a).lookup x=some c->a.lookup x=some c∨(x,NameKind.free)∈l/\c=(env.cells.lookup x).getD 0
 |[],a,x,c,h=>.inl h
 |(n,k)::r,a,x,c,h=>by
  rcases vV env r _ x c h with e|⟨s,q⟩
  ·by_cases m:(k==NameKind.free)=true
   ·rw[yIp m] at e;have o:k=.free:=by simpa using m
    subst o;rw[zbt] at e;by_cases j:(x==n)=true
    ·have ex:x=n:=by simpa using j
     subst ex;rw[j] at e;exact .inr ⟨zaL,(zcN.inj e).symm⟩
    ·have i:(x==n)=false:=by simpa using j
     rw[i] at e;exact .inl e
   ·rw[yIn m] at e;exact .inl e
  ·exact .inr ⟨zay _ s,q⟩
theorem pC(env:Env):∀(l:List (Str×NameKind))(a:List (Str×Addr))(x:Str),((x,NameKind.free)∈l∨∃c,a.lookup x=some c)->∃c,(kq env l a).lookup x=some c
 |[],a,x,h=>by
  rcases h with h|h
  ·simp at h
  ·exact h
 |(n,k)::r,a,x,h=>by
  refine pC env r _ x ?_;rcases h with h|⟨c,h⟩
  ·rcases zci.mp h with e|e
   ·injection e with e1 e2;subst e1 e2;right;exact⟨(env.cells.lookup x).getD 0,by rw[yIp (by rfl),zbt];simp⟩
   ·exact .inl e
  ·right;by_cases m:(k==NameKind.free)=true
   ·rw[yIp m,zbt];by_cases j:(x==n)=true
    ·rw[j];exact⟨_,rfl⟩
    ·have i:(x==n)=false:=by simpa using j
     rw[i];exact⟨c,h⟩
   ·rw[yIn m];exact⟨c,h⟩
theorem ig{scope:Scope}{env:Env}{x:Str}{k:NameKind}:∀{names:List (Str×NameKind)},(names.map λ(n,k)=>if(k==NameKind.free&&env.scope.kind== .function&&env.kindOf n==some .cell) then(n,NameKind.cell) else(n,k)).lookup x=some k->
  names.lookup x=some k∨(k=.cell/\names.lookup x=some .free)
 |[],h=>by simp at h
 |(n,j)::r,h=>by
  have l:=@ig scope env x k r;rw[zcj,zbt] at h;rw[zbt];by_cases i:(j==NameKind.free&&env.scope.kind== .function&&env.kindOf n==some .cell)=true
  ·simp only[i,if_true] at h;cases a:x==n with
   |true=>
    rw[a] at h;have m:j=.free:=by
     simp only[zbG] at i;simpa using i.1.1
    exact .inr ⟨(zcN.inj h).symm,by rw[m]⟩
   |false=>rw[a] at h;exact l h
  ·simp only[yIn i] at h;cases a:x==n with
   |true=>rw[a] at h;exact .inl h
   |false=>rw[a] at h;exact l h
theorem jV{scope:Scope}{env:Env}{x:Str}:∀{names:List (Str×NameKind)},names.lookup x=some .free->∃k,(k=NameKind.cell∨k=.free)/\
  (names.map λ(n,k)=>if(k==NameKind.free&&env.scope.kind== .function&&env.kindOf n==some .cell) then(n,NameKind.cell) else(n,k)).lookup x=some k
 |[],h=>by simp at h
 |(n,j)::r,h=>by
  have i:=@jV scope env x r;rw[zbt] at h;rw[zcj,zbt];by_cases l:(j==NameKind.free&&env.scope.kind== .function&&env.kindOf n==some .cell)=true
  ·simp only[l,if_true];cases a:x==n with
   |true=>exact⟨.cell,.inl rfl,rfl⟩
   |false=>rw[a] at h;exact i h
  ·simp only[yIn l];cases a:x==n with
   |true=>rw[a] at h;exact⟨.free,.inr rfl,h⟩
   |false=>rw[a] at h;exact i h
noncomputable def qa(caps:List (Option Nat))(a:St):St:=caps.map λo=>o.bind λi=>(a[i]?).getD none
noncomputable def jn(a:List Str)(env:Env)(scope:Scope)(N:List Str)(caps:List (Option Nat)):Bool:=
 caps.length==N.length&&(caps.zip N).all λp=>match p.1 with
  |none=>scope.names.lookup p.2==some .local
  |some i=>a[i]? ==some p.2&&scope.names.lookup p.2==some .free&&(env.scope.names.lookup p.2==some .cell||env.scope.names.lookup p.2==some .free)
noncomputable def jd(X:Cx)(scope:Scope)(N:List Str)(s₀:yah)(H₀:Hp)(C:Addr)(fp:List Addr):Cx where
 prog:=X.prog
 w:=X.w
 K:=X.K
 mg:=X.mg
 base:=X.base
 A:=X.A
 N:=N
 s₀:=s₀
 H₀:=H₀
 env:=compEnvC scope (kq X.env scope.names []) C X.env
 outer:=X.stack
 stack:=X.stack
 ex:=fp
 fn:=λ_=>false
 calm:=X.calm
 pn:=[]
 xe:=λ_ _=>False
structure dQ(scope:Scope)(N:List Str):Prop where
 kind:scope.kind=.function
 nd:N.Nodup
 E9:∀y∈scope.names,y.2≠ .cell
 names:∀y∈scope.names,scope.names.lookup y.1=some y.2
theorem F3{a:List Str}(h:jn a env scope N caps=true):
  caps.length=N.length/\∀(j i:Nat)(x:Str),caps[j]? =some (some i)->N[j]? =some x->a[i]? =some x/\scope.names.lookup x=some .free/\(env.kindOf x=some .cell∨env.kindOf x=some .free):=by
 unfold jn at h;rw[zbG] at h;obtain⟨h1,h2⟩:=h;refine⟨by simpa using h1,λj i x n m=>?_⟩;have l:(some i,x)∈caps.zip N:=by
  refine zaB (i:=j) ?_;rw[zaf];exact⟨n,m⟩
 have q:=zbu.mp h2 _ l;simp only[zbG,Bool.or_eq_true,beq_iff_eq] at q;exact⟨q.1.1,q.1.2,q.2⟩
theorem Inv.block{s1:yah}{h1:Heap}{tk:Nat}{m:Str->Option yai}(S:dQ scope N)(Q:jn X.N X.env scope N caps=true)(t:∀n,(n,NameKind.free)∈scope.names->∃c,X.env.cells.lookup n=some c)(I:Inv X pins σ H s)(W:∀b∈fp,lZ X pins H b)(hfl:∀b∈fp,b<s.heap.objs.size)(hC:s.heap.objs.size<=C)(U:∀b o,s.heap.get? b=some o->h1.get? b=some o)(hn:h1.Ns C m):
  Inv (jd X scope N s H C fp) [] (qa caps σ) H {s with heap:=h1,toks:=tk}:=by
 obtain⟨O,hat⟩:=F3 Q;have F:∀x c,(kq X.env scope.names []).lookup x=some c->X.env.cells.lookup x=some c:=λx c e=>by
  rcases vV X.env scope.names [] x c e with z|⟨z1,z2⟩
  ·simp at z
  ·obtain⟨Z,h⟩:=t x z1;rw[h,z2,h];rfl
 have clt:∀x c,X.env.cells.lookup x=some c->c<s.heap.objs.size:=λx c e=>by
  obtain⟨v,o,L,_⟩:=I.cell x c e;exact zcH L
 have SN:∀x,((compEnvC scope (kq X.env scope.names []) C X.env).kindOf x=some .cell∨(compEnvC scope (kq X.env scope.names []) C X.env).kindOf x=some .free)->(x,NameKind.free)∈scope.names:=λx hx=>by
  have G:∀k,(compEnvC scope (kq X.env scope.names []) C X.env).kindOf x=some k->scope.names.lookup x=some k∨(k=.cell/\scope.names.lookup x=some .free):=λk e=>ig (scope:=scope) (env:=X.env) e;rcases hx with e|e
  ·rcases G _ e with z|⟨_,z⟩
   ·exact absurd rfl (S.E9 _ (PySem.mem_of_lookup z))
   ·exact PySem.mem_of_lookup z
  ·rcases G _ e with z|⟨z,_⟩
   ·exact PySem.mem_of_lookup z
   ·cases z
 refine⟨⟨I.ok.mod,S.kind,I.ok.glob,I.ok.blt,hC,λx y c e1 e2=>I.ok.inj x y c (F x c e1) (F y c e2),λx hx=>?_,λx c z _=>absurd (show false=true from z) zaT,I.ok.hd,I.ok.frames,.inl rfl,λb E=>?_,I.bs,zcy I.ok.J3 I.sz,λb o e E=>?_,λb E hb2=>?_,I.stack,I.zA⟩,rfl,I.bare,Un.kept U,⟨m,hn,λj x v e1 e2 e3=>?_⟩,λx c e=>?_,I.hok.fresh hC,λx c e=>I.gE x c (F x c e),λp hp=>absurd (show p∈([]:List (Addr×Obj)) from hp) (by simp),I.hok.kept U,?_⟩
 ·exact pC X.env scope.names [] x (.inl (SN x hx))
 ·exact⟨zcx (zaR (hfl b E) hC),λx c e=>(W b E).2.2.2.2.1 x c (F x c e)⟩
 ·rcases(W b E).2.2.2.1 with z|z
  ·exact I.ok.E8 b o e z
  ·exact absurd (zaR (zcH e) (zcy I.ok.J3 z)) (zcn _)
 ·rcases zci.mp (I.nQ b hb2) with z|z
  ·exact(W b E).2.1 z
  ·exact(W b E).2.2.1 z
 ·have a:(qa caps σ)[j]? =some (some v):=e2;unfold qa at a;rw[zba] at a;cases hc:caps[j]? with
  |none=>rw[hc] at a;cases a
  |some o=>
   rw[hc] at a;cases o with
   |none=>cases a
   |some i=>
    have Y:(σ[i]?).getD none=some v:=zcN.inj a;have e5:σ[i]? =some (some v):=by
     cases q:σ[i]? with
     |none=>rw[q] at Y;cases Y
     |some y=>rw[q] at Y;exact congrArg some Y
    obtain⟨a1,a2,a3⟩:=hat j i x hc e1;obtain⟨mX,hnX,hl⟩:=I.loc;obtain⟨u,r,l⟩:=hl i x v a1 e5 (a3.elim (λz=>.inr (.inl z)) λz=>.inr (.inr z));refine⟨u,r,.inr ?_⟩;obtain⟨c,hcx,cell⟩:∃c,X.env.cells.lookup x=some c/\s.heap.IsCell c (some u):=by
     rcases l with⟨k,_⟩|⟨_,z⟩
     ·rw[k] at a3;rcases a3 with z|z<;>cases z
     ·exact z
    obtain⟨k,hk2,P⟩:=jV (scope:=scope) (env:=X.env) a2;obtain⟨Z,h⟩:=pC X.env scope.names [] x (.inl (PySem.mem_of_lookup a2));have hcc:Z=c:=zcN.inj ((F x Z h).symm.trans hcx);subst hcc;refine⟨?_,Z,h,?_⟩
    ·rcases hk2 with z|z
     ·subst z;exact .inl P
     ·subst z;exact .inr P
    ·obtain⟨o,L,hd⟩:=cell;exact⟨o,U _ _ L,hd⟩
 ·obtain⟨v,o,L,hd⟩:=I.cell x c (F x c e);exact⟨v,o,U _ _ L,hd⟩
 ·show(qa caps σ).length=N.length;unfold qa;rw[zbK];exact O
theorem iz{R:Result->yah->Prop}{F a:Expr}{it G:yai}(I:Nat->yah->Prop)(turn:∀n s,I n s->yar (model prog w) A (pyNext it) (λr l=>match r with
   |none=>R (.ok .next) l
   |some v=>yar (model prog w) A (letOwnedTupleGo a it v) (λ_ j=>yar (model prog w) A (assign a env v) (λ_ u=>yar (model prog w) A (forIn ifs true λc r=>if r=true then do let ok <-isTrue c env (eval c env);pure (ForInStep.yield ok) else pure (ForInStep.yield r)) (λok i=>if ok=true then yar (model prog w) A (eval F env) (λx t=>yar (model prog w) A (call (.builtin "list.append") [G,x]) (λ_ q=>∃m,m<n/\I m q) (λ_ _=>False) t) (λ_ _=>False) i else∃m,m<n/\I m i) (λ_ _=>False) u) (λ_ _=>False) j) (λ_ _=>False) l) (λ_ _=>False) s)(n:Nat)(h:I n s):
  codeAny (model prog w) A (.compLoop (.ListComp F [⟨a,iter,ifs,0⟩] scope pos) 0 it G env) R s:=by
 refine codeAny_loop rfl I (λn s P=>?_) n h;show yar _ A ((compTurn (.ListComp F [⟨a,iter,ifs,0⟩] scope pos) 0 it G env).onRaise (λx=>do noteFrame x env;theTreesLotGoes x)) _ _ s;refine wpAny_noted ?_;rw[compTurn_list];refine wpAny_noRaise ?_;refine yaa (yay (yaa (yac (turn n s P) (λr l C=>?_) λ_ _ o=>o)));cases r with
 |none=>exact yab C
 |some v=>
  refine yaa (yac C (λ_ j E=>?_) λ_ _ o=>o);refine yaa (yac E (λ_ u O=>yaa (yac O (λok i y=>?_) λ_ _ o=>o)) λ_ _ o=>o);cases ok with
  |false=>exact yab ⟨rfl,y⟩
  |true=>
   exact yaa (yaa (yac y (λx t L=>yaa (yac L (λ_ q H=>yab (yab ⟨rfl,H⟩)) λ_ _ o=>o)) λ_ _ o=>o))
def Lx(X:Cx)(i:List Expr)(t:TT):Prop:=
 ∀(a:List (Addr×Obj))(s:yah)(h:St)(H:Hp)(Q:Bool->Hp->Prop),Inv X a h H s->t h H Q->
  yar (model X.prog X.w) X.A (forIn i true λc r=>if r=true then do let ok <-isTrue c X.env (eval c X.env);pure (ForInStep.yield ok) else pure (ForInStep.yield r)) (TP X a h Q) X.xe s
def PB:TT:=λ_ H Q=>Q true H
theorem cO:Lx X [] PB:=λ_ _ _ H _ I h=>wpAny_tests_nil ⟨H,I,h⟩
theorem fj{t:TT}(h:PT X c t):Lx X [c] t:=λa s i H Q I hw=>wpAny_tests_one (h a s i H Q I hw)
def KI(J:It)(g:TG)(u:TT)(y:TE)(n:St)(H:Hp)(C:List V->Hp->Prop):Prop:=
 ∃W:Nat->Nat->List V->St->Hp->Prop,(∃m,W 0 m [] n H)/\∀i m j o H,W i m j o H->
  (J.stop i H/\C j H)∨(J.go i H/\∃M:List V->St->Hp->Prop,(∀q h l,M q h l->∃s,s<m/\W (i+1) s q h l)/\∀x l,J.De i H x l->g x o l λa F=>u a F λb t=>if b=true then y a t λv E=>j.length<yag/\M (j++[v]) a E else M j a t)
noncomputable abbrev lobj(its:List yai)(k:Nat):Obj:={cls:=.type "list",data:=.seq its.toArray k}
theorem vU{elt:Expr}{g:TG}{tt:TT}{J:It}{it:Addr}{tn:Nat->Heap->Prop}{P:Hp}{j:yah}{Qd:List V->Hp->Prop}{RR:yai->Addr->Result->yah->Prop}(S:dQ scope N)(ak:jn X.N X.env scope N caps=true)(ag:∀n,(n,NameKind.free)∈scope.names->∃c,X.env.cells.lookup n=some c)(hc:X.calm=true)(hg:∀s₀ H₀ C fp,PG (jd X scope N s₀ H₀ C fp) tg g)(ht:∀s₀ H₀ C fp,Lx (jd X scope N s₀ H₀ C fp) ifs tt)(he:∀s₀ H₀ C fp,PE (jd X scope N s₀ H₀ C fp) elt te)(I2:Inv X pins σ P j)(T:Turn X.prog X.w X.K tg J fp it tn)(st2:tn 0 j.heap)(f2:∀b∈fp,lZ X pins P b)(h:KI J g tt te (qa caps σ) P Qd)(hRR:∀(D C:Addr) m t G (O:yah),Inv X pins σ (upd G D (.lst t)) O->G D=none->O.heap.Ns C m->lZ X pins (upd G D (.lst t)) C->Qd t G->RR (.ref D) C (.ok .next) O):
  yar (model X.prog X.w) X.A (newList []) (λacc F=>yar (model X.prog X.w) X.A (newFunctionEnv scope X.env.globals (kq X.env scope.names []) [] X.env.qual none .none (some X.env)) (λae ai=>codeAny (model X.prog X.w) X.A (.compStart (.ListComp elt [⟨tg,iter,ifs,0⟩] scope pos) 0 (.ref it) acc {ae with scope:=relabel scope X.env}) (RR acc ae.locals) ai) E F) E j:=by
 have hfl:∀b∈fp,b<j.heap.objs.size:=λb l=>by
  obtain⟨o,e,_⟩:=T.obj 0 j.heap st2 b l;exact zcH e
 refine yae (wpAny_newFunctionEnv S.E9 (by intro y hy;simp at hy) (λL hns hsb=>?_) S.kind);dsimp only at hns hsb⊢;generalize hHD:j.heap.push {cls:=.type "list",dict:=none,data:=.seq ([]:List yai).toArray}=HD at hns hsb⊢;have hC:HD.objs.size=j.heap.objs.size+1:=by rw[<-hHD,zch]
 have hDC:j.heap.objs.size≠HD.objs.size:=by rw[hC];exact zcx (zbF _)
 have Oa:j.heap.objs.size<=HD.objs.size:=by rw[hC];exact zcM _
 have old:∀b o,j.heap.get? b=some o->L.get? b=some o:=λb o e=>
  hsb.extBut b o (by rw[hC];exact zcx (zbh (zcH e))) (zaq _ (hHD▸zaq _ e))
 have am:L.get? j.heap.objs.size=some (lobj [] 0):=hsb.extBut _ _ hDC (zaq _ (hHD▸zaK _ rfl));obtain⟨W,⟨m0,w0⟩,turn⟩:=h;have IY0:=Inv.block (caps:=caps) (C:=HD.objs.size) (fp:=fp) (s1:=j) (h1:=L) (tk:=j.toks+([]:List (Str×yai)).length) S ak ag I2 f2 hfl Oa old hns;have ab:P j.heap.objs.size=none:=I2.hok.fresh (zcK _);have K9:∀{H:St}{Q:Hp}{s':yah}{a:List yai}{k:Nat},Inv (jd X scope N j P HD.objs.size fp) [] H Q s'->Q j.heap.objs.size=none->s'.heap.get? j.heap.objs.size=some (lobj a k)->
   Inv (jd X scope N j P HD.objs.size fp) [(j.heap.objs.size,lobj a k)] H Q s':=λ{H Q s' a k} I hn e=>I.jX λp Y=>by
  have ep:p=(j.heap.objs.size,lobj a k):=by simpa using Y
  subst ep;exact⟨e,hn,hDC,λz=>by
   rcases zci.mp (I2.nQ _ z) with q|q
   ·exact absurd (q▸I2.lt) (zcn _)
   ·exact I2.QW (zcK _) q,λv z=>by cases z⟩
 have fY:∀{Q:Hp}{a:List yai}{k:Nat},(∀b∈fp,Q b=none)->∀b∈fp,lZ (jd X scope N j P HD.objs.size fp) [(j.heap.objs.size,lobj a k)] Q b:=λ{Q a k} hn b l=>by
  have z:=f2 b l;refine⟨hn b l,zcx (zaR (hfl b l) Oa),λq=>?_,.inl l,λx c e=>IY0.ok.Tq b l |>.2 x c e,λp Y=>?_⟩
  ·rcases zci.mp (I2.nQ b q) with q|q
   ·exact z.2.1 q
   ·exact z.2.2.1 q
  ·have ep:p=(j.heap.objs.size,lobj a k):=by
    have:p∈[]++[(j.heap.objs.size,lobj a k)]:=Y;simpa using this
   subst ep;exact zcA (hfl b l)
 have fin:∀{H:St}{G:Hp}{O:yah}{t:List V}{a:List yai}{k:Nat},Inv (jd X scope N j P HD.objs.size fp) [(j.heap.objs.size,lobj a k)] H G O->Vals t a->t.length<=yag->Qd t G->
   RR (.ref j.heap.objs.size) HD.objs.size (.ok .next) O:=λ{H G O t a k} I r hz q=>by
  have Z:=I.pin (j.heap.objs.size,lobj a k) (by show _∈[]++[_];simp);have IX:Inv X pins σ G O:=I2.RG (s':=O) (ch:=fp) I.os I.base I.hok I.bare λb l=>⟨(f2 b l).2.2.2.1,(f2 b l).2.1,(f2 b l).2.2.2.2.1,(f2 b l).2.2.2.2.2⟩
  have fD:lZ X pins G j.heap.objs.size:=I2.p8 (zcK _) Z.2.1;have fC:lZ X pins G HD.objs.size:=I2.p8 Oa I.free;have IT:Inv X pins σ (upd G j.heap.objs.size (.lst t)) O:=IX.ur Z.2.1 I2.sz fD.2.1 (λx c e=>fD.2.2.2.2.1 x c e) (λp Y=>fD.2.2.2.2.2 p Y) ⟨hz,a,k,r,Z.1⟩;obtain⟨m,hn,_⟩:=I.loc;exact hRR _ _ m t G O IT Z.2.1 hn ⟨by rw[aP (Ne.symm hDC)];exact fC.1,fC.2⟩ q
 have ac:∀F:yah,F={j with heap:=L,toks:=j.toks+([]:List (Str×yai)).length}->
   codeAny (model X.prog X.w) X.A (.compLoop (.ListComp elt [⟨tg,iter,ifs,0⟩] scope pos) 0 (.ref it) (.ref j.heap.objs.size) (compEnvC scope (kq X.env scope.names []) HD.objs.size X.env)) (RR (.ref j.heap.objs.size) HD.objs.size) F:=by
  rintro F rfl;refine iz (λn s'=>∃i t a k H Q,Inv (jd X scope N j P HD.objs.size fp) [(j.heap.objs.size,lobj a k)] H Q s'/\tn i s'.heap/\(∀b∈fp,Q b=none)/\Vals t a/\t.length<=yag/\W i n t H Q) ?_ m0
   ⟨0,[],[],0,_,_,K9 IY0 ab am,T.keep 0 _ _ st2 λb _ o e=>old b o e,λb l=>(f2 b l).1,.nil,zcL _,w0⟩
  rintro n s3 ⟨i,t,a,k,H,G,I3,st3,fr3,r3,z3,w3⟩;rcases turn i n t H G w3 with⟨stop,qn⟩|⟨go,M,hM,step⟩
  ·refine yac (T.done (jd X scope N j P HD.objs.size fp) rfl rfl rfl hc i _ s3 H G (λ_ _=>False) I3 (fY fr3) st3 stop) (λr O s=>?_) λ_ _ z=>z;obtain⟨hr,I4⟩:=s;subst hr;exact fin I4 r3 z3 qn
  ·refine yac (T.item (jd X scope N j P HD.objs.size fp) rfl rfl rfl hc i _ s3 H G (λ_ _=>False) I3 (fY fr3) st3 go) (λr O s=>?_) λ_ _ z=>z;obtain⟨u,hr,h4⟩:=s;subst hr;refine yac h4 (λ_ s5 s=>?_) λ_ _ z=>z;obtain⟨x,H5,I5,r5,y5,st5,fr5⟩:=s;have I5':=I5.pinned (fY fr5) (T.obj _ _ st5);have Lg:∀{τ7:St}{H7:Hp}{s7:yah},Inv (jd X scope N j P HD.objs.size fp) ([(j.heap.objs.size,lobj a k)]++jy fp s5.heap) τ7 H7 s7->tn (i+1) s7.heap/\∀b∈fp,H7 b=none:=λ{τ7 H7 s7} I7=>by
    refine⟨T.keep _ _ _ st5 λb l o e=>(I7.pin (b,o) (zas _ (zas _ (gu l e)))).1,λb l=>?_⟩;obtain⟨o,e,d⟩:=T.obj _ _ st5 b l;exact(I7.pin (b,o) (zas _ (zas _ (gu l e)))).2.1
   refine yac (hg _ _ _ _ _ s5 H H5 x u _ I5' r5 (step x H5 y5)) (λ_ s6 s=>?_) λ_ _ z=>z;obtain⟨U,H6,I6,q6⟩:=s;refine yac (ht _ _ _ _ _ s6 U H6 _ I6 q6) (λok s7 s=>?_) λ_ _ z=>z;obtain⟨H7,I7,q7⟩:=s;cases ok with
   |false=>
    rw[yIn zaT] at q7⊢;obtain⟨m',hm,w7⟩:=hM _ _ _ q7;obtain⟨a1,a2⟩:=Lg I7;exact⟨m',hm,i+1,t,a,k,U,H7,I7.fL,a1,a2,r3,z3,w7⟩
   |true=>
    rw[yIp rfl] at q7⊢;refine yac (he _ _ _ _ _ s7 U H7 _ I7 q7) (λv s8 s=>?_) λ_ _ z=>z;obtain⟨y,H8,I8,r8,q8⟩:=s;obtain⟨hz,q8⟩:=q8;obtain⟨m',hm,w8⟩:=hM _ _ _ q8;obtain⟨a1,a2⟩:=Lg I8;have Z:=I8.pin (j.heap.objs.size,lobj a k) (zas _ (zaz _ (by simp)));have an:=r3.length;refine wpAny_list_append_plain (items:=a.toArray) ⟨k,Z.1⟩ (λh' Y hs=>?_) (by rw[zaY];lia);obtain⟨k',Y⟩:=Y;have I9:Inv (jd X scope N j P HD.objs.size fp) [] U H8 {s8 with heap:=h'}:=
     (I8.jX (pins':=[]) (by simp)).turned (t':=s8.toks) (it:=j.heap.objs.size) (λb o l e=>(hs.2 b l).trans e) Z.2.1 Z.2.2.1 (.inr (zcK _))
      (λx c e z=>by
       have q:=IY0.cell x c e;obtain⟨v,o,ho,hd⟩:=I8.cell x c e;have e1:s8.heap.get? j.heap.objs.size=some (lobj a k):=Z.1;rw[z,e1] at ho;cases ho;cases hd) (by intro p Y;exact absurd (show p∈([]:List (Addr×Obj))++[] from Y) (by simp))
    have hp':({s8 with heap:=h'}:yah).heap.get? j.heap.objs.size=some (lobj (a++[v]) k'):=by
     show h'.get? _=_;rw[Y];simp
    have hkt:tn (i+1) h':=T.keep _ _ _ a1 λb l o e=>(hs.2 b (zcx (hfl b l))).trans e;refine⟨m',hm,i+1,t++[y],a++[v],k',U,H8,K9 I9 Z.2.1 hp',hkt,a2,r3.append (.cons r8 .nil),?_,w8⟩;rw[zaM];exact hz
 exact codeAny_compStart_list (ac _ rfl) (T.self X.A 0 _ _ _ (T.keep 0 _ _ st2 λb _ o e=>old b o e) (ac _ rfl))
noncomputable def freeOk(env:Env)(scope:Scope):Bool:=scope.names.all λp=>p.2 != .free||env.scope.names.lookup p.1==some .cell||env.scope.names.lookup p.1==some .free
theorem Inv.freeOk{H:Hp}{scope:Scope}(I:Inv X pins σ H s)(h:freeOk X.env scope=true):∀n,(n,NameKind.free)∈scope.names->∃c,X.env.cells.lookup n=some c:=λn a=>by
 have q:=zbu.mp h _ a;simp only[Bool.or_eq_true,beq_iff_eq,bne_iff_ne] at q;refine I.ok.has n ?_;rcases q with(q|q)|q
 ·exact absurd rfl q
 ·exact .inl q
 ·exact .inr q
def Dy(caps:List (Option Nat))(j:TI)(g:TG)(l:TT)(m:TE):TE:=λa H Q=>j a H λJ n=>KI J g l m (qa caps a) n λi h=>∀p,h p=none->Q (.ref p) (upd h p (.lst i))
theorem nh{n:Expr}{F:TI}{g:TG}{G:TT}(S:dQ scope N)(j:jn X.N X.env scope N caps=true)(i:L2.freeOk X.env scope=true)(hc:X.calm=true)(hi:PI X tg iter F)(Z:∀s₀ H₀ C fp,PG (jd X scope N s₀ H₀ C fp) tg g)(U:∀s₀ H₀ C fp,Lx (jd X scope N s₀ H₀ C fp) ifs G)(he:∀s₀ H₀ C fp,PE (jd X scope N s₀ H₀ C fp) n te)(W:∀x,foldedSetIterable iter X.env x=pure x:=by intro _;rfl):PE X (.ListComp n [⟨tg,iter,ifs,0⟩] scope pos) (Dy caps F g G te):=by
 intro a s E H Q I h;rw[eval_ListComp];refine wpAny_comprehension_free (use:=none) rfl W (jm (I.freeOk i)) S.kind (λx P u=>u▸S.names x P) ?_;refine bT (hi a s E H _ I h) λv s1 h1=>bT h1 λO s2 h2=>?_;obtain⟨it,fp,tn,J,H2,rfl,I2,T,t,f2,u⟩:=h2;refine vU (RR:=λy C=>compPost (model X.prog X.w) X.A X.xe none (EP X a E Q) y C) S j (I.freeOk i) hc Z U he I2 T t f2 u ?_;intro D C m xs H3 L IT hD Y l q;refine⟨m,Y,λh' sb=>⟨.ref D,_,?_,rfl,q D hD⟩⟩;exact IT.turned (t':=L.toks) (it:=C) (λb o hb e=>(sb.2 b hb).trans e) l.1 l.2.1 l.2.2.2.1 l.2.2.2.2.1 l.2.2.2.2.2
theorem eT{j:Expr}{l:Pos}{wi:TI}{g:TG}{tt:TT}(hN:X.N.Nodup)(Y:X.N[i]? =some x)(G:X.env.scope.names.lookup x=some .local)(S:dQ scope N)(y:jn X.N X.env scope N caps=true)(t:L2.freeOk X.env scope=true)(hc:X.calm=true)(hi:PI X tg iter wi)(hg:∀s₀ H₀ C fp,PG (jd X scope N s₀ H₀ C fp) tg g)(ht:∀s₀ H₀ C fp,Lx (jd X scope N s₀ H₀ C fp) ifs tt)(he:∀s₀ H₀ C fp,PE (jd X scope N s₀ H₀ C fp) j te)(P:yat (.ListComp j [⟨tg,iter,ifs,0⟩] scope pos) (some (.Name x pos')) l.line X.env=pure true:=by rfl)(hs:∀x,foldedSetIterable iter X.env x=pure x:=by intro _;rfl):PS X (.Assign [.Name x pos'] (.ListComp j [⟨tg,iter,ifs,0⟩] scope pos) l) (HK (Dy caps wi g tt te) (AD i)):=by
 intro a s σ H D I h;rw[exec_Assign_Name_used _ _ _ _ P];refine yaa (yay (yaa ?_));show yar _ X.A (do let _ <-comprehension (.ListComp j [⟨tg,iter,ifs,0⟩] scope pos) scope X.env _ (newList []) false (eval iter X.env) (some (assign (.Name x pos') X.env))) _ _ s;refine yaa (yac (wpAny_comprehension_free (use:=some (assign (.Name x pos') X.env)) (Q:=λ_ E=>SP X a D .next E) rfl hs (jm (I.freeOk t)) S.kind (λx G W=>W▸S.names x G) (bT (hi a s σ H _ I h) λv s1 h1=>bT h1 λitv s2 h2=>?_)) (λ_ E hq=>yab (yab hq)) λ_ _ e=>e);obtain⟨it,fp,tn,J,H2,rfl,I2,T,O,f2,W⟩:=h2;refine vU (RR:=λacc C=>compPost (model X.prog X.w) X.A X.xe (some (assign (.Name x pos') X.env)) (λ_ E=>SP X a D .next E) acc C) S y (I.freeOk t) hc hg ht he I2 T O f2 W ?_;intro L C m xs H3 s4 IT hD hn n q;show yar _ X.A (assign (.Name x pos') X.env (.ref L)) _ _ _;obtain⟨F,es,ep,U,u,rC⟩:=id hn;have IP:Inv X (a++[(C,F)]) σ (upd H3 L (.lst xs)) s4:=IT.jX λp hp=>(zbJ.mp hp).elim (λz=>IT.pin p (zas _ z)) λz=>by
  have e:p=(C,F):=by simpa using z
  subst e;exact⟨U,n.1,n.2.1,n.2.2.1,λv z=>by rw[u] at z;cases z⟩
 refine wpAny_assign_Name (jK (v:=.ref L) IP hN Y (.inl G) rfl (λs5 I5=>?_) (.inr G));have Z:=I5.pin (C,F) (zas _ (zas _ (by simp)));refine⟨m,⟨F,es,ep,Z.1,u,rC⟩,λh' sb=>⟨_,_,?_,q L hD⟩⟩;exact I5.fL.turned (t':=s5.toks) (it:=C) (λb o hb e=>(sb.2 b hb).trans e) n.1 n.2.1 n.2.2.2.1 n.2.2.2.2.1 n.2.2.2.2.2
noncomputable def So(x:Str):It:=⟨λi _=>i<x.cps.size,λi H v a=>a=H/\∃c,x.cps[i]? =some c/\v=.str ⟨#[c]⟩,λi _=>i=x.cps.size⟩
theorem qj(a:A.handled=none)(I:Addr)(x:Str)(t:Tok):Walks prog w A I [I] [I] x.cps.size (SignAt x) (λi h=>h.IsStrIter I (strIterType x) x t i):=by
 unfold strIterType;split
 ·exact Walks.strAscii a I x t
 ·exact Walks.strWide a I x t
theorem Dj(it:Addr)(x:Str)(t:Tok):Turn P w K tg (So x) [it] it (λi h=>h.IsStrIter it (strIterType x) x t i) where
 mem:=by simp
 obj:=λi h a b l=>by
  have e:b=it:=by simpa using l
  subst e;obtain⟨o,e,c,d⟩:=a;exact⟨o,e,λv z=>by rw[d] at z;cases z⟩
 keep:=λi h q a k=>by obtain⟨o,C,r⟩:=a;exact⟨o,k it (by simp) o C,r⟩
 item:=by
  intro X U hw Y S i j s σ H E I n a F;subst U hw Y;obtain⟨f0,f1,f2,f3,f4,Z⟩:=n it (by simp);have W:=qj (prog:=X.prog) (w:=X.w) (I.ok.hd S) it x t;refine W.item i s _ _ F a λv q tk hv m y=>?_;obtain⟨c,u,L,rfl⟩:=hv;have I1:Inv X j σ H {s with heap:=q,toks:=tk}:=I.turned (λb o l e=>y b o (by simpa using l) e) f0 f1 f3 f4 Z;obtain⟨o,C,O,G⟩:=id m;refine⟨_,rfl,qS (s:={s with heap:=q,toks:=tk}) C O G (by unfold strIterType;split<;>decide) ⟨.str ⟨#[c]⟩,H,I1,⟨u,rfl⟩,⟨rfl,c,L,rfl⟩,m,λb l=>(n b l).1⟩⟩
 done:=by
  intro X U hw Y S i j s σ H E I n a F;subst U hw Y;obtain⟨f0,f1,f2,f3,f4,Z⟩:=n it (by simp);have W:=qj (prog:=X.prog) (w:=X.w) (I.ok.hd S) it x t;have e:i=x.cps.size:=F;subst e;exact W.done s _ _ a λq tk y=>⟨rfl,I.turned (t':=tk) (λb o l e=>y b o (by simpa using l) e) f0 f1 f3 f4 Z⟩
 self:=λA i s Q E a h=>by
  have a:s.heap.IsStrIter it (strIterType x) x t i:=a;unfold strIterType at a;split at a
  ·exact wpAny_pyIter_striter_ascii a h
  ·exact wpAny_pyIter_striter_wide a h
mutual
def cN(K:yaI)(H:Hp):yam->V->Prop
 |.none,v=>v=.bD
 |.bool b,v=>v=.bl b
 |.int i,v=>v=.int i
 |.str x,v=>v=.str x
 |.list ds,v=>∃a h,v=.ref a/\cF K H a h/\kX K H ds h
 |.tuple ds,v=>∃a h,v=.ref a/\dI K H a h/\kX K H ds h
 |.dict _,_=>False
def kX(K:yaI)(H:Hp):List yam->List V->Prop
 |[],xs=>xs=[]
 |d::ds,xs=>∃x r,xs=x::r/\cN K H d x/\kX K H ds r
end
theorem dI.same(e:∀b o,H b=some o->H' b=some o)(h:dI K H a xs):dI K H' a xs:=by
 rcases h with(h|⟨o,h⟩)|h
 ·exact .inl (.inl (e _ _ h))
 ·exact .inl (.inr ⟨o,e _ _ h⟩)
 ·exact .inr h
section
variable {σ:St}
mutual
theorem Inv.reads(I:Inv X pins σ H s):∀(d:yam)(v:V)(u:yai),cN X.K H d v->RelV v u->∃as,Reads s.heap u d as
 |.none,v,u,h,r=>by
  simp only[cN] at h;subst h;cases r;exact⟨_,.none⟩
 |.bool b,v,u,h,r=>by
  simp only[cN] at h;subst h;cases r;exact⟨_,.bool b⟩
 |.int i,v,u,h,r=>by
  simp only[cN] at h;subst h;obtain⟨t,rfl⟩:=r;exact⟨_,.int i t⟩
 |.str x,v,u,h,r=>by
  simp only[cN] at h;subst h;obtain⟨t,rfl⟩:=r;exact⟨_,.str x t⟩
 |.list ds,v,u,h,r=>by
  simp only[cN] at h;obtain⟨a,l,rfl,h2,C⟩:=h;cases r;obtain⟨j,m,⟨o,n,e,y,_,hd⟩,_⟩:=I.list h2;obtain⟨as,q⟩:=Inv.readsAll I ds l j C m;exact⟨_,.list e y hd (by simpa using q)⟩
 |.tuple ds,v,u,h,r=>by
  simp only[cN] at h;obtain⟨a,l,rfl,h2,C⟩:=h;cases r;obtain⟨j,m,⟨o,e,y,n,hd⟩,_⟩:=I.tuple h2;obtain⟨as,q⟩:=Inv.readsAll I ds l j C m;exact⟨_,.tuple e y hd (by simpa using q)⟩
 |.dict _,_,_,h,_=>by simp only[cN] at h
theorem Inv.readsAll(I:Inv X pins σ H s):∀(ds:List yam)(a:List V)(us:List yai),kX X.K H ds a->Vals a us->∃as,ReadsAll s.heap us ds as
 |[],a,us,h,r=>by
  simp only[kX] at h;subst h;cases r;exact⟨_,.nil⟩
 |d::ds,a,us,h,r=>by
  simp only[kX] at h;obtain⟨x,i,rfl,h2,l⟩:=h;cases r with
  |cons r1 r2=>
   obtain⟨as,j⟩:=Inv.reads I d x _ h2 r1;obtain⟨bs,q2⟩:=Inv.readsAll I ds i _ l r2;exact⟨_,.cons j q2⟩
end
def SV(K:yaI):List V->Hp->VK->Prop:=λh H Q=>∃x c t u b,h=[x,c]/\RelV c u/\(∀a,RelV c a->a=u)/\kE K H x t/\PySem.W.kitOne K t u=some b/\Q (.bl b) H
theorem F5:bX X (.builtin "isinstance") (SV X.K):=by
 intro i s σ H n o Q I r h;obtain⟨x,c,t,u,b,rfl,y,l,ty,e,q⟩:=h;obtain⟨v,j,rfl,m,a⟩:=vals2 r;cases l j a;exact Cj I m ty e λtk=>⟨.bl b,H,I.tok tk,rfl,q⟩
theorem EI{n:String}:RelV (.ty n) (.type n)/\∀a,RelV (.ty n) a->a=.type n:=⟨rfl,λa h=>h⟩
theorem BZ:fE X (yan .LtE) (λx y H Q=>∃i j,x=.str i/\y=.str j/\Q (.bl (!decide (j.cps.toList<i.cps.toList))) H):=by
 intro a s σ H x y v u Q I m l h;obtain⟨i,j,rfl,rfl,q⟩:=h;obtain⟨t,rfl⟩:=m;obtain⟨n,rfl⟩:=l;exact PySem.P.le_str (aU I q rfl)
theorem yg:fE X (binaryOp .Mult) (λx y H Q=>∃i n,x=.str i/\y=.int n/\MulOk i n/\Q (.str (Txt.mul i n)) H):=by
 intro a s σ H x y v u Q I m l h;obtain⟨i,n,rfl,rfl,o,q⟩:=h;obtain⟨t,rfl⟩:=m;obtain⟨j,rfl⟩:=l;exact SB.mul o λj k=>⟨.str _,H,I.tok _,⟨_,rfl⟩,q⟩
theorem zz:∀{a:List Str}{its:List yai},Vals (a.map V.str) its->StrsAre its a
 |[],_,.nil=>.nil
 |y::a,_,.cons r t=>by
  obtain⟨tk,e⟩:=(show∃t,_=Value.str y t from r)
  subst e;exact .cons y tk (zz t)
end
noncomputable def notStar:Expr->Bool
 |.Starred _ _=>false
 |_=>true
theorem aO(es:List Expr)(env:Env)(h:notStar e=true):yao (e::es) env=(false,eval e env)::yao es env:=by
 cases e<;>first|rfl|cases h
theorem fM{a:Pos}{env:Env}:∀(es:List Expr),es.all notStar=true->(yau a (yao es env)).any (·.1)=false
 |[],_=>rfl
 |e::es,h=>by
  rw[zcl,zbG] at h;rw[aO es env h.1];show(false||(yau a (yao es env)).any (·.1))=false;rw[fM es h.2];rfl
theorem ux{a:Pos}{env:Env}:∀(es:List Expr),es.all notStar=true->(yau a (yao es env)).all (λx=>!x.1)=true
 |[],_=>rfl
 |e::es,h=>by
  rw[zcl,zbG] at h;rw[aO es env h.1];show(true&&(yau a (yao es env)).all (λx=>!x.1))=true;rw[ux es h.2];rfl
section
variable {es:List Expr}{t:TA}{id T:String}{r:List V->Hp->VK->Prop}
theorem aF(i:PE X e te)(h:PA X es t)(a:notStar e=true:=by rfl):PA X (e::es) (Dw te t):=IK i h (aO es X.env a)
theorem S8(n:bX X (.builtin id) r)(m:Gl X x)(l:X.mg x=none)(h:bootBuiltins x=some (.builtin id))(o:PA X (e::es) t)(j:x≠"__name__":=by decide+kernel)(a:(x==("__debug__":Str))=false:=by decide+kernel)(i:(e::es).all notStar=true:=by rfl):PE X (.Call (.Name x p) (e::es) [] pos) (PX r t):=by
 have h2:=i;rw[zcl,zbG] at h2;exact EX n m l h o j a (aO es X.env h2.1) (fM es h2.2)
theorem S7(n:bX X (.type T) r)(m:Gl X x)(l:X.mg x=none)(h:bootBuiltins x=some (.type T))(o:PA X (e::es) t)(j:x≠"__name__":=by decide+kernel)(a:(x==("__debug__":Str))=false:=by decide+kernel)(i:(e::es).all notStar=true:=by rfl):PE X (.Call (.Name x p) (e::es) [] pos) (PX r t):=by
 have h2:=i;rw[zcl,zbG] at h2;exact BS n m l h o j a (aO es X.env h2.1) (fM es h2.2)
end
structure Src(K:yaI)(mg:Str->Option yai)(x:Str)(ps:List Str)(st:Stmt):Prop where
 ex:∃f fd,Hg K x x st f fd/\mg x=some (.ref f)/\Binds K fd ps []
structure Def(P:yaj)(w:yak)(K:yaI)(mg:Str->Option yai)(base:Heap)(k:Nat)(x:Str)(ps:List Str)(sp:Sp):Prop where
 ex:∃f fd,dS P w K mg base m5 k f fd ps sp/\mg x=some (.ref f)/\zcf K (.ref f)=true/\Binds K fd ps []
theorem Src.def{k:Nat}{sp:Sp}(F:Src K mg x ps st)(S:av N ps (ah st))(len:∀vs H Q E,sp vs H Q E->vs.length=ps.length)(a:∀(f:Addr)(h:yai)(A:yal)(outer:List Env)(s:yah)(H:Hp)(vs:List V)(Q:VK)(E:XK),aV k (A.deeper (envOfC x (ah st) s.heap.objs.size f h))->sp vs H Q E->∃t,wC (kj m5 P w K mg base N x (ah st) f h A outer s H E).Ht (bE st) t/\t {nx:=λ_ H'=>Q .bD H',rt:=Q} (start N vs) H):Def P w K mg base (k+1) x ps sp:=by
 obtain⟨f,fd,F,i,j⟩:=F.ex;exact⟨f,fd,F.ok S len (a f),i,F.kp,j⟩
theorem Def.imp{k:Nat}{sp a:Sp}(D:Def P w K mg base k x ps sp)(h:∀vs H Q E,a vs H Q E->sp vs H Q E):Def P w K mg base k x ps a:=by
 obtain⟨f,fd,F,i,j,l⟩:=D.ex;exact⟨f,fd,F.imp h,i,j,l⟩
section
variable {es:List Expr}{t:TA}{k:Nat}{sp:Sp}
theorem lI(D:Def X.prog X.w X.K X.mg X.base k x ps sp)(j:aV k X.A)(n:Gl X x)(h:Passes m5 X E0)(q:PA X (e::es) t)(a:(x==("__debug__":Str))=false:=by decide+kernel)(i:(e::es).all notStar=true:=by rfl):
  PE X (.Call (.Name x p) (e::es) [] pos) (zy sp [] E0 t):=by
 obtain⟨f,fd,F,l,m,o⟩:=D.ex;have h2:=i;rw[zcl,zbG] at h2;exact IG F j n l m o .nil h q a (aO es X.env h2.1) (fM es h2.2)
theorem gX(T:String)(j:Gl X x)(i:X.mg x=none)(a:bootBuiltins x=some (.type T))(h:x≠"__name__":=by decide+kernel)(hd:(x==("__debug__":Str))=false:=by decide+kernel):PE X (.Name x pos) (tC (.ty T)):=
 IJ j i a rfl h hd
end
noncomputable def OO(scope:Scope)(N:List Str):Bool:=
 (match scope.kind with|.function=>true|_=>false)&&decide N.Nodup&&scope.names.all λy=>y.2 != .cell&&scope.names.lookup y.1==some y.2
theorem rz(h:OO scope N=true):dQ scope N:=by
 unfold OO at h;rw[zbG,zbG] at h;obtain⟨⟨h1,h2⟩,a⟩:=h;have a:=zbu.mp a;refine⟨?_,of_decide_eq_true h2,λy i=>?_,λy i=>?_⟩
 ·cases e:scope.kind<;>rw[e] at h1<;>first|rfl|cases h1
 ·have:=a y i;rw[zbG] at this;simpa using this.1
 ·have:=a y i;rw[zbG] at this;simpa using this.2
section
variable {o:Expr}{es:List Expr}{to:TE}{t:TA}{cpos:Pos}{T id:String}{r:V->List V->Hp->VK->Prop}
theorem II(j:PlainAttrs T)(slot:Slot T name id)(i:typeOf (.builtin id)=pure (.type "method_descriptor"))(m:CZ X id r)(l:PE X o to)(h:attributeBase o name X.env (eval o X.env)=eval o X.env:=by rfl)(a:(apos.endLine==cpos.line)=true:=by rfl)(n:X.K=K:=by rfl):PE X (.Call (.Attribute o name apos) [] [] cpos) (LX K T r to):=by
 subst n;exact yf j slot i m l h a
theorem Na(m:PlainAttrs T)(slot:Slot T name id)(j:typeOf (.builtin id)=pure (.type "method_descriptor"))(q:CZ X id r)(n:PE X o to)(s:PA X (e::es) t)(h:attributeBase o name X.env (eval o X.env)=eval o X.env:=by rfl)(l:(e::es).all notStar=true:=by rfl)(i:decide ((e::es).length+0+0<30)=true:=by rfl)(a:(apos.endLine==cpos.line)=true:=by rfl)(u:X.K=K:=by rfl):PE X (.Call (.Attribute o name apos) (e::es) [] cpos) (Su K T r to t):=by
 subst u;have h2:=l;rw[zcl,zbG] at h2;refine fu m slot j q n s h ?_ a (aO es X.env h2.1) (fM es h2.2);rw[ux _ l];show(true&&true&&decide ((e::es).length+0+0<30))=true;rw[i];rfl
end
end L2
set_option maxHeartbeats 400000
set_option maxHeartbeats 1000000
set_option maxHeartbeats 4000000
namespace J
open PySem PySem.Spec PyProof.Rows L2
theorem AZ{p:List yai->Prop}(h:∀a,p [a])(us:List yai)(e:us.length=1):p us:=by
 cases us with
 |nil=>cases e
 |cons a r=>
  have e:r=[]:=zaa (Nat.succ.inj e);subst e;exact h a
theorem yU{p:List yai->Prop}(h:∀a b,p [a,b])(us:List yai)(e:us.length=2):p us:=by
 cases us with
 |nil=>cases e
 |cons a r=>exact AZ (p:=λr=>p (a::r)) (h a) r (Nat.succ.inj e)
theorem J2{p:List yai->Prop}(h:∀a b c,p [a,b,c])(us:List yai)(e:us.length=3):p us:=by
 cases us with
 |nil=>cases e
 |cons a r=>exact yU (p:=λr=>p (a::r)) (h a) r (Nat.succ.inj e)
theorem by4{p:List yai->Prop}(h:∀a b c d,p [a,b,c,d])(us:List yai)(e:us.length=4):p us:=by
 cases us with
 |nil=>cases e
 |cons a r=>exact J2 (p:=λr=>p (a::r)) (h a) r (Nat.succ.inj e)
theorem L1{oc:yai}{n m:Option Addr}{kV j pm i ct:yai}(X:K.In h)(G:h.Ns yaq mg)(a:zcG K yaq x=some (some (.ref f)))(l:K.lookup f=some ⟨oc,n,.func (zcF x x (cC st) (bE st) (ah st) .none kV j pm m i ct),osl⟩)(c:zcg K i x=true)(k:zcf K (.ref f)=true)(b:∀(kV j pm:yai)(m:Option Addr)(i ct:yai)(us:List yai),us.length=ps.length->yaz (zcF x x (cC st) (bE st) (ah st) .none kV j pm m i ct) ⟨us,[]⟩=pure (ps.zip us)):Src K mg x ps st:=
 ⟨f,_,jA (st:=st) l c k,zcs X G a,(jA (st:=st) l c k).binds b⟩
end J
namespace M
open PySem L2
inductive D where
 |bD|bl (b:Bool)|int (i:Int)|str (x:Str)|tup (ds:List D)|lst (ds:List D)|dct (ks:List Key) (ds:List D)|loc (n:Nat)|ty (n:String)|lz (ns:List Int)|fd|fn (a:Addr)
inductive MO where
 |lst (ds:List D)|dct (ks:List Key) (ds:List D)|feed (n:Nat)|ins (C:Addr) (ks:List Str) (ds:List D)|Hy (F:Addr->List Addr->Heap->Prop) (ks:List D)
noncomputable def fd3(l s d:Int):List (Key×V):=[(.inr "left",.int l),(.inr "seed",.int s),(.inr "drawn",.int d)]
abbrev aN:=List (Option MO)
noncomputable def MO.d:MO->D
 |.lst ds=>.lst ds
 |.dct ks ds=>.dct ks ds
 |.feed _=>.fd
 |.ins _ _ _=>.fd
 |.Hy _ _=>.fd
inductive R where
 |dat (d:D)|new (o:MO)
noncomputable def R.d:R->D
 |.dat d=>d
 |.new o=>o.d
theorem al{p:Addr}{o:HO}(a:H p=none):gO H (upd H p o):=λb h e=>by rw[aP (bF e a)];exact e
structure Wd where
 B:Hp
 r:Nat->Option Addr
structure Wd.le(w w':Wd):Prop where
 b:gO w.B w'.B
 r:∀n a,w.r n=some a->w'.r n=some a
theorem Wd.le.refl{w:Wd}:w.le w:=⟨gO.refl _,λ_ _ h=>h⟩
theorem Wd.le.trans{w j i:Wd}(h:w.le j)(g:j.le i):w.le i:=⟨h.b.trans g.b,λn a e=>g.r n a (h.r n a e)⟩
mutual
def Rep(K:yaI)(w:Wd):D->V->Prop
 |.bD,v=>v=.bD
 |.bl b,v=>v=.bl b
 |.int i,v=>v=.int i
 |.str x,v=>v=.str x
 |.ty n,v=>v=.ty n
 |.fd,v=>∃a,v=.ref a
 |.fn a,v=>v=.ref a
 |.loc n,v=>∃a,w.r n=some a/\v=.ref a
 |.tup ds,v=>∃a j,v=.ref a/\dI K w.B a j/\aq K w ds j
 |.lst ds,v=>∃a j,v=.ref a/\w.B a=some (.lst j)/\aq K w ds j
 |.lz ns,v=>∃a,v=.ref a/\cF K w.B a (ns.map V.int)
 |.dct ks ds,v=>∃a h,v=.ref a/\w.B a=some (.dK h)/\h.map (·.1)=ks/\aq K w ds (h.map (·.2))
def aq(K:yaI)(w:Wd):List D->List V->Prop
 |[],xs=>xs=[]
 |d::ds,xs=>∃x r,xs=x::r/\Rep K w d x/\aq K w ds r
end
mutual
theorem Rep.le{K:yaI}{w m:Wd}(e:w.le m):∀(d:D)(v:V),Rep K w d v->Rep K m d v
 |.bD,_,h=>by simpa[Rep] using h
 |.bl b,_,h=>by simpa[Rep] using h
 |.int i,_,h=>by simpa[Rep] using h
 |.str x,_,h=>by simpa[Rep] using h
 |.ty x,_,h=>by simpa[Rep] using h
 |.fd,_,h=>by simpa[Rep] using h
 |.fn _,_,h=>by simpa[Rep] using h
 |.loc n,v,h=>by
  simp only[Rep] at h⊢;obtain⟨a,h1,h2⟩:=h;exact⟨a,e.r _ _ h1,h2⟩
 |.lst ds,v,h=>by
  simp only[Rep] at h⊢;obtain⟨a,j,h1,h2,l⟩:=h;exact⟨a,j,h1,e.b _ _ h2,aq.le e ds j l⟩
 |.lz ns,v,h=>by
  simp only[Rep] at h⊢;obtain⟨a,h1,h2⟩:=h;exact⟨a,h1,e.b.seq h2⟩
 |.tup ds,v,h=>by
  simp only[Rep] at h⊢;obtain⟨a,j,h1,h2,l⟩:=h;exact⟨a,j,h1,dI.same e.b h2,aq.le e ds j l⟩
 |.dct ks ds,v,h=>by
  simp only[Rep] at h⊢;obtain⟨a,j,h1,h2,l,o⟩:=h;exact⟨a,j,h1,e.b _ _ h2,l,aq.le e ds _ o⟩
theorem aq.le{K:yaI}{w i:Wd}(e:w.le i):∀(ds:List D)(a:List V),aq K w ds a->aq K i ds a
 |[],_,h=>by simpa[aq] using h
 |d::ds,a,h=>by
  simp only[aq] at h⊢;obtain⟨x,r,h1,h2,j⟩:=h;exact⟨x,r,h1,Rep.le e d x h2,aq.le e ds r j⟩
end
section
variable {w w':Wd}
theorem aq.nil:aq K w [] []:=by simp[aq]
theorem aq.cons{d:D}{ds:List D}{vs:List V}(h:Rep K w d v)(t:aq K w ds vs):aq K w (d::ds) (v::vs):=by
 simp only[aq];exact⟨v,vs,rfl,h,t⟩
theorem aq.length:∀{ds:List D}{vs:List V},aq K w ds vs->vs.length=ds.length
 |[],_,h=>by simp only[aq] at h;subst h;rfl
 |d::ds,vs,h=>by
  simp only[aq] at h;obtain⟨x,r,rfl,_,h⟩:=h;simp[aq.length h]
theorem aq.get:∀{ds:List D}{vs:List V}{i:Nat}{d:D},aq K w ds vs->ds[i]? =some d->∃v,vs[i]? =some v/\Rep K w d v
 |[],_,_,_,_,e=>by simp at e
 |d::ds,vs,0,d',h,e=>by
  simp only[aq] at h;obtain⟨x,r,rfl,h1,h⟩:=h;simp at e;subst e;exact⟨x,rfl,h1⟩
 |d::ds,vs,i+1,d',h,e=>by
  simp only[aq] at h;obtain⟨x,r,rfl,h1,h⟩:=h;obtain⟨v,j,a⟩:=aq.get (i:=i) h (by simpa using e);exact⟨v,by simpa using j,a⟩
theorem aq.append:∀{ds es:List D}{vs us:List V},aq K w ds vs->aq K w es us->aq K w (ds++es) (vs++us)
 |[],_,_,_,h,g=>by simp only[aq] at h;subst h;exact g
 |d::ds,es,vs,us,h,g=>by
  simp only[aq] at h;obtain⟨x,r,rfl,h1,h⟩:=h;exact aq.cons h1 (aq.append h g)
theorem aq.snoc{ds:List D}{vs:List V}{d:D}(h:aq K w ds vs)(g:Rep K w d v):aq K w (ds++[d]) (vs++[v]):=h.append (.cons g .nil)
theorem aq.take:∀(n:Nat){ds:List D}{vs:List V},aq K w ds vs->aq K w (ds.take n) (vs.take n)
 |0,_,_,_=>by simp[aq]
 |n+1,[],_,h=>by simp only[aq] at h;subst h;simp[aq]
 |n+1,d::ds,vs,h=>by
  simp only[aq] at h;obtain⟨x,r,rfl,h1,h⟩:=h;exact aq.cons h1 (aq.take n h)
theorem aq.drop:∀(n:Nat){ds:List D}{vs:List V},aq K w ds vs->aq K w (ds.drop n) (vs.drop n)
 |0,_,_,h=>h
 |n+1,[],_,h=>by simp only[aq] at h;subst h;simp[aq]
 |n+1,d::ds,vs,h=>by
  simp only[aq] at h;obtain⟨x,r,rfl,h1,h⟩:=h;exact aq.drop n h
end
def lX(K:yaI)(w:Wd):MO->HO->Prop
 |.lst ds,u=>∃i,u=.lst i/\aq K w ds i
 |.dct ks ds,u=>∃h,u=.dK h/\h.map (·.1)=ks/\aq K w ds (h.map (·.2))
 |.feed n,u=>∃l s:Int,u=.dK (fd3 l s n)/\0<=l/\0<=s/\s<1000003
 |.ins C ks ds,u=>∃j fs,u=.ins C j fs/\fs.map (·.1)=ks/\aq K w ds (fs.map (·.2))
 |.Hy F ks,u=>∃(a:Addr)(bs:List Addr),u=.ext (F a bs)/\aq K w ks (bs.map V.ref)
theorem lX.le{w l:Wd}(e:w.le l):∀{o:MO}{u:HO},lX K w o u->lX K l o u:=by
 intro o u h;cases o with
 |lst ds=>obtain⟨i,h1,h2⟩:=h;exact⟨i,h1,h2.le e⟩
 |dct ks ds=>obtain⟨i,h1,h2,j⟩:=h;exact⟨i,h1,h2,j.le e⟩
 |feed n=>exact h
 |ins C ks ds=>obtain⟨m,fs,h1,h2,j⟩:=h;exact⟨m,fs,h1,h2,j.le e⟩
 |Hy F ks=>obtain⟨a,bs,h1,h2⟩:=h;exact⟨a,bs,h1,h2.le e⟩
structure Ok(K:yaI)(w:Wd)(H:Hp)(S:aN):Prop where
 base:gO w.B H
 live:∀n o,S[n]? =some (some o)->∃a u,w.r n=some a/\w.B a=none/\H a=some u/\lX K w o u
 inj:∀n m o o',S[n]? =some (some o)->S[m]? =some (some o')->w.r n=w.r m->n=m
 top:∀n,S.length<=n->w.r n=none
def CY(K:yaI)(w:Wd)(H:Hp)(S:aN):R->V->Prop
 |.dat d,v=>Rep K w d v
 |.new o,v=>∃a u,v=.ref a/\w.B a=none/\H a=some u/\lX K w o u/\∀n h,S[n]? =some (some h)->w.r n≠some a
def ee(K:yaI)(w:Wd)(δ:List (Option D))(a:St):Prop:=δ.length=a.length/\∀(i:Nat)(d:D),δ[i]? =some (some d)->∃v,a[i]? =some (some v)/\Rep K w d v
theorem ee.le{w j:Wd}{δ:List (Option D)}{a:St}(h:ee K w δ a)(e:w.le j):ee K j δ a:=⟨h.1,λi d q=>by
 obtain⟨v,h1,h2⟩:=h.2 i d q;exact⟨v,h1,h2.le e⟩⟩
theorem ee.set{w:Wd}{δ:List (Option D)}{m:St}{d:D}(h:ee K w δ m)(g:Rep K w d v)(i:Nat):ee K w (δ.set i (some d)) (m.set i (some v)):=by
 refine⟨by simp[h.1],λj e q=>?_⟩;by_cases a:i=j
 ·subst a;rw[zbd] at q⊢;rw[yIp rfl] at q⊢;by_cases l:i<δ.length
  ·rw[yIp l] at q;rw[yIp (by rw[<-h.1];exact l)];have:d=e:=by simpa using q
   subst this;exact⟨v,rfl,g⟩
  ·rw[yIn l] at q;cases q
 ·rw[zaA a] at q⊢;exact h.2 j e q
section
variable {w w':Wd}{S S':aN}
theorem freeze{r:R}(k:Ok K w H S)(h:CY K w H S r v):∃w',w.le w'/\Ok K w' H S/\Rep K w' r.d v:=by
 cases r with
 |dat d=>exact⟨w,.refl,k,h⟩
 |new o=>
  obtain⟨a,u,rfl,y,E,q,x⟩:=h;have le:w.le ⟨upd w.B a u,w.r⟩:=⟨al y,λ_ _ e=>e⟩
  refine⟨⟨upd w.B a u,w.r⟩,le,⟨λb i e=>?_,λn i e=>?_,k.inj,k.top⟩,?_⟩
  ·by_cases j:b=a
   ·subst j;have e:upd w.B b u b=some i:=e;rw[bG] at e;rw[E];exact e
   ·have e:upd w.B a u b=some i:=e;rw[aP j] at e;exact k.base b i e
  ·obtain⟨m,t,h1,h2,I,G⟩:=k.live n i e;have:m≠a:=by intro z;subst z;exact x n i e h1
   exact⟨m,t,h1,by show upd w.B a u m=none;rw[aP this];exact h2,I,G.le le⟩
  ·cases o with
   |lst ds=>
    obtain⟨s,rfl,h⟩:=q;show Rep K _ (.lst ds) _;simp only[Rep];exact⟨a,s,rfl,bG,h.le le⟩
   |dct ks ds=>
    obtain⟨l,rfl,h1,h⟩:=q;show Rep K _ (.dct ks ds) _;simp only[Rep];exact⟨a,l,rfl,bG,h1,h.le le⟩
   |feed n=>
    show Rep K _ .fd _;simp only[Rep];exact⟨a,rfl⟩
   |ins C ks ds=>
    show Rep K _ .fd _;simp only[Rep];exact⟨a,rfl⟩
   |Hy F ks=>
    show Rep K _ .fd _;simp only[Rep];exact⟨a,rfl⟩
theorem store{o:MO}(k:Ok K w H S)(h:CY K w H S (.new o) v):∃w',w.le w'/\Ok K w' H (S++[some o])/\Rep K w' (.loc S.length) v:=by
 obtain⟨a,u,rfl,L,O,I,l⟩:=h;let C:Nat->Option Addr:=λn=>if n=S.length then some a else w.r n;have le:w.le ⟨w.B,C⟩:=⟨gO.refl _,λn b e=>by
  have:n≠S.length:=by
   intro z;subst z;rw[k.top _ (zcK _)] at e;cases e
  show(if n=S.length then some a else w.r n)=some b;rw[yIn this];exact e⟩
 have at_:∀n i,(S++[some o])[n]? =some (some i)->(n=S.length/\i=o)∨(n<S.length/\S[n]? =some (some i)):=λn i e=>by
  by_cases t:n<S.length
  ·rw[zae t] at e;exact .inr ⟨t,e⟩
  ·rw[zab (by lia)] at e;have:n - S.length=0:=by
    cases q:n - S.length with
    |zero=>rfl
    |succ j=>rw[q] at e;simp at e
   rw[this] at e;have e:o=i:=by simpa using e
   exact .inl ⟨by lia,e.symm⟩
 refine⟨⟨w.B,C⟩,le,⟨k.base,λn i e=>?_,λn m x s U F e=>?_,λn l=>?_⟩,?_⟩
 ·rcases at_ n i e with⟨rfl,rfl⟩|⟨t,e⟩
  ·exact⟨a,u,by show(if _ then _ else _)=_;rw[yIp rfl],L,O,I.le le⟩
  ·obtain⟨W,G,h1,h2,Q,P⟩:=k.live n i e;exact⟨W,G,le.r _ _ h1,h2,Q,P.le le⟩
 ·rcases at_ n x U with⟨rfl,rfl⟩|⟨t,E⟩
  ·rcases at_ m s F with⟨rfl,rfl⟩|⟨y,q2⟩
   ·rfl
   ·exfalso;have e:(if S.length=S.length then some a else w.r S.length)=(if m=S.length then some a else w.r m):=e;rw[yIp rfl,yIn (by lia)] at e;exact l m s q2 e.symm
  ·rcases at_ m s F with⟨rfl,rfl⟩|⟨y,q2⟩
   ·exfalso;have e:(if n=S.length then some a else w.r n)=(if S.length=S.length then some a else w.r S.length):=e;rw[yIp rfl,yIn (by lia)] at e;exact l n x E e
   ·have e:(if n=S.length then some a else w.r n)=(if m=S.length then some a else w.r m):=e;rw[yIn (by lia),yIn (by lia)] at e;exact k.inj n m x s E q2 e
 ·rw[zaM] at l;have:n≠S.length:=by simp at l;lia
  show(if n=S.length then some a else w.r n)=none;rw[yIn this];exact k.top n (by simp at l;lia)
 ·simp only[Rep];exact⟨a,by show(if _ then _ else _)=_;rw[yIp rfl],rfl⟩
theorem Ok.alloc{p:Addr}{o:HO}(k:Ok K w H S)(h:H p=none):Ok K w (upd H p o) S:=
 ⟨k.base.trans (al h),λn i e=>by
  obtain⟨a,u,h1,h2,l,j⟩:=k.live n i e;exact⟨a,u,h1,h2,al h _ _ l,j⟩,k.inj,k.top⟩
theorem Ok.free{p:Addr}(k:Ok K w H S)(a:H p=none):w.B p=none:=k.base.free a
theorem Ok.fresh{p:Addr}{o:HO}{m:MO}(k:Ok K w H S)(i:H p=none)(h:lX K w m o):CY K w (upd H p o) S (.new m) (.ref p):=
 ⟨p,o,rfl,k.free i,bG,h,λn l e z=>by
  obtain⟨a,u,h1,h2,j,q⟩:=k.live n l e;rw[z] at h1;cases h1;rw[i] at j;cases j⟩
theorem Ok.sJ{p:Addr}{ds:List D}(k:Ok K w H S)(l:H p=none)(h:aq K w ds xs):∃w',w.le w'/\Ok K w' (upd H p (.tup xs)) S/\Rep K w' (.tup ds) (.ref p):=by
 have q:=k.free l;have le:w.le ⟨upd w.B p (.tup xs),w.r⟩:=⟨al q,λ_ _ e=>e⟩
 refine⟨⟨upd w.B p (.tup xs),w.r⟩,le,⟨λb o e=>?_,λn o e=>?_,k.inj,k.top⟩,?_⟩
 ·by_cases j:b=p
  ·subst j;have e:upd w.B b (.tup xs) b=some o:=e;rw[bG] at e⊢;exact e
  ·have e:upd w.B p (.tup xs) b=some o:=e;rw[aP j] at e⊢;exact k.base b o e
 ·obtain⟨a,u,h1,h2,m,s⟩:=k.live n o e;have i:a≠p:=bF m l;exact⟨a,u,h1,by show upd w.B p _ a=none;rw[aP i];exact h2,by rw[aP i];exact m,s.le le⟩
 ·simp only[Rep];exact⟨p,xs,rfl,dI.of bG,h.le le⟩
theorem Ok.put{n:Nat}{a:Addr}{o o':MO}{s:HO}(k:Ok K w H S)(e:S[n]? =some (some o))(v:w.r n=some a)(h:lX K w o' s):Ok K w (upd H a s) (S.set n (some o')):=by
 have L:n<S.length:=by
  rcases zcC n S.length with h|h
  ·exact h
  ·rw[zat h] at e;cases e
 have at_:∀m q,(S.set n (some o'))[m]? =some (some q)->(m=n/\q=o')∨(m≠n/\S[m]? =some (some q)):=λm q z=>by
  by_cases i:n=m
  ·subst i;rw[zbd,yIp rfl,yIp L] at z;have z:o'=q:=by simpa using z
   exact .inl ⟨rfl,z.symm⟩
  ·rw[zaA i] at z;exact .inr ⟨λy=>i y.symm,z⟩
 obtain⟨X,U,h1,h2,W,_⟩:=k.live n o e;rw[v] at h1;cases h1;refine⟨λb q z=>?_,λm q z=>?_,λm l q I z F y=>?_,λm i=>k.top m (by simpa using i)⟩
 ·rw[aP (by intro y;subst y;rw[h2] at z;cases z)];exact k.base b q z
 ·rcases at_ m q z with⟨rfl,rfl⟩|⟨i,z⟩
  ·exact⟨a,s,v,h2,bG,h⟩
  ·obtain⟨b,u,x,Q,P,O⟩:=k.live m q z;have:b≠a:=by
    intro y;subst y;exact i (k.inj m n q o z e (x.trans v.symm))
   exact⟨b,u,x,Q,by rw[aP this];exact P,O⟩
 ·have j:∀m q,(S.set n (some o'))[m]? =some (some q)->∃t,S[m]? =some (some t):=λm q z=>by
   rcases at_ m q z with⟨rfl,rfl⟩|⟨i,z⟩
   ·exact⟨o,e⟩
   ·exact⟨q,z⟩
  obtain⟨t,E⟩:=j m q z;obtain⟨G,C⟩:=j l I F;exact k.inj m l t G E C y
end
noncomputable def aT(S:aN):D->D
 |.loc n=>match S[n]? with
  |some (some o)=>o.d
  |_=>.loc n
 |d=>d
section
variable {w:Wd}{S:aN}
theorem br{d:D}{ds:List D}(k:Ok K w H S)(h:Rep K w d v)(e:aT S d=.lst ds):∃a i,v=.ref a/\H a=some (.lst i)/\aq K w ds i:=by
 cases d with
 |loc n=>
  simp only[Rep] at h;obtain⟨a,h1,rfl⟩:=h;simp only[aT] at e;split at e
  next o q=>
   obtain⟨x,u,j,t,s,m⟩:=k.live n o q;rw[h1] at j;cases j;cases o with
   |lst es=>
    have:es=ds:=by simpa[MO.d] using e
    subst this;obtain⟨i,rfl,g⟩:=m;exact⟨a,i,rfl,s,g⟩
   |dct ks es=>simp[MO.d] at e
   |feed n=>simp[MO.d] at e
   |ins C ks ds=>simp[MO.d] at e
   |Hy F ks=>simp[MO.d] at e
  next=>cases e
 |lst es=>
  have:es=ds:=by simpa[aT] using e
  subst this;simp only[Rep] at h;obtain⟨a,i,h1,h2,l⟩:=h;exact⟨a,i,h1,k.base _ _ h2,l⟩
 |_=>simp[aT] at e
theorem b5{d:D}{ds:List D}(k:Ok K w H S)(h:Rep K w d v)(e:aT S d=.tup ds):∃a i,v=.ref a/\dI K H a i/\aq K w ds i:=by
 cases d with
 |loc n=>
  simp only[aT] at e;split at e
  next o q=>cases o<;>simp[MO.d] at e
  next=>cases e
 |tup es=>
  have:es=ds:=by simpa[aT] using e
  subst this;simp only[Rep] at h;obtain⟨a,i,h1,h2,j⟩:=h;exact⟨a,i,h1,dI.same k.base h2,j⟩
 |_=>simp[aT] at e
theorem ff{d:D}{ks:List Key}{ds:List D}(k:Ok K w H S)(h:Rep K w d v)(e:aT S d=.dct ks ds):∃a kvs,v=.ref a/\H a=some (.dK kvs)/\kvs.map (·.1)=ks/\aq K w ds (kvs.map (·.2)):=by
 cases d with
 |loc n=>
  simp only[Rep] at h;obtain⟨a,h1,rfl⟩:=h;simp only[aT] at e;split at e
  next o q=>
   obtain⟨x,u,i,t,s,m⟩:=k.live n o q;rw[h1] at i;cases i;cases o with
   |lst es=>simp[MO.d] at e
   |feed n=>simp[MO.d] at e
   |ins C ks ds=>simp[MO.d] at e
   |Hy F ks=>simp[MO.d] at e
   |dct ks' es=>
    have:ks'=ks/\es=ds:=by simpa[MO.d] using e
    obtain⟨rfl,rfl⟩:=this;obtain⟨kvs,rfl,g⟩:=m;exact⟨a,kvs,rfl,s,g⟩
  next=>cases e
 |dct ks' es=>
  have:ks'=ks/\es=ds:=by simpa[aT] using e
  obtain⟨rfl,rfl⟩:=this;simp only[Rep] at h;obtain⟨a,j,h1,h2,l⟩:=h;exact⟨a,j,h1,k.base _ _ h2,l⟩
 |_=>simp[aT] at e
end
abbrev bC:=List (Option D)
abbrev AK:=R->aN->Prop
abbrev AE:=bC->aN->AK->Prop
abbrev AT:=bC->aN->(Bool->aN->Prop)->Prop
abbrev AA:=bC->aN->(List D->aN->Prop)->Prop
abbrev AO:=bC->aN->(Option Int->aN->Prop)->Prop
structure jr where
 nx:bC->aN->Prop
 rt:AK
 bk:bC->aN->Prop:=λ_ _=>False
 ct:bC->aN->Prop:=λ_ _=>False
abbrev AS:=jr->bC->aN->Prop
abbrev AG:=D->bC->aN->(bC->aN->Prop)->Prop
abbrev C6:=List D->bC->aN->(bC->aN->Prop)->Prop
abbrev AI:=bC->aN->(List D->(aN->Prop)->aN->Prop)->Prop
abbrev A2:=D->D->aN->AK->Prop
abbrev A1:=D->aN->AK->Prop
abbrev AN:=List D->aN->AK->Prop
section
variable (K:yaI)(w:Wd)
def dY(j:AK)(Q:VK):Prop:=∀r h v a i,w.le a->Ok K a i h->CY K a i h r v->j r h->Q v i
def BA(j:Bool->aN->Prop)(Q:Bool->Hp->Prop):Prop:=∀b h a i,w.le a->Ok K a i h->j b h->Q b i
def R8(l:List D->aN->Prop)(Q:List V->Hp->Prop):Prop:=∀h i vs a j,w.le a->Ok K a j i->aq K a h vs->l h i->Q vs j
def R7(l:Option Int->aN->Prop)(Q:Option Int->Hp->Prop):Prop:=∀i h a j,w.le a->Ok K a j h->l i h->Q i j
def mJ(m:bC->aN->Prop)(Q:St->Hp->Prop):Prop:=∀i j h a l,w.le a->Ok K a l j->ee K a i h->m i j->Q h l
structure By(Da:jr)(D:Ends):Prop where
 nx:mJ K w Da.nx D.nx
 rt:dY K w Da.rt D.rt
 bk:mJ K w Da.bk D.bk
 ct:mJ K w Da.ct D.ct
structure RZ(J:It)(ds:List D)(P:aN->Prop):Prop where
 go:∀i H S w' d,w.le w'->Ok K w' H S->P S->ds[i]? =some d->J.go i H
 De:∀i H S w' d x H',w.le w'->Ok K w' H S->P S->ds[i]? =some d->J.De i H x H'->∃w3,w'.le w3/\Ok K w3 H' S/\Rep K w3 d x
 stop:∀i H S w',w.le w'->Ok K w' H S->P S->i=ds.length->J.stop i H
def R9(l:List D->(aN->Prop)->aN->Prop)(R:It->Hp->Prop):Prop:=∀h P i J a j,w.le a->Ok K a j i->RZ K a J h P->l h P i->R J j
end
section
variable {w w':Wd}
theorem dY.le{a:AK}{Q:VK}(h:dY K w a Q)(e:w.le w'):dY K w' a Q:=λr S v i H l=>h r S v i H (e.trans l)
theorem BA.le{Qa}{Q}(h:BA K w Qa Q)(e:w.le w'):BA K w' Qa Q:=λr S a H l=>h r S a H (e.trans l)
theorem mJ.le{Qa}{Q}(h:mJ K w Qa Q)(e:w.le w'):mJ K w' Qa Q:=λr S v a H l=>h r S v a H (e.trans l)
theorem By.le{a:jr}{D:Ends}(h:By K w a D)(e:w.le w'):By K w' a D:=⟨h.nx.le e,h.rt.le e,h.bk.le e,h.ct.le e⟩
end
section
variable (K:yaI)
def aS(a:AE):TE:=λj H Q=>∃w h S i,Ok K w H S/\ee K w h j/\a h S i/\dY K w i Q
def gK(a:AT):TT:=λj H Q=>∃w h S i,Ok K w H S/\ee K w h j/\a h S i/\BA K w i Q
def ko(a:AA):TA:=λj H Q=>∃w h S i,Ok K w H S/\ee K w h j/\a h S i/\R8 K w i Q
def F2(a:AO):TO:=λj H Q=>∃w h S i,Ok K w H S/\ee K w h j/\a h S i/\R7 K w i Q
def gM(a:AS):TS:=λD j H=>∃w h S i,Ok K w H S/\ee K w h j/\a i h S/\By K w i D
def vR(a:AG):TG:=λx j H Q=>∃w d h S i,Ok K w H S/\ee K w h j/\Rep K w d x/\a d h S i/\mJ K w i Q
def qX(a:C6):Gx:=λm l H Q=>∃w i h S j,Ok K w H S/\ee K w h l/\aq K w i m/\a i h S j/\mJ K w j Q
def yM(a:AI):TI:=λj H R=>∃w h S i,Ok K w H S/\ee K w h j/\a h S i/\R9 K w i R
def vS(a:A2):R2:=λx y H Q=>∃w d e S h,Ok K w H S/\Rep K w d x/\Rep K w e y/\a d e S h/\dY K w h Q
def RE(a:A1):V->Hp->VK->Prop:=λx H Q=>∃w d S h,Ok K w H S/\Rep K w d x/\a d S h/\dY K w h Q
def OL(a:AN):List V->Hp->VK->Prop:=λj H Q=>∃w h S i,Ok K w H S/\aq K w h j/\a h S i/\dY K w i Q
def OM(a:D->List D->aN->AK->Prop):V->List V->Hp->VK->Prop:=λx j H Q=>∃w d h S i,Ok K w H S/\Rep K w d x/\aq K w h j/\a d h S i/\dY K w i Q
def au(a:AN):Sp:=λvs H Q _=>OL K a vs H Q
end
structure GE(X:Cx)(e:Expr)(a:AE):Prop where
 p:PE X e (aS X.K a)
structure GT(X:Cx)(e:Expr)(a:AT):Prop where
 p:PT X e (gK X.K a)
structure GW(X:Cx)(e:Expr)(a:AT):Prop where
 p:PW X e (gK X.K a)
structure GA(X:Cx)(e:List Expr)(a:AA):Prop where
 p:PA X e (ko X.K a)
structure GO(X:Cx)(e:Option Expr)(a:AO):Prop where
 p:PO X e (F2 X.K a)
structure GS(X:Cx)(s:Stmt)(a:AS):Prop where
 p:PS X s (gM X.K a)
structure C2(X:Cx)(s:List Stmt)(a:AS):Prop where
 p:wC X s (gM X.K a)
structure GG(X:Cx)(e:Expr)(a:AG):Prop where
 p:PG X e (vR X.K a)
structure R1(X:Cx)(e:List Expr)(a:C6):Prop where
 p:Ly X e (qX X.K a)
structure GI(X:Cx)(tg e:Expr)(a:AI):Prop where
 p:PI X tg e (yM X.K a)
structure Pw(X:Cx)(e:List Expr)(a:AT):Prop where
 p:Lx X e (gK X.K a)
structure mH(X:Cx)(f:yai->yai->Sem yai)(a:A2):Prop where
 p:fE X f (vS X.K a)
structure Ur(X:Cx)(f:yai->Sem yai)(a:A1):Prop where
 p:Pu X f (RE X.K a)
structure rK(X:Cx)(f:yai)(a:AN):Prop where
 p:bX X f (OL X.K a)
structure Uq(X:Cx)(a:A2):Prop where
 p:Hz X (vS X.K a)
theorem mE{t u:TE}(h:PE X e t)(m:∀a H Q,u a H Q->t a H Q):PE X e u:=λi s a H Q I q=>h i s a H Q I (m a H Q q)
theorem mT{t u:TT}(h:PT X e t)(m:∀a H Q,u a H Q->t a H Q):PT X e u:=λi s a H Q I q=>h i s a H Q I (m a H Q q)
theorem mW{t u:TT}(h:PW X e t)(m:∀a H Q,u a H Q->t a H Q):PW X e u:=λj i s a H Q I q=>h j i s a H Q I (m a H Q q)
theorem mA{e:List Expr}{t u:TA}(h:PA X e t)(m:∀a H Q,u a H Q->t a H Q):PA X e u:=λj i s a H Q I q=>h j i s a H Q I (m a H Q q)
theorem mO{e:Option Expr}{t u:TO}(h:PO X e t)(m:∀a H Q,u a H Q->t a H Q):PO X e u:=λi s a H Q I q=>h i s a H Q I (m a H Q q)
theorem mS{e:Stmt}{t u:TS}(h:PS X e t)(m:∀D a H,u D a H->t D a H):PS X e u:=λi s a H D I q=>h i s a H D I (m D a H q)
theorem Ug{e:List Stmt}{t u:TS}(h:wC X e t)(m:∀D a H,u D a H->t D a H):wC X e u:=λi s a H D I q=>h i s a H D I (m D a H q)
theorem mG{t u:TG}(h:PG X e t)(m:∀x a H Q,u x a H Q->t x a H Q):PG X e u:=λi s a H x v Q I r q=>h i s a H x v Q I r (m x a H Q q)
theorem Uh{e:List Expr}{t u:Gx}(h:Ly X e t)(m:∀x a H Q,u x a H Q->t x a H Q):Ly X e u:=λi s a H x v Q I r q=>h i s a H x v Q I r (m x a H Q q)
theorem mI{g:Expr}{t u:TI}(h:PI X g e t)(m:∀a H R,u a H R->t a H R):PI X g e u:=λi s a H R I q=>h i s a H R I (m a H R q)
theorem mTs{e:List Expr}{t u:TT}(h:Lx X e t)(m:∀a H Q,u a H Q->t a H Q):Lx X e u:=λi s a H Q I q=>h i s a H Q I (m a H Q q)
theorem m2{f:yai->yai->Sem yai}{t u:R2}(h:fE X f t)(m:∀x y H Q,u x y H Q->t x y H Q):fE X f u:=λa s i H x y v u Q I r j q=>h a s i H x y v u Q I r j (m x y H Q q)
theorem m1{f:yai->Sem yai}{t u:V->Hp->VK->Prop}(h:Pu X f t)(m:∀x H Q,u x H Q->t x H Q):Pu X f u:=λa s i H x v Q I r q=>h a s i H x v Q I r (m x H Q q)
theorem mC{f:yai}{t u:List V->Hp->VK->Prop}(h:bX X f t)(m:∀x H Q,u x H Q->t x H Q):bX X f u:=λa s i H x v Q I r q=>h a s i H x v Q I r (m x H Q q)
def iE(i:Nat):AE:=λa S Q=>∃d,a[i]? =some (some d)/\Q (.dat d) S
def aC(d:D):AE:=λ_ S Q=>Q (.dat d) S
def Kf(r:A2)(a b:AE):AE:=λh S Q=>a h S λx j=>b h j λy i=>r x.d y.d i Q
def TH(r:A1)(a:AE):AE:=λh S Q=>a h S λx i=>r x.d i Q
def jE:AA:=λ_ S Q=>Q [] S
def jo(a:AE)(b:AA):AA:=λh S Q=>a h S λx l=>b h l λi j=>Q (x.d::i) j
def Kd(a:AA):AE:=λi S Q=>a i S λh j=>h.length<=yag/\Q (.dat (.tup h)) j
def wu(a:AA):AE:=λi S Q=>a i S λh j=>h.length<=yag/\Q (.new (.lst h)) j
def bW(a:AE):AE:=λi S Q=>a i S λr h=>match r with
 |.new o=>Q (.dat (.loc h.length)) (h++[some o])
 |.dat d=>Q (.dat d) h
def aCall(sp:AN)(a:AA):AE:=λh S Q=>a h S λi j=>sp i j Q
def aB(a:AE):AT:=λh S Q=>a h S λr i=>∃b,r.d=.bl b/\Q b i
noncomputable def dX:D->Option Bool
 |.bD=>some false
 |.bl b=>some b
 |.int i=>some (i != 0)
 |.str y=>if y.length<=yag then some ((y.length:Int) != 0) else none
 |.tup ds=>some (!ds.isEmpty)
 |.lst ds=>some (!ds.isEmpty)
 |.dct ks _=>some (!ks.isEmpty)
 |_=>none
def OR(a:AE):AT:=λi S Q=>a i S λr h=>∃b,dX (aT h r.d)=some b/\Q b h
def Gv(a b:AE):AE:=λh S Q=>a h S λx i=>∃c,x.d=.bl c/\if c=true then b h i Q else Q (.dat (.bl false)) i
def OW(a b:AE):AE:=λh S Q=>a h S λx i=>∃c,x.d=.bl c/\if c=true then Q (.dat (.bl true)) i else b h i Q
def Gn(a:AE):AE:=λh S Q=>a h S λx i=>∃c,x.d=.bl c/\Q (.dat (.bl (!c))) i
def O6(a b:AT):AT:=λh S Q=>a h S λc i=>if c=true then b h i Q else Q false i
def TL(a b:AT):AT:=λh S Q=>a h S λc i=>if c=true then Q true i else b h i Q
def OX(a:AT):AT:=λh S Q=>a h S λc i=>Q (!c) i
def TQ(t:AT)(a b:AE):AE:=λh S Q=>t h S λc i=>if c=true then a h i Q else b h i Q
def tX(r l:A2)(a b c:AE):AE:=λh S Q=>a h S λx o=>b h o λy n=>r x.d y.d n λz i=>∃k,z.d=.bl k/\if k=true then c h i λj m=>l y.d j.d m Q else Q (.dat (.bl false)) i
def tT:AO:=λ_ S Q=>Q none S
def Gm(a:AE):AO:=λh S Q=>a h S λr j=>∃i,r.d=.int i/\Q (some i) j
def TJ(r:D->Option Int->Option Int->aN->AK->Prop)(a:AE)(l u:AO):AE:=λh S Q=>a h S λx o=>l h o λi n=>u h n λj m=>r x.d i j m Q
def rJ:AS:=λD a S=>D.nx a S
def qe(a b:AS):AS:=λD h S=>a {D with nx:=b D} h S
def OV(a:AE):AS:=λD h S=>a h S D.rt
def RK:AS:=λD _ S=>D.rt (.dat .bD) S
def Ba(a:AE):AS:=λD h S=>a h S λ_ i=>D.nx h i
def CG(c:AT)(a b:AS):AS:=λD h S=>c h S λk i=>if k=true then a D h i else b D h i
def bV(i:Nat):AG:=λd a S Q=>Q (a.set i (some d)) S
def rH:C6:=λh a S Q=>h=[]/\Q a S
def iD(a:AG)(b:C6):C6:=λj i S Q=>∃d r,j=d::r/\a d i S λh l=>b r h l Q
def rG(n:Nat)(a:C6):AG:=λd i S Q=>∃h,d=.tup h/\h.length=n/\a h i S Q
def zj(a:AE)(g:AG):AS:=λD h S=>a h S λr i=>g r.d h i D.nx
def qL(P:aN->Prop)(g:AG)(b:AS):List D->jr->bC->aN->Prop
 |[],D,δ,S=>P S/\D.nx δ S
 |x::xs,D,δ,S=>P S/\g x δ S λa h=>b {D with nx:=qL P g b xs D,ct:=qL P g b xs D,bk:=D.nx} a h
def d9(i:AI)(g:AG)(b:AS):AS:=λD a S=>i a S λh P j=>qL P g b h D a j
def Gj(c:AT)(b:AS):AS:=λD a S=>∃W:Nat->bC->aN->Prop,(∃m,W m a S)/\∀m a S,W m a S->
 c a S λk j=>if k=true then∃N:bC->aN->Prop,(∀h l,N h l->∃i,i<m/\W i h l)/\b {D with nx:=N,ct:=N,bk:=D.nx} a j else D.nx a j
def wm:AT:=λ_ S Q=>Q true S
def iy(P:aN->Prop)(g:AG)(t:AT)(e:AE):List D->List D->bC->aN->(List D->aN->Prop)->Prop
 |[],acc,_,S,Q=>P S/\Q acc S
 |x::xs,acc,δ,S,Q=>P S/\g x δ S λa j=>t a j λb h=>if b=true then e a h λr i=>acc.length<yag/\iy P g t e xs (acc++[r.d]) a i Q else iy P g t e xs acc a h Q
noncomputable def ri(caps:List (Option Nat))(δ:bC):bC:=caps.map λo=>o.bind λi=>(δ[i]?).getD none
def cW(caps:List (Option Nat))(i:AI)(g:AG)(t:AT)(e:AE):AE:=λh S Q=>i h S λj P m=>iy P g t e j [] (ri caps h) m λa l=>Q (.new (.lst a)) l
noncomputable def cy(lo:Int)(n:Nat):List D:=(zcO n).map λk:Nat=>.int (lo+(k:Int))
def mQ(a:AA):AI:=λh S Q=>a h S λi l=>∃j:Int,i=[.int j]/\(-(2 ^ 62)<=j/\j<2 ^ 62)/\Q (cy 0 j.toNat) (λ_=>True) l
noncomputable def signs(x:Str):List D:=x.cps.toList.map λc=>.str ⟨#[c]⟩
theorem dY.go{w:Wd}{n:AK}{Q:VK}(h:∀r j v i H',w.le i->Ok K i H' j->Rep K i r.d v->n r j->Q v H'):dY K w n Q:=λr j v i H' le ok rep q=>by
 obtain⟨o,m,l,a⟩:=freeze ok rep;exact h r j v o H' (le.trans m) l a q
theorem dY.dat{w a:Wd}{i:AK}{Q:VK}{d:D}{S:aN}(h:dY K w i Q)(le:w.le a)(ok:Ok K a H S)(rep:Rep K a d v)(q:i (.dat d) S):Q v H:=h (.dat d) S v a H le ok rep q
theorem Qh:∀a H Q,aS K (iE i) a H Q->PC i a H Q:=by
 rintro a H Q ⟨w,l,S,m,ok,env,⟨d,e,q⟩,bk⟩;obtain⟨v,j,h⟩:=env.2 i d e;exact⟨v,j,bk.dat .refl ok h q⟩
theorem Qv{d:D}(h:∀w,Rep K w d v):∀a H Q,aS K (aC d) a H Q->tC v a H Q:=by
 rintro a H Q ⟨w,i,S,j,ok,env,q,bk⟩;exact bk.dat .refl ok (h w) q
theorem Ii{r:A2}{a b:AE}:∀m H Q,aS K (Kf r a b) m H Q->PL (vS K r) (aS K a) (aS K b) m H Q:=by
 rintro m H Q ⟨w,s,S,F,ok,env,q,bk⟩;refine⟨w,s,S,_,ok,env,q,.go λx E I u O l o i y=>?_⟩;refine⟨u,s,E,_,o,env.le l,y,.go λv C G t L j n h q2=>?_⟩;exact⟨t,x.d,v.d,C,F,n,i.le j,h,q2,bk.le (l.trans j)⟩
theorem Sz{r:A1}{a:AE}:∀i H Q,aS K (TH r a) i H Q->T7 (RE K r) (aS K a) i H Q:=by
 rintro i H Q ⟨w,m,S,u,ok,env,q,bk⟩;refine⟨w,m,S,_,ok,env,q,.go λo t v n x l j h s=>?_⟩;exact⟨n,o.d,t,u,j,h,s,bk.le l⟩
theorem Qo:∀a H Q,ko K jE a H Q->HJ a H Q:=by
 rintro a H Q ⟨w,h,S,i,ok,env,q,bk⟩;exact bk [] S [] w H .refl ok .nil q
theorem MA{a:AE}{b:AA}:∀m H Q,ko K (jo a b) m H Q->Dw (aS K a) (ko K b) m H Q:=by
 rintro m H Q ⟨w,s,S,I,ok,env,q,bk⟩;refine⟨w,s,S,_,ok,env,q,.go λF y E u L l o i v=>?_⟩;refine⟨u,s,y,_,o,env.le l,v,λG x vs t C j n h q2=>?_⟩;exact bk _ x _ t C (l.trans j) n (.cons (i.le j) h) q2
theorem Qi{a:AA}:∀j H Q,aS K (Kd a) j H Q->PD (ko K a) j H Q:=by
 rintro j H Q ⟨w,s,S,F,ok,env,q,bk⟩;refine⟨w,s,S,_,ok,env,q,λC E vs y G o m h ⟨v,t⟩=>⟨by rw[h.length];exact v,λp u=>?_⟩⟩;obtain⟨x,n,l,i⟩:=m.sJ u h;exact bk.dat (o.trans n) l i t
theorem Qp{a:AA}:∀j H Q,aS K (wu a) j H Q->PR (ko K a) j H Q:=by
 rintro j H Q ⟨w,n,S,x,ok,env,q,bk⟩;refine⟨w,n,S,_,ok,env,q,λu v vs o y l i h ⟨t,s⟩=>⟨by rw[h.length];exact t,λp m=>?_⟩⟩;exact bk (.new (.lst u)) v _ o _ l (i.alloc m) (i.fresh m ⟨vs,rfl,h⟩) s
theorem s_alloc{a:AE}:∀m H Q,aS K (bW a) m H Q->aS K a m H Q:=by
 rintro m H Q ⟨w,u,S,E,ok,env,q,bk⟩;refine⟨w,u,S,_,ok,env,q,λr C v y F l j h t=>?_⟩;cases r with
 |dat d=>exact bk.dat l j h t
 |new o=>
  obtain⟨x,s,n,i⟩:=store j h;exact bk.dat (l.trans s) n i t
theorem s_call{sp:AN}{a:AA}{E:XK}:∀i H Q,aS K (aCall sp a) i H Q->zy (au K sp) [] E (ko K a) i H Q:=by
 rintro i H Q ⟨w,m,S,u,ok,env,q,bk⟩;refine⟨w,m,S,_,ok,env,q,λs t vs n v l j h o=>?_⟩;exact⟨n,s,t,u,j,by rw[zbL];exact h,o,bk.le l⟩
theorem Qu{r:AN}{a:AA}:∀i H Q,aS K (aCall r a) i H Q->PX (OL K r) (ko K a) i H Q:=by
 rintro i H Q ⟨w,m,S,u,ok,env,q,bk⟩;refine⟨w,m,S,_,ok,env,q,λs t vs n v l j h o=>?_⟩;exact⟨n,s,t,u,j,h,o,bk.le l⟩
theorem gU{w:Wd}{d:D}(h:Rep K w d v)(e:d=.bl b):v=.bl b:=by subst e;simpa[Rep] using h
theorem aZ{w:Wd}{b:Int}{d:D}(h:Rep K w d v)(e:d=.int b):v=.int b:=by subst e;simpa[Rep] using h
theorem jT{w:Wd}{b:Str}{d:D}(h:Rep K w d v)(e:d=.str b):v=.str b:=by subst e;simpa[Rep] using h
theorem Iw{w:Wd}{d:D}(h:Rep K w d v)(e:d=.bD):v=.bD:=by subst e;simpa[Rep] using h
theorem EF{w:Wd}{n:String}{d:D}(h:Rep K w d v)(e:d=.ty n):v=.ty n:=by subst e;simpa[Rep] using h
theorem Rep.bl{w:Wd}:Rep K w (.bl b) (.bl b):=by simp[Rep]
theorem Rep.int{w:Wd}{b:Int}:Rep K w (.int b) (.int b):=by simp[Rep]
theorem Rep.str{w:Wd}{b:Str}:Rep K w (.str b) (.str b):=by simp[Rep]
theorem Rep.bD{w:Wd}:Rep K w .bD .bD:=by simp[Rep]
theorem Rep.ty{w:Wd}{n:String}:Rep K w (.ty n) (.ty n):=by simp[Rep]
theorem Ub{a:AE}:∀i H Q,gK K (aB a) i H Q->tB (aS K a) i H Q:=by
 rintro i H Q ⟨w,m,S,x,ok,env,q,bk⟩;refine⟨w,m,S,_,ok,env,q,.go λv s u n t l j h ⟨b,e,o⟩=>⟨b,gU h e,bk b s n t l j o⟩⟩
theorem HF{w:Wd}{S:aN}{d:D}(ok:Ok K w H S)(h:Rep K w d v)(e:dX (aT S d)=some b):Gw K v H b:=by
 cases q:aT S d with
 |lst ds=>
  rw[q] at e;obtain⟨a,i,rfl,h1,h2⟩:=br ok h q;refine Or.inl ⟨i,cF.of h1,?_⟩;have:b= !ds.isEmpty:=by simpa[dX] using e.symm
  rw[this];have:=h2.length;cases ds<;>cases i<;>simp at this⊢
 |tup ds=>
  rw[q] at e;obtain⟨a,i,rfl,h1,h2⟩:=b5 ok h q;refine Or.inr (Or.inl ⟨i,h1,?_⟩);have:b= !ds.isEmpty:=by simpa[dX] using e.symm
  rw[this];have:=h2.length;cases ds<;>cases i<;>simp at this⊢
 |dct ks ds=>
  rw[q] at e;obtain⟨a,j,rfl,h1,h2,l⟩:=ff ok h q;refine Or.inr (Or.inr ⟨j,h1,?_⟩);have:b= !ks.isEmpty:=by simpa[dX] using e.symm
  rw[this,<-h2];cases j<;>simp
 |_=>
  rw[q] at e;cases d<;>simp[aT] at q<;>first
   |(subst q;simp only[Rep] at h;subst h;simp[dX] at e;simp[Gw,e];done)
   |(simp[dX] at e;done)
   |skip
  all_goals first
   |(simp only[Rep] at h;subst h;subst q;simp only[dX,zcN.injEq] at e;subst e;rfl)
   |(simp only[Rep] at h;subst h;simp only[dX,zcN.injEq] at e;subst e;rfl)
   |(split at q<;>first|(rename_i o _;cases o<;>simp[MO.d] at q)|(cases q;simp[dX] at e)|cases q)
   |(simp only[Rep] at h;subst h;subst q;simp only[dX] at e;split at e;next hl=>exact⟨hl,by simpa using e.symm⟩;next=>cases e)
   |skip
theorem Qj{a:AE}:∀j H Q,gK K (OR a) j H Q->(aS K a) j H (λx H'=>∃k,Gw K x H' k/\Q k H'):=by
 rintro j H Q ⟨w,m,S,y,ok,env,q,bk⟩;exact⟨w,m,S,_,ok,env,q,.go λv s u n t l i h ⟨b,e,o⟩=>⟨b,HF i h e,bk b s n t l i o⟩⟩
theorem MB{a b:AE}:∀l H Q,aS K (Gv a b) l H Q->KO (aS K a) (aS K b) l H Q:=by
 rintro l H Q ⟨w,m,S,t,ok,env,q,bk⟩;refine⟨w,m,S,_,ok,env,q,.go λv s u o x h j i ⟨c,e,n⟩=>⟨c,gU i e,?_⟩⟩;cases c with
 |true=>exact sU ⟨o,m,s,t,j,env.le h,by simpa using n,bk.le h⟩
 |false=>exact sV (bk.dat h j .bl (by simpa using n))
theorem Qm{a b:AE}:∀l H Q,aS K (OW a b) l H Q->PK (aS K a) (aS K b) l H Q:=by
 rintro l H Q ⟨w,m,S,t,ok,env,q,bk⟩;refine⟨w,m,S,_,ok,env,q,.go λv s u o x h j i ⟨c,e,n⟩=>⟨c,gU i e,?_⟩⟩;cases c with
 |false=>exact sV ⟨o,m,s,t,j,env.le h,by simpa using n,bk.le h⟩
 |true=>exact sU (bk.dat h j .bl (by simpa using n))
theorem Mp{a:AE}:∀i H Q,aS K (Gn a) i H Q->KD (aS K a) i H Q:=by
 rintro i H Q ⟨w,m,S,v,ok,env,q,bk⟩;exact⟨w,m,S,_,ok,env,q,.go λt u s o x l j h ⟨c,e,n⟩=>⟨c,gU h e,bk.dat l j .bl n⟩⟩
theorem Qx{a b:AT}:∀j H Q,gK K (O6 a b) j H Q->PY (gK K a) (gK K b) j H Q:=by
 rintro j H Q ⟨w,l,S,s,ok,env,q,bk⟩;refine⟨w,l,S,_,ok,env,q,λc o m t h i n=>?_⟩;cases c with
 |true=>exact sU ⟨m,l,o,s,i,env.le h,by simpa using n,bk.le h⟩
 |false=>exact sV (bk _ o m t h i (by simpa using n))
theorem SD{a b:AT}:∀j H Q,gK K (TL a b) j H Q->T9 (gK K a) (gK K b) j H Q:=by
 rintro j H Q ⟨w,l,S,s,ok,env,q,bk⟩;refine⟨w,l,S,_,ok,env,q,λc o m t h i n=>?_⟩;cases c with
 |false=>exact sV ⟨m,l,o,s,i,env.le h,by simpa using n,bk.le h⟩
 |true=>exact sU (bk _ o m t h i (by simpa using n))
theorem Qn{a:AT}:∀h H Q,gK K (OX a) h H Q->PM (gK K a) h H Q:=by
 rintro h H Q ⟨w,l,S,t,ok,env,q,bk⟩;exact⟨w,l,S,_,ok,env,q,λc o m s j i n=>bk _ o m s j i n⟩
theorem SE{t:AT}{a b:AE}:∀j H Q,aS K (TQ t a b) j H Q->Ua (gK K t) (aS K a) (aS K b) j H Q:=by
 rintro j H Q ⟨w,l,S,s,ok,env,q,bk⟩;refine⟨w,l,S,_,ok,env,q,λc o m u h i n=>?_⟩;cases c with
 |true=>exact sU ⟨m,l,o,s,i,env.le h,by simpa using n,bk.le h⟩
 |false=>exact sV ⟨m,l,o,s,i,env.le h,by simpa using n,bk.le h⟩
theorem zT{r I:A2}{a b c:AE}:∀u H Q,aS K (tX r I a b c) u H Q->xm (vS K r) (vS K I) (aS K a) (aS K b) (aS K c) u H Q:=by
 rintro u H Q ⟨w,v,S,Qa,ok,env,q,bk⟩;refine⟨w,v,S,_,ok,env,q,.go λX S1 v1 U H1 t E l Y=>?_⟩;refine⟨U,v,S1,_,E,env.le t,Y,.go λG S2 v2 P H2 s C h q2=>?_⟩;refine⟨P,X.d,G.d,S2,_,C,l.le s,h,q2,.go λr3 S3 v3 O H3 o m j x=>?_⟩;obtain⟨k,Z,q3⟩:=x;refine⟨k,gU j Z,?_⟩;have F:=t.trans (s.trans o);cases k with
 |false=>exact sV (bk.dat F m .bl (by simpa using q3))
 |true=>
  rw[yIp rfl] at q3;refine sU ⟨O,v,S3,_,m,env.le F,q3,.go λW S4 v4 L H4 n y i q4=>?_⟩;exact⟨L,G.d,W.d,S4,_,y,h.le (o.trans n),i,q4,bk.le (F.trans n)⟩
theorem D7:∀a H Q,F2 K tT a H Q->zw a H Q:=by
 rintro a H Q ⟨w,h,S,i,ok,env,q,bk⟩;exact bk none S w H .refl ok q
theorem Mm{a:AE}:∀j H Q,F2 K (Gm a) j H Q->KC (aS K a) j H Q:=by
 rintro j H Q ⟨w,n,S,y,ok,env,q,bk⟩;exact⟨w,n,S,_,ok,env,q,.go λx t v o u m l h ⟨i,e,s⟩=>⟨i,aZ h e,bk _ t o u m l s⟩⟩
def Lp(K:yaI)(a:D->Option Int->Option Int->aN->AK->Prop):V->Option Int->Option Int->Hp->VK->Prop:=λx i j H Q=>∃w d S h,Ok K w H S/\Rep K w d x/\a d i j S h/\dY K w h Q
theorem SA{r:D->Option Int->Option Int->aN->AK->Prop}{a:AE}{l u:AO}:∀s H Q,aS K (TJ r a l u) s H Q->T8 (Lp K r) (aS K a) (F2 K l) (F2 K u) s H Q:=by
 rintro s H Q ⟨w,t,S,U,ok,env,q,bk⟩;refine⟨w,t,S,_,ok,env,q,.go λG P W F Z m y n I=>?_⟩;refine⟨F,t,P,_,y,env.le m,I,λi O E Y h x q2=>?_⟩;refine⟨E,t,O,_,x,env.le (m.trans h),q2,λj L C X o v q3=>?_⟩;exact⟨C,G.d,L,U,v,n.le (h.trans o),q3,bk.le (m.trans (h.trans o))⟩
theorem Mq:∀D a H,gM K rJ D a H->KG D a H:=by
 rintro D a H ⟨w,h,S,i,ok,env,q,bk⟩;exact bk.nx h S a w H .refl ok env q
theorem Qk{a b:AS}:∀D i H,gM K (qe a b) D i H->PF (gM K a) (gM K b) D i H:=by
 rintro D i H ⟨w,o,S,v,ok,env,q,bk⟩;refine⟨w,o,S,_,ok,env,q,⟨λj u n s x m l h t=>?_,bk.rt,bk.bk,bk.ct⟩⟩;exact⟨s,j,u,v,l,h,t,bk.le m⟩
theorem Ql{a:AE}:∀D h H,gM K (OV a) D h H->PJ (aS K a) D h H:=by
 rintro D h H ⟨w,i,S,j,ok,env,q,bk⟩;exact⟨w,i,S,_,ok,env,q,bk.rt⟩
theorem Mz{a:AE}:∀D i H,gM K (Ba a) D i H->KJ (aS K a) D i H:=by
 rintro D i H ⟨w,l,S,x,ok,env,q,bk⟩;exact⟨w,l,S,_,ok,env,q,.go λv s u n t h j m o=>bk.nx l s i n t h j (env.le h) o⟩
theorem Qq{c:AT}{a b:AS}:∀D j H,gM K (CG c a b) D j H->PU (gK K c) (gM K a) (gM K b) D j H:=by
 rintro D j H ⟨w,l,S,s,ok,env,q,bk⟩;refine⟨w,l,S,_,ok,env,q,λk o m t h i n=>?_⟩;cases k with
 |true=>exact sU ⟨m,l,o,s,i,env.le h,by simpa using n,bk.le h⟩
 |false=>exact sV ⟨m,l,o,s,i,env.le h,by simpa using n,bk.le h⟩
theorem nc:∀x a H Q,vR K (bV i) x a H Q->AD i x a H Q:=by
 rintro x a H Q ⟨w,d,h,S,j,ok,env,rep,q,bk⟩;exact bk _ S _ w H .refl ok (env.set rep i) q
theorem Mw:∀x a H Q,qX K rH x a H Q->Rg x a H Q:=by
 rintro x a H Q ⟨w,i,h,S,j,ok,env,rep,⟨rfl,q⟩,bk⟩;exact⟨by simpa[aq] using rep,bk _ S _ w H .refl ok env q⟩
theorem Il{a:AG}{b:C6}:∀x j H Q,qX K (iD a b) x j H Q->Lm (vR K a) (qX K b) x j H Q:=by
 rintro x j H Q ⟨w,C,o,S,y,ok,env,rep,⟨d,r,rfl,q⟩,bk⟩;simp only[aq] at rep;obtain⟨v,vs,rfl,h1,h2⟩:=rep;refine⟨v,vs,rfl,w,d,o,S,_,ok,env,h1,q,λl u n s E h m i t=>?_⟩;exact⟨s,r,l,u,y,m,i,h2.le h,t,bk.le h⟩
theorem Mu{a:C6}:∀x h H Q,vR K (rG n a) x h H Q->Rf K n (qX K a) x h H Q:=by
 rintro x h H Q ⟨w,d,i,S,o,ok,env,rep,⟨m,rfl,l,q⟩,bk⟩;simp only[Rep] at rep;obtain⟨p,j,rfl,h1,h2⟩:=rep;exact⟨p,j,rfl,dI.same ok.base h1,by rw[h2.length];exact l,w,m,i,S,o,ok,env,h2,q,bk⟩
theorem zU{a:AE}{g:AG}:∀D j H,gM K (zj a g) D j H->HK (aS K a) (vR K g) D j H:=by
 rintro D j H ⟨w,m,S,x,ok,env,q,bk⟩;refine⟨w,m,S,_,ok,env,q,.go λo t u n v i l h s=>?_⟩;exact⟨n,o.d,m,t,_,l,env.le i,h,s,bk.nx.le i⟩
theorem Qt{i:AI}{g:AG}{b:AS}:∀D W H,gM K (d9 i g b) D W H->PV (yM K i) (vR K g) (gM K b) D W H:=by
 rintro D W H ⟨w,δ,S,Da,ok,env,q,bk⟩;refine⟨w,δ,S,_,ok,env,q,λs P S1 J w1 H1 O ok1 it q1=>?_⟩;refine⟨λi m W H=>m=s.length - i/\i<=s.length/\∃u n C,w1.le u/\Ok K u H C/\ee K u n W/\qL P g b (s.drop i) Da n C,⟨s.length,by simp,zcL _,w1,δ,S1,.refl,ok1,env.le O,by simpa using q1⟩,?_⟩;rintro i m σ2 H2 ⟨rfl,hi,u,n,C,a,l,j,G⟩;by_cases Q:i<s.length
 ·rw[zag Q] at G;obtain⟨hP,G⟩:=G;have hd:s[i]? =some s[i]:=zak Q;refine .inr ⟨it.go i H2 C u _ a l hP hd,λU H'=>∃X t S3,w1.le X/\Ok K X H' S3/\ee K X t U/\qL P g b (s.drop (i+1)) Da t S3,λU H' h=>⟨_,by lia,rfl,Q,h⟩,λx H' y=>?_⟩;obtain⟨w2',v,l,rx⟩:=it.De i H2 C u _ x H' a l hP hd y
  replace j:=j.le v
  replace a:=a.trans v
  refine⟨w2',s[i],n,C,_,l,j,rx,G,λt S3 σ3 X H3 L ok3 Z q3=>?_⟩;have Y:=O.trans (a.trans L);refine⟨X,t,S3,_,ok3,Z,q3,⟨?_,bk.rt.le Y,bk.nx.le Y,?_⟩⟩
  ·exact λE S4 σ4 w4 H4 I F o q4=>⟨w4,E,S4,a.trans (L.trans I),F,o,q4⟩
  ·exact λE S4 σ4 w4 H4 I F o q4=>⟨w4,E,S4,a.trans (L.trans I),F,o,q4⟩
 ·have e:i=s.length:=by lia
  subst e;rw[List.drop_length] at G;exact .inl ⟨it.stop _ H2 C u a l G.1 rfl,bk.nx n C σ2 u H2 (O.trans a) l j G.2⟩
theorem Ig{c:AT}{b:AS}:∀D u H,gM K (Gj c b) D u H->Ds (gK K c) (gM K b) D u H:=by
 rintro D u H ⟨w,δ,S,Da,ok,env,⟨W,⟨m0,w0⟩,turn⟩,bk⟩;refine⟨λm u H=>∃x a G,w.le x/\Ok K x H G/\ee K x a u/\W m a G,⟨m0,w,δ,S,.refl,ok,env,w0⟩,?_⟩;rintro m L H1 ⟨x,a,G,C,Q,j,h1⟩;refine⟨x,a,G,_,Q,j,turn m a G h1,λk Z Y H2 n y q2=>?_⟩;cases k with
 |false=>exact sV (bk.nx a Z L Y H2 (C.trans n) y (j.le n) (by simpa using q2))
 |true=>
  rw[yIp rfl] at q2;obtain⟨N,hN,q2⟩:=q2;have l:=C.trans n;refine sU ⟨λt H'=>∃v h F,w.le v/\Ok K v H' F/\ee K v h t/\N h F,?_,Y,a,Z,_,y,j.le n,q2,⟨?_,bk.rt.le l,bk.nx.le l,?_⟩⟩
  ·rintro t H' ⟨v,h,F,U,P,E,n3⟩;obtain⟨m',hm,h3⟩:=hN h F n3;exact⟨m',hm,v,h,F,U,P,E,h3⟩
  ·exact λo X I O H4 s q i q4=>⟨O,o,X,l.trans s,q,i,q4⟩
  ·exact λo X I O H4 s q i q4=>⟨O,o,X,l.trans s,q,i,q4⟩
theorem Qg:∀a H Q,gK K wm a H Q->PB a H Q:=by
 rintro a H Q ⟨w,h,S,i,ok,env,q,bk⟩;exact bk true S w H .refl ok q
theorem FO{w:Wd}{δ:bC}{a:St}(h:ee K w δ a)(caps:List (Option Nat)):ee K w (ri caps δ) (qa caps a):=by
 refine⟨by simp[ri,qa],λi d e=>?_⟩;simp only[ri,zba] at e;cases q:caps[i]? with
 |none=>rw[q] at e;cases e
 |some o=>
  rw[q] at e;cases o with
  |none=>simp at e
  |some j=>
   cases z:δ[j]? with
   |none=>rw[Option.map_some] at e;simp[z] at e
   |some d'=>
    simp[z] at e;subst e;obtain⟨v,h1,h2⟩:=h.2 j d z;exact⟨v,by simp[qa,zba,q,h1],h2⟩
theorem xF{i:AI}{g:AG}{t:AT}{e:AE}:∀σ H Q,aS K (cW caps i g t e) σ H Q->Dy caps (yM K i) (vR K g) (gK K t) (aS K e) σ H Q:=by
 rintro σ H Q ⟨w,δ,S,Qa,ok,env,q,bk⟩;refine⟨w,δ,S,_,ok,env,q,λF P S1 J w1 H1 le1 ok1 it q1=>?_⟩;refine⟨λi m xs τ H=>m=F.length - i/\i<=F.length/\∃I G v j,w1.le I/\Ok K I H v/\ee K I G τ/\aq K I j xs/\iy P g t e (F.drop i) j G v (λX v=>Qa (.new (.lst X)) v),⟨F.length,by simp,zcL _,w1,ri caps δ,S1,[],.refl,ok1,FO (env.le le1) caps,.nil,by simpa using q1⟩,?_⟩;rintro i m xs τ2 H2 ⟨rfl,hi,I,G,v,j,l,o,E,a,O⟩;by_cases W:i<F.length
 ·rw[zag W] at O;obtain⟨hP,O⟩:=O;have hd:F[i]? =some F[i]:=zak W;refine .inr ⟨it.go i H2 v I _ l o hP hd,λys τ' H'=>∃Y n S3 j,w1.le Y/\Ok K Y H' S3/\ee K Y n τ'/\aq K Y j ys/\iy P g t e (F.drop (i+1)) j n S3 (λX v=>Qa (.new (.lst X)) v),λys σ' H' h=>⟨_,by lia,rfl,W,h⟩,λx H' y=>?_⟩;obtain⟨w2',C,o,rx⟩:=it.De i H2 v I _ x H' l o hP hd y
  replace E:=E.le C
  replace l:=l.trans C
  replace a:=a.le C
  refine⟨w2',F[i],G,v,_,o,E,rx,O,λn S3 σ3 Y H3 L ok3 u q3=>?_⟩;refine⟨Y,n,S3,_,ok3,u,q3,λk S4 w4 H4 s ok4 q4=>?_⟩;cases k with
  |false=>
   exact sV ⟨w4,n,S4,j,l.trans (L.trans s),ok4,u.le s,a.le (L.trans s),by simpa using q4⟩
  |true=>
   rw[yIp rfl] at q4;refine sU ⟨w4,n,S4,_,ok4,u.le s,q4,.go λr5 S5 v5 w5 H5 U ok5 Z z1'=>?_⟩;obtain⟨hz,q5⟩:=z1';exact⟨by rw[a.length];exact hz,w5,n,S5,j++[r5.d],l.trans (L.trans (s.trans U)),ok5,u.le (s.trans U),(a.le (L.trans (s.trans U))).snoc Z,q5⟩
 ·have e:i=F.length:=by lia
  subst e;rw[List.drop_length] at O;refine .inl ⟨it.stop _ H2 v I l o O.1 rfl,λp hp=>?_⟩;exact bk (.new (.lst j)) v _ I _ (le1.trans l) (o.alloc hp) (o.fresh hp ⟨xs,rfl,a⟩) O.2
theorem Jp{w:Wd}{p:Addr}{ds:List D}(h1:w.B p=some (.lst xs))(h:aq K w ds xs):RZ K w (RY K p) ds (λ_=>True) where
 go:=λi H S a d le ok l e=>by
  obtain⟨v,j,_⟩:=h.get e;exact⟨xs,v,cF.of ((le.b.trans ok.base) _ _ h1),j⟩
 De:=λi H S a d x q le ok l e y=>by
  obtain⟨v,j,o⟩:=h.get e;obtain⟨n,m⟩:=y;have:=m xs (cF.of ((le.b.trans ok.base) _ _ h1));rw[j] at this;cases this;subst n;exact⟨a,.refl,ok,o.le le⟩
 stop:=λi H S a le ok l e=>⟨xs,cF.of ((le.b.trans ok.base) _ _ h1),by rw[h.length];lia⟩
theorem Jq{w:Wd}{p:Addr}{ds:List D}(o:w.r n=some p):RZ K w (RY K p) ds (λS=>S[n]? =some (some (.lst ds))) where
 go:=λi H S m d le ok l e=>by
  obtain⟨b,u,k1,s,j,a,rfl,h⟩:=ok.live n _ l;rw[le.r n p o] at k1;cases k1;obtain⟨v,q,_⟩:=h.get e;exact⟨a,v,cF.of j,q⟩
 De:=λi H S m d x F le ok l e y=>by
  obtain⟨b,u,k1,s,j,a,rfl,h⟩:=ok.live n _ l;rw[le.r n p o] at k1;cases k1;obtain⟨v,q,E⟩:=h.get e;obtain⟨C,t⟩:=y;have:=t a (cF.of j);rw[q] at this;cases this;subst C;exact⟨m,.refl,ok,E⟩
 stop:=λi H S m le ok l e=>by
  obtain⟨b,u,k1,s,j,a,rfl,h⟩:=ok.live n _ l;rw[le.r n p o] at k1;cases k1;exact⟨a,cF.of j,by rw[h.length];lia⟩
theorem Jm{w:Wd}{p:Addr}{ds:List D}(h1:dI K w.B p xs)(h2:aq K w ds xs):RZ K w (Sn K p) ds (λ_=>True) where
 go:=λi H S a d le ok j e=>by
  obtain⟨v,h,_⟩:=h2.get e;exact⟨xs,v,dI.same (le.b.trans ok.base) h1,h⟩
 De:=λi H S a d x o le ok j e y=>by
  obtain⟨v,h,n⟩:=h2.get e;obtain⟨m,l⟩:=y;have:=l xs (dI.same (le.b.trans ok.base) h1);rw[h] at this;cases this;subst m;exact⟨a,.refl,ok,n.le le⟩
 stop:=λi H S a le ok j e=>⟨xs,dI.same (le.b.trans ok.base) h1,by rw[h2.length];lia⟩
theorem Jo{w:Wd}:RZ K w (So x) (signs x) (λ_=>True) where
 go:=λi H S j d le ok l e=>by
  have:i<(signs x).length:=by
   rcases zcC i (signs x).length with h|h
   ·exact h
   ·rw[zat h] at e;cases e
  show i<x.cps.size;simpa[signs] using this
 De:=λi H S j d y o le ok l e z=>by
  obtain⟨n,c,m,rfl⟩:=z;subst n;refine⟨j,.refl,ok,?_⟩;rw[signs,zba] at e;have a:x.cps.toList[i]? =some c:=by simpa using m
  rw[a] at e;have:D.str ⟨#[c]⟩=d:=by simpa using e
  subst this;exact .str
 stop:=λi H S j le ok l e=>by
  show _=_;rw[e];simp[signs]
def bZ(h:aN)(Q:List D->(aN->Prop)->aN->Prop):D->Prop
 |.lst a=>Q a (λ_=>True) h
 |.tup a=>Q a (λ_=>True) h
 |.str x=>Q (signs x) (λ_=>True) h
 |.loc n=>∃a,h[n]? =some (some (.lst a))/\Q a (λS=>S[n]? =some (some (.lst a))) h
 |_=>False
def dw(t:AE):AI:=λa S Q=>t a S λr h=>bZ h Q r.d
theorem Mt{t:AE}:∀E H R,yM K (dw t) E H R->(aS K t) E H λx j=>(∃a,x=.ref a/\(∃l,cF K j a l)/\R (RY K a) j)∨(∃a,x=.ref a/\(∃l,dI K j a l)/\R (Sn K a) j)∨∃y,x=.str y/\R (So y) j:=by
 rintro E H R ⟨w,I,S,X,ok,env,q,bk⟩;refine⟨w,I,S,_,ok,env,q,.go λL C P v j m i h o=>?_⟩;generalize L.d=d at h o;cases d with
 |lst s=>
  simp only[Rep] at h;obtain⟨p,l,rfl,h1,h2⟩:=h;exact .inl ⟨p,rfl,⟨l,cF.of (i.base _ _ h1)⟩,bk s _ C _ v j m i (Jp h1 h2) o⟩
 |tup s=>
  simp only[Rep] at h;obtain⟨p,l,rfl,h1,h2⟩:=h;exact .inr (.inl ⟨p,rfl,⟨l,dI.same i.base h1⟩,bk s _ C _ v j m i (Jm h1 h2) o⟩)
 |str x=>exact .inr (.inr ⟨x,jT h rfl,bk _ _ C _ v j m i Jo o⟩)
 |loc n=>
  simp only[Rep] at h;obtain⟨p,F,rfl⟩:=h;obtain⟨s,e,o⟩:=o;obtain⟨Q,u,G,W,O,l,rfl,U⟩:=i.live n _ e;rw[F] at G;cases G;exact .inl ⟨p,rfl,⟨l,cF.of O⟩,bk s _ C _ v j m i (Jq F) o⟩
 |_=>exact o.elim
theorem Ez{lo:Int}{d:D}(e:(cy lo n)[i]? =some d):i<n/\d=.int (lo+(i:Int)):=by
 unfold cy at e;rw[zba] at e;by_cases h:i<n
 ·rw[List.getElem?_range h] at e;exact⟨h,by simpa using e.symm⟩
 ·rw[zat (by simpa using h)] at e;cases e
theorem Ms{a:AA}:∀l H R,yM K (mQ a) l H R->Lj (ko K a) l H R:=by
 rintro l H R ⟨w,u,S,P,ok,env,q,bk⟩;refine⟨w,u,S,_,ok,env,q,λO G vs E I s o h m=>?_⟩;obtain⟨j,hd,⟨h1,h2⟩,F⟩:=m;refine⟨j,?_,h1,h2,?_⟩
 ·subst hd;simp only[aq,Rep] at h;obtain⟨x,r,rfl,rfl,rfl⟩:=h;rfl
 ·refine bk _ _ G _ E I s o ⟨λi H S n d le ok t e=>?_,λi H S n d x Q le ok t e y=>?_,λi H S n le ok t e=>?_⟩ F
  ·exact(Ez e).1
  ·obtain⟨C,v⟩:=y;obtain⟨L,rfl⟩:=Ez e;subst v C;exact⟨n,.refl,ok,.int⟩
  ·show _<=_;rw[e];simp[cy]
end M
variable {ds:List M.D}{ta tb:M.AE}{wi:M.AI}{sp:M.AN}{S:M.aN}{δ:M.bC}
namespace M
open PySem PySem.Spec PyProof.Rows L2
section
variable {a b:Expr}{es:List Expr}
theorem pv(i:Nat)(l:X.N[i]? =some x:=by rfl)(j:Sk X.env.scope x:=by first|exact Or.inl rfl|exact Or.inr (Or.inl rfl)|exact Or.inr (Or.inr rfl))(hd:(x==("__debug__":Str))=false:=by decide)(h:(x==("__classdict__":Str))=false:=by decide):GE X (.Name x pos) (iE i):=⟨mE (L2.M4 l j hd h) Qh⟩
theorem aj{i j}:GE X (.Constant (.int i) j pos) (aC (.int i)):=⟨mE L2.aj (Qv λ_=>.int)⟩
theorem b8{i j}:GE X (.Constant (.bool i) j pos) (aC (.bl i)):=⟨mE L2.b8 (Qv λ_=>.bl)⟩
theorem aJ{i j}:GE X (.Constant (.str i) j pos) (aC (.str i)):=⟨mE L2.aJ (Qv λ_=>.str)⟩
theorem gX(T:String)(l:Gl X x)(j:X.mg x=none)(h:bootBuiltins x=some (.type T))(i:x≠"__name__":=by decide+kernel)(hd:(x==("__debug__":Str))=false:=by decide+kernel):GE X (.Name x pos) (aC (.ty T)):=
 ⟨mE (L2.gX T l j h i hd) (Qv λ_=>.ty)⟩
theorem jZ{d:D}(j:Gl X x)(i:X.mg x=some u)(r:RelV v u)(h:∀w,Rep X.K w d v)(hd:(x==("__debug__":Str))=false:=by decide):GE X (.Name x pos) (aC d):=
 ⟨mE (L2.jZ j i r hd) (Qv h)⟩
theorem az{op:Operator}{r:A2}(h:mH X (binaryOp op) r)(j:GE X a ta)(i:GE X b tb):GE X (.BinOp a op b pos) (Kf r ta tb):=⟨mE (L2.az h.p j.p i.p) Ii⟩
theorem qE{op:UnaryOp}{r:A1}(h:Ur X (unaryOp op) r)(i:GE X a ta):GE X (.UnaryOp op a pos) (TH r ta):=⟨mE (L2.qE h.p i.p) Sz⟩
theorem bw{op:CmpOp}{r:A2}(h:mH X (yan op) r)(l:GE X a ta)(j:GE X b tb)(i:behindInMarks op b=false):GE X (.Compare a [op] [b] pos) (Kf r ta tb):=⟨mE (L2.bw h.p l.p j.p i) Ii⟩
theorem Ac{r:A2}(i:Uq X r)(l:GE X a ta)(j:GE X b tb)(h:nG b):GE X (.Subscript a b pos) (Kf r ta tb):=⟨mE (L2.Ac i.p l.p j.p h) Ii⟩
theorem ao:GA X [] jE:=⟨mA L2.ao Qo⟩
theorem aF{t:AA}(j:GE X e ta)(i:GA X es t)(h:notStar e=true:=by rfl):GA X (e::es) (jo ta t):=⟨mA (L2.aF j.p i.p h) MA⟩
theorem aM{k:Nat}{t:AA}(h:GA X es t):GE X (.Tuple es k pos) (Kd t):=⟨mE (L2.aM h.p) Qi⟩
theorem aR{t:AA}(h:GA X es t):GE X (.List es pos) (wu t):=⟨mE (L2.aR h.p) Qp⟩
theorem qc{t:AE}(h:GE X e t):GE X e (bW t):=⟨mE h.p s_alloc⟩
theorem jz{op}{t:AE}(h:GE X a t):GE X (.BoolOp op [a] pos) t:=⟨L2.jz h.p⟩
theorem gn{rest:List Expr}(i:GE X a ta)(h:GE X (.BoolOp .And (b::rest) pos) tb):GE X (.BoolOp .And (a::b::rest) pos) (Gv ta tb):=⟨mE (L2.gn i.p h.p) MB⟩
theorem EW{rest:List Expr}(i:GE X a ta)(h:GE X (.BoolOp .Or (b::rest) pos) tb):GE X (.BoolOp .Or (a::b::rest) pos) (OW ta tb):=⟨mE (L2.EW i.p h.p) Qm⟩
theorem ye(h:GE X a ta):GE X (.UnaryOp .Not a pos) (Gn ta):=⟨mE (L2.ye h.p) Mp⟩
theorem gZ{t:AT}(h:GT X c t)(j:GE X a ta)(i:GE X b tb):GE X (.IfExp c a b pos) (TQ t ta tb):=⟨mE (L2.gZ h.p j.p i.p) SE⟩
theorem oq{op h:CmpOp}{r l:A2}{j:AE}(m:mH X (yan op) r)(i:mH X (yan h) l)(s:GE X a ta)(q:GE X b tb)(o:GE X c j)(n:lastMarks [op,h] [b,c]=false:=by with_unfolding_all rfl):
  GE X (.Compare a [op,h] [b,c] pos) (tX r l ta tb j):=⟨mE (L2.oq m.p i.p s.p q.p o.p n) zT⟩
theorem iZ:GO X none tT:=⟨mO L2.iZ D7⟩
theorem fk{t:AE}(h:GE X e t):GO X (some e) (Gm t):=⟨mO (L2.fk h.p) Mm⟩
structure Uo(X:Cx)(r:D->Option Int->Option Int->aN->AK->Prop):Prop where
 p:O8 X (Lp X.K r)
theorem eV{lo hi:Option Expr}{r:D->Option Int->Option Int->aN->AK->Prop}{i:AE}{tl h:AO}(l:Uo X r)(n:GE X e i)(m:GO X lo tl)(j:GO X hi h):GE X (.Subscript e (.Slice lo hi none p2) pos) (TJ r i tl h):=
 ⟨mE (L2.eV l.p n.p m.p j.p) SA⟩
theorem S8{id:String}{r:AN}{t:AA}(o:rK X (.builtin id) r)(n:Gl X x)(m:X.mg x=none)(i:bootBuiltins x=some (.builtin id))(q:GA X (e::es) t)(l:x≠"__name__":=by decide+kernel)(h:(x==("__debug__":Str))=false:=by decide+kernel)(j:(e::es).all notStar=true:=by rfl):GE X (.Call (.Name x p) (e::es) [] pos) (aCall r t):=⟨mE (L2.S8 o.p n m i q.p l h j) Qu⟩
theorem S7{T:String}{r:AN}{t:AA}(o:rK X (.type T) r)(n:Gl X x)(m:X.mg x=none)(i:bootBuiltins x=some (.type T))(q:GA X (e::es) t)(l:x≠"__name__":=by decide+kernel)(h:(x==("__debug__":Str))=false:=by decide+kernel)(j:(e::es).all notStar=true:=by rfl):GE X (.Call (.Name x p) (e::es) [] pos) (aCall r t):=⟨mE (L2.S7 o.p n m i q.p l h j) Qu⟩
theorem lI{k:Nat}{t:AA}(D:Def X.prog X.w X.K X.mg X.base k x ps (au X.K sp))(j:aV k X.A)(l:Gl X x)(m:GA X (e::es) t)(h:(x==("__debug__":Str))=false:=by decide+kernel)(i:(e::es).all notStar=true:=by rfl):
  GE X (.Call (.Name x p) (e::es) [] pos) (aCall sp t):=⟨mE (L2.lI D j l Ad m.p h i) s_call⟩
theorem cj{t:AE}(h:GE X e t)(j:∀i,isTrue e X.env i=(do let v <-i;standAt e.pos;holding [v] (truthy v)):=by intro _;rfl):GT X e (OR t):=⟨mT (L2.EU h.p j) Qj⟩
theorem aD{op:CmpOp}{r:A2}(l:mH X (yan op) r)(o:GE X a ta)(n:GE X b tb)(m:behindInMarks op b=false):GT X (.Compare a [op] [b] pos) (aB (Kf r ta tb)):=
 ⟨mT (L2.aD l.p o.p n.p m) λi H Q h=>by
  obtain⟨w,j,S,s,ok,env,q,bk⟩:=Ub i H Q h;exact Ii i H _ ⟨w,j,S,s,ok,env,q,bk⟩⟩
theorem n5{op i:CmpOp}{r n:A2}{m:AE}(s:mH X (yan op) r)(j:mH X (yan i) n)(x:GE X a ta)(v:GE X b tb)(u:GE X c m)(t:lastMarks [op,i] [b,c]=false:=by with_unfolding_all rfl):
  GT X (.Compare a [op,i] [b,c] pos) (aB (tX r n ta tb m)):=⟨mT (L2.n5 s.p j.p x.p v.p u.p t) λl H Q h=>by
  obtain⟨w,o,S,y,ok,env,q,bk⟩:=Ub l H Q h;exact zT l H _ ⟨w,o,S,y,ok,env,q,bk⟩⟩
theorem pw_pt{t:AT}(h:GW X e t):GT X e t:=⟨h.p.pt⟩
theorem pw_and1{t:AT}(h:GT X a t):GW X (.BoolOp .And [a] pos) t:=⟨L2.pw_and1 h.p⟩
theorem pw_or1{t:AT}(h:GT X a t):GW X (.BoolOp .Or [a] pos) t:=⟨L2.pw_or1 h.p⟩
theorem pw_and{rest:List Expr}{t u:AT}(i:GT X a t)(h:GW X (.BoolOp .And (b::rest) pos) u):GW X (.BoolOp .And (a::b::rest) pos) (O6 t u):=⟨mW (L2.pw_and i.p h.p) Qx⟩
theorem pw_or{rest:List Expr}{t u:AT}(i:GT X a t)(h:GW X (.BoolOp .Or (b::rest) pos) u):GW X (.BoolOp .Or (a::b::rest) pos) (TL t u):=⟨mW (L2.pw_or i.p h.p) SD⟩
theorem cT{t:AT}(h:GT X a t):GT X (.UnaryOp .Not a pos) (OX t):=⟨mT (L2.cT h.p) Qn⟩
theorem cO:Pw X [] wm:=⟨mTs L2.cO Qg⟩
theorem fj{t:AT}(h:GT X c t):Pw X [c] t:=⟨L2.fj h.p⟩
theorem bP{t:AA}(j:Gl X "range")(i:X.mg "range"=none)(l:GA X [a] t)(h:yao [a] X.env=[(false,eval a X.env)]:=by rfl):GI X tg (.Call (.Name "range" p) [a] [] pos) (mQ t):=⟨mI (L2.bP j i l.p h) Ms⟩
theorem IE{l:Expr}{tl:TE}(S:PE X l tl):PI X tg l (λF H R=>tl F H λx m=>(∃a,x=.ref a/\(∃n,cF X.K m a n)/\R (RY X.K a) m)∨(∃a,x=.ref a/\(∃n,dI X.K m a n)/\R (Sn X.K a) m)∨∃y,x=.str y/\R (So y) m):=by
 intro u s F H R I h;refine bT (S u s F H _ I h) λv i G=>?_;obtain⟨x,m,j,L,Q⟩:=G;rcases Q with⟨a,rfl,⟨n,O⟩,q⟩|⟨a,rfl,⟨n,O⟩,q⟩|⟨y,rfl,q⟩
 ·cases L;obtain⟨C,P,p,hz⟩:=j.list O;refine wpAny_pyIter_list p.isList ?_;refine⟨i.heap.objs.size,[i.heap.objs.size],_,_,m,rfl,j.kept (t':=i.toks) λb o e=>zaq _ e,BD a _,⟨_,zaK _ rfl,rfl,rfl⟩,λb E=>?_,q⟩;have e:b=i.heap.objs.size:=by simpa using E
  subst e;exact j.p8 (zcK _) (j.hok.fresh (zcK _))
 ·cases L;obtain⟨C,P,p,hz⟩:=j.tuple O;refine wpAny_pyIter_tuple (show i.heap.IsTuple a C.toArray from p) ?_;refine⟨i.heap.objs.size,[i.heap.objs.size],_,_,m,rfl,j.kept (t':=i.toks) λb o e=>zaq _ e,xg a _,⟨_,zaK _ rfl,rfl,rfl⟩,λb E=>?_,q⟩;have e:b=i.heap.objs.size:=by simpa using E
  subst e;exact j.p8 (zcK _) (j.hok.fresh (zcK _))
 ·obtain⟨t,rfl⟩:=L;refine wpAny_pyIter_strU ?_;refine⟨i.heap.objs.size,[i.heap.objs.size],_,_,m,rfl,j.kept (t':=i.toks) λb o e=>zaq _ e,Dj _ y t,⟨_,zaK _ rfl,rfl,rfl⟩,λb E=>?_,q⟩;have e:b=i.heap.objs.size:=by simpa using E
  subst e;exact j.p8 (zcK _) (j.hok.fresh (zcK _))
theorem bx{l:Expr}{tl:AE}(h:GE X l tl):GI X tg l (dw tl):=⟨mI (IE h.p) Mt⟩
theorem nh{i:Expr}{g:AG}{l:AT}{m:AE}(S:dQ scope N)(h:jn X.N X.env scope N caps=true)(j:L2.freeOk X.env scope=true)(t:X.calm=true)(hi:GI X tg iter wi)(q:∀s₀ H₀ C fp,GG (jd X scope N s₀ H₀ C fp) tg g)(n:∀s₀ H₀ C fp,Pw (jd X scope N s₀ H₀ C fp) ifs l)(s:∀s₀ H₀ C fp,GE (jd X scope N s₀ H₀ C fp) i m)(o:∀x,foldedSetIterable iter X.env x=pure x:=by intro _;rfl):GE X (.ListComp i [⟨tg,iter,ifs,0⟩] scope pos) (cW caps wi g l m):=
 ⟨mE (L2.nh S h j t hi.p (λs₀ H₀ C fp=>(q s₀ H₀ C fp).p) (λs₀ H₀ C fp=>(n s₀ H₀ C fp).p) (λs₀ H₀ C fp=>(s s₀ H₀ C fp).p) o) xF⟩
theorem aL:C2 X [] rJ:=⟨Ug L2.aL Mq⟩
theorem af{t:AS}(h:GS X st t):C2 X [st] t:=⟨L2.af h.p⟩
theorem aa{rest:List Stmt}{t u:AS}(h:GS X st t)(g:C2 X rest u):C2 X (st::rest) (qe t u):=⟨Ug (L2.aa h.p g.p) Qk⟩
theorem bu{t:AE}(h:GE X e t)(i:yat e none pos.line X.env=pure false:=by rfl):GS X (.Expr e pos) (Ba t):=⟨mS (L2.bu h.p i) Mz⟩
theorem aG{t:AE}(h:GE X e t):GS X (.Return (some e) pos) (OV t):=⟨mS (L2.aG h.p) Ql⟩
theorem aX{p q:List Stmt}{h:AT}{t u:AS}(i:GT X c h)(l:C2 X p t)(j:C2 X q u):GS X (.If c p q pos) (CG h t u):=⟨mS (L2.aX i.p l.p j.p) Qq⟩
theorem b7(l:X.N.Nodup)(hi:X.N[i]? =some x)(h:Loc X.env.scope x)(j:X.fn x=true∨X.env.scope.names.lookup x=some .local:=by first|exact .inl rfl|exact .inr rfl|assumption):GG X (.Name x pos) (bV i):=⟨mG (L2.b7 l hi h j) nc⟩
theorem bQ:R1 X [] rH:=⟨Uh L2.bQ Mw⟩
theorem aA{t:AG}{u:C6}(h1:GG X e t)(h2:R1 X es u)(h:(assignEach (e::es) X.env).map (·.2)=assign e X.env::(assignEach es X.env).map (·.2):=by rfl):R1 X (e::es) (iD t u):=⟨Uh (L2.aA h1.p h2.p h) Il⟩
theorem cH{k:Nat}{t:C6}(l:X.calm=true)(h:R1 X es t)(j:(assignEach es X.env).length=n:=by rfl)(i:(assignEach es X.env).findIdx? (·.1)=none:=by rfl):GG X (.Tuple es k pos) (rG n t):=⟨mG (L2.cH l h.p j i) Mu⟩
theorem lF{t:AE}{g:AG}(j:GE X e t)(i:GG X tg g)(h:swapsWithSole [tg] e pos.line X.env=pure false:=by rfl)(hw:swappedStores [tg] e X.env=pure none:=by rfl)(h1:(assignEach [tg] X.env).map (·.2)=[assign tg X.env]:=by rfl):GS X (.Assign [tg] e pos) (zj t g):=⟨mS (L2.lF j.p i.p h hw h1) zU⟩
theorem yd{t:AE}(E:X.N.Nodup)(hi:X.N[i]? =some x)(s:Loc X.env.scope x)(C:GE X e t)(u:yat e (some (.Name x pos')) pos.line X.env=pure false:=by rfl)(y:X.fn x=true∨X.env.scope.names.lookup x=some .local:=by first|exact .inl rfl|exact .inr rfl|assumption):
  GS X (.Assign [.Name x pos'] e pos) (zj t (bV i)):=⟨mS (L2.yd E hi s C.p u y) λD l H h=>by
  obtain⟨w,m,S,G,ok,env,q,bk⟩:=zU D l H h;exact⟨w,m,S,G,ok,env,q,λr F v n I le j rep o=>nc _ _ _ _ (bk r F v n I le j rep o)⟩⟩
theorem eT{l:Expr}{j:Pos}{g:AG}{u:AT}{y:AE}(Y:X.N.Nodup)(s:X.N[i]? =some x)(L:X.env.scope.names.lookup x=some .local)(S:dQ scope N)(m:jn X.N X.env scope N caps=true)(t:L2.freeOk X.env scope=true)(W:X.calm=true)(hi:GI X tg iter wi)(Q:∀s₀ H₀ C fp,GG (jd X scope N s₀ H₀ C fp) tg g)(O:∀s₀ H₀ C fp,Pw (jd X scope N s₀ H₀ C fp) ifs u)(U:∀s₀ H₀ C fp,GE (jd X scope N s₀ H₀ C fp) l y)(o:yat (.ListComp l [⟨tg,iter,ifs,0⟩] scope pos) (some (.Name x pos')) j.line X.env=pure true:=by rfl)(P:∀x,foldedSetIterable iter X.env x=pure x:=by intro _;rfl):GS X (.Assign [.Name x pos'] (.ListComp l [⟨tg,iter,ifs,0⟩] scope pos) j) (zj (cW caps wi g u y) (bV i)):=
 ⟨mS (L2.eT Y s L S m t W hi.p (λs₀ H₀ C fp=>(Q s₀ H₀ C fp).p) (λs₀ H₀ C fp=>(O s₀ H₀ C fp).p) (λs₀ H₀ C fp=>(U s₀ H₀ C fp).p) o P) λD E H h=>by
  obtain⟨w,F,S,Qa,ok,env,q,bk⟩:=zU D E H h;exact xF _ _ _ ⟨w,F,S,Qa,ok,env,q,λr Z v G H' le n rep I=>nc _ _ _ _ (bk r Z v G H' le n rep I)⟩⟩
theorem uX{l:Expr}{j:Pos}{g:AG}{y:AT}{E:AE}(Y:X.N.Nodup)(s:X.N[i]? =some x)(L:X.env.scope.names.lookup x=some .local)(S:dQ scope N)(m:jn X.N X.env scope N caps=true)(t:L2.freeOk X.env scope=true)(W:X.calm=true)(hi:GI X tg iter wi)(Q:∀s₀ H₀ C fp,GG (jd X scope N s₀ H₀ C fp) tg g)(O:∀s₀ H₀ C fp,Pw (jd X scope N s₀ H₀ C fp) ifs y)(U:∀s₀ H₀ C fp,GE (jd X scope N s₀ H₀ C fp) l E)(o:yat (.ListComp l [⟨tg,iter,ifs,0⟩] scope pos) (some (.Name x pos')) j.line X.env=pure true:=by rfl)(P:∀x,foldedSetIterable iter X.env x=pure x:=by intro _;rfl):GS X (.Assign [.Name x pos'] (.ListComp l [⟨tg,iter,ifs,0⟩] scope pos) j) (zj (bW (cW caps wi g y E)) (bV i)):=
 ⟨mS (L2.eT Y s L S m t W hi.p (λs₀ H₀ C fp=>(Q s₀ H₀ C fp).p) (λs₀ H₀ C fp=>(O s₀ H₀ C fp).p) (λs₀ H₀ C fp=>(U s₀ H₀ C fp).p) o P) λD u H h=>by
  obtain⟨w,F,S,Qa,ok,env,q,bk⟩:=s_alloc u H _ (zU D u H h);exact xF _ _ _ ⟨w,F,S,Qa,ok,env,q,λr Z v G H' le n rep I=>nc _ _ _ _ (bk r Z v G H' le n rep I)⟩⟩
theorem bI{g:AG}{h:AS}(j:PassesOwn (model X.prog X.w) X.A X.env X.xe)(m:X.calm=true)(hi:GI X tg iter wi)(l:GG X tg g)(n:C2 X body h)(i:∀x,foldedSetIterable iter X.env x=pure x:=by intro _;rfl):GS X (.For tg iter body [] pos) (d9 wi g h):=⟨mS (L2.bI j m hi.p l.p n.p i) Qt⟩
theorem gV{h:AT}{i:AS}(j:PassesOwn (model X.prog X.w) X.A X.env X.xe)(l:GT X c h)(m:C2 X body i):GS X (.While c body [] pos) (Gj h i):=⟨mS (L2.gV j l.p m.p) Ig⟩
end
section
theorem Hr{f:yai->yai->Sem yai}{r m:R2}(h:fE X f r)(h':fE X f m):fE X f (λx y H Q=>r x y H Q∨m x y H Q):=by
 intro a s i H x y v u Q I l j q;rcases q with q|q
 ·exact h a s i H x y v u Q I l j q
 ·exact h' a s i H x y v u Q I l j q
theorem Ud{f:yai}{r l:List V->Hp->VK->Prop}(h:bX X f r)(h':bX X f l):bX X f (λx H Q=>r x H Q∨l x H Q):=by
 intro a s i H x v Q I j q;rcases q with q|q
 ·exact h a s i H x v Q I j q
 ·exact h' a s i H x v Q I j q
variable {w:Wd}{u:V}{d e:D}
theorem cz{i:Int}(h:Rep K w d v)(z:aT S d=.int i):v=.int i:=by
 cases d<;>simp only[aT] at z
 case loc n=>split at z<;>first|(rename_i o _;cases o<;>simp[MO.d] at z)|cases z
 all_goals first|cases z|skip
 simpa[Rep] using h
theorem bM{i:Str}(h:Rep K w d v)(z:aT S d=.str i):v=.str i:=by
 cases d<;>simp only[aT] at z
 case loc n=>split at z<;>first|(rename_i o _;cases o<;>simp[MO.d] at z)|cases z
 all_goals first|cases z|skip
 simpa[Rep] using h
theorem f7{i:Bool}(h:Rep K w d v)(z:aT S d=.bl i):v=.bl i:=by
 cases d<;>simp only[aT] at z
 case loc n=>split at z<;>first|(rename_i o _;cases o<;>simp[MO.d] at z)|cases z
 all_goals first|cases z|skip
 simpa[Rep] using h
theorem HV(h:Rep K w d v)(z:aT S d=.bD):v=.bD:=by
 cases d<;>simp only[aT] at z
 case loc n=>split at z<;>first|(rename_i o _;cases o<;>simp[MO.d] at z)|cases z
 all_goals first|cases z|skip
 simpa[Rep] using h
theorem jM{ns:List Int}(k:Ok K w H S)(h:Rep K w d v)(z:aT S d=.lz ns):∃a,v=.ref a/\cF K H a (ns.map V.int):=by
 cases d<;>simp only[aT] at z
 case loc n=>split at z<;>first|(rename_i o _;cases o<;>simp[MO.d] at z)|cases z
 all_goals first|cases z|skip
 simp only[Rep] at h;obtain⟨a,h1,h2⟩:=h;exact⟨a,h1,k.base.seq h2⟩
def aI(C:Int->Int->Prop)(g:Int->Int->D):A2:=λx y S Q=>∃i j,x=.int i/\y=.int j/\C i j/\Q (.dat (g i j)) S
theorem Pq{C:Int->Int->Prop}{g:Int->Int->D}{g':Int->Int->V}(h:∀w i j,Rep K w (g i j) (g' i j)):∀x y H Q,vS K (aI C g) x y H Q->rI C g' x y H Q:=by
 rintro x y H Q ⟨w,d,e,S,s,ok,l,a,⟨i,j,o,n,m,q⟩,bk⟩;exact⟨i,j,aZ l o,aZ a n,m,bk.dat .refl ok (h w i j) q⟩
theorem x8{g:Int->Int->V}:∀x y H Q,rI (λ_ _=>True) g x y H Q->IB g x y H Q:=by
 rintro x y H Q ⟨i,j,h1,h2,_,q⟩;exact⟨i,j,h1,h2,q⟩
theorem qI:mH X (binaryOp .Sub) (aI (λ_ _=>True) λi j=>.int (i - j)):=⟨m2 L2.Nc λx y H Q h=>x8 x y H Q (Pq (g':=λi j=>.int (i - j)) (λ_ _ _=>.int) x y H Q h)⟩
theorem lK:mH X (binaryOp .FloorDiv) (aI Ph λi j=>.int (i / j)):=⟨m2 L2.IM (Pq λ_ _ _=>.int)⟩
theorem cE:mH X (binaryOp .Mod) (aI (λ_ j=>0<j) λi j=>.int (i % j)):=⟨m2 L2.Ni (Pq λ_ _ _=>.int)⟩
theorem Aj:mH X (binaryOp .Pow) (aI R6 λi j=>.int (i ^ j.toNat)):=⟨m2 L2.Nf (Pq λ_ _ _=>.int)⟩
theorem Tc:mH X (yan .Gt) (aI (λ_ _=>True) λi j=>.bl (decide (j<i))):=⟨m2 L2.QL λx y H Q h=>x8 x y H Q (Pq (g':=λi j=>.bl (decide (j<i))) (λ_ _ _=>.bl) x y H Q h)⟩
theorem Nv:mH X (yan .GtE) (aI (λ_ _=>True) λi j=>.bl (decide (j<=i))):=⟨m2 L2.QM λx y H Q h=>x8 x y H Q (Pq (g':=λi j=>.bl (decide (j<=i))) (λ_ _ _=>.bl) x y H Q h)⟩
def Uj:A2:=λx y S Q=>match x,y with
 |.int i,.int j=>Q (.dat (.bl (decide (i<j)))) S
 |.str i,.str j=>Q (.dat (.bl (decide (i.cps.toList<j.cps.toList)))) S
 |_,_=>False
def Uk:A2:=λx y S Q=>match x,y with
 |.int i,.int j=>Q (.dat (.bl (decide (i<=j)))) S
 |.str i,.str j=>Q (.dat (.bl (!decide (j.cps.toList<i.cps.toList)))) S
 |_,_=>False
theorem yi:mH X (yan .Lt) Uj:=⟨m2 (Hr L2.QJ L2.BY) λx y H Q h=>by
 obtain⟨w,d,e,S,j,ok,i,a,q,bk⟩:=h;cases d<;>cases e<;>first|exact q.elim|skip
 ·exact .inl ⟨_,_,aZ i rfl,aZ a rfl,bk.dat .refl ok .bl q⟩
 ·exact .inr ⟨_,_,jT i rfl,jT a rfl,bk.dat .refl ok .bl q⟩⟩
theorem Nt:mH X (yan .LtE) Uk:=⟨m2 (Hr L2.QK L2.BZ) λx y H Q h=>by
 obtain⟨w,d,e,S,j,ok,i,a,q,bk⟩:=h;cases d<;>cases e<;>first|exact q.elim|skip
 ·exact .inl ⟨_,_,aZ i rfl,aZ a rfl,bk.dat .refl ok .bl q⟩
 ·exact .inr ⟨_,_,jT i rfl,jT a rfl,bk.dat .refl ok .bl q⟩⟩
def CH:A2:=λx y S Q=>match aT S x,aT S y with
 |.int i,.int j=>Q (.dat (.int (i+j))) S
 |.str i,.str j=>i.length+j.length<=yag/\Q (.dat (.str (i++j))) S
 |.lst xs,.lst ys=>xs.length+ys.length<=yag/\Q (.new (.lst (xs++ys))) S
 |.tup xs,.tup ys=>xs≠[]/\xs.length+ys.length<=yag/\Q (.dat (.tup (xs++ys))) S
 |_,_=>False
theorem bz:mH X (binaryOp .Add) CH:=⟨m2 (Hr L2.Np (Hr L2.yh (Hr L2.Nn L2.IQ))) λx y H Q h=>by
 obtain⟨w,d,e,S,W,ok,t,v,q,bk⟩:=h;unfold CH at q;cases i:aT S d<;>cases m:aT S e<;>rw[i,m] at q<;>first|exact q.elim|skip
 ·exact .inl ⟨_,_,cz t i,cz v m,bk.dat .refl ok .int q⟩
 ·exact .inr (.inl ⟨_,_,bM t i,bM v m,q.1,bk.dat .refl ok .str q.2⟩)
 ·obtain⟨a,F,rfl,h1,l⟩:=b5 ok t i;obtain⟨b,E,rfl,h2,j⟩:=b5 ok v m;obtain⟨L,P,q⟩:=q;refine .inr (.inr (.inr ⟨a,b,F,E,rfl,rfl,h1,h2,?_,by rw[l.length,j.length];exact P,λO=>?_,λO p C=>?_⟩))
  ·intro z;subst z;have:=l.length;simp at this;exact L (zaa this.symm)
  ·subst O;have:_=[]:=zaa j.length.symm;rw[this,zbL] at q;cases d<;>simp only[aT] at i
   case tup=>cases i;exact bk.dat .refl ok t q
   case loc n=>split at i<;>first|(rename_i o _;cases o<;>simp[MO.d] at i)|cases i
   all_goals cases i
  ·obtain⟨U,I,G,s⟩:=ok.sJ C (l.append j);exact bk.dat I G s q
 ·obtain⟨a,F,rfl,h1,l⟩:=br ok t i;obtain⟨b,E,rfl,h2,j⟩:=br ok v m;refine .inr (.inr (.inl ⟨a,b,F,E,rfl,rfl,h1,h2,by rw[l.length,j.length];exact q.1,λp C=>?_⟩));exact bk (.new (.lst _)) S _ w _ .refl (ok.alloc C) (ok.fresh C ⟨_,rfl,l.append j⟩) q.2⟩
end
end M
namespace M
open PySem PySem.Spec PyProof.Rows PySem.SeqAt L2
mutual
noncomputable def bY:D->Bool
 |.bD|.bl _|.int _|.str _=>true
 |.tup ds|.lst ds=>bH ds
 |_=>false
noncomputable def bH:List D->Bool
 |[]=>true
 |d::ds=>bY d&&bH ds
end
mutual
noncomputable def py:D->yam
 |.bD=>.none
 |.bl b=>.bool b
 |.int i=>.int i
 |.str x=>.str x
 |.tup ds=>.tuple (dZ ds)
 |.lst ds=>.list (dZ ds)
 |_=>.none
noncomputable def dZ:List D->List yam
 |[]=>[]
 |d::ds=>py d::dZ ds
end
section
variable {w:Wd}
mutual
theorem FU(e:gO w.B H):∀(d:D)(v:V),bY d=true->Rep K w d v->cN K H (py d) v
 |.bD,v,_,h=>by simpa[Rep,py,cN] using h
 |.bl _,v,_,h=>by simpa[Rep,py,cN] using h
 |.int _,v,_,h=>by simpa[Rep,py,cN] using h
 |.str _,v,_,h=>by simpa[Rep,py,cN] using h
 |.tup ds,v,hp,h=>by
  simp only[Rep,py,cN] at h⊢;obtain⟨a,i,h1,h2,j⟩:=h;exact⟨a,i,h1,dI.same e h2,nC e ds i (by simpa[bY] using hp) j⟩
 |.lst ds,v,hp,h=>by
  simp only[Rep,py,cN] at h⊢;obtain⟨a,i,h1,h2,j⟩:=h;exact⟨a,i,h1,cF.of (e _ _ h2),nC e ds i (by simpa[bY] using hp) j⟩
 |.dct _ _,_,hp,_=>by simp[bY] at hp
 |.loc _,_,hp,_=>by simp[bY] at hp
 |.ty _,_,hp,_=>by simp[bY] at hp
 |.lz _,_,hp,_=>by simp[bY] at hp
 |.fd,_,hp,_=>by simp[bY] at hp
 |.fn _,_,hp,_=>by simp[bY] at hp
theorem nC(e:gO w.B H):∀(ds:List D)(vs:List V),bH ds=true->aq K w ds vs->kX K H (dZ ds) vs
 |[],vs,_,h=>by simpa[aq,dZ,kX] using h
 |d::ds,vs,hp,h=>by
  simp only[bH,zbG] at hp;simp only[aq,dZ,kX] at h⊢;obtain⟨x,r,h1,h2,a⟩:=h;exact⟨x,r,h1,FU e d x hp.1 h2,nC e ds r hp.2 a⟩
end
theorem zN(k:Ok K w H S){d:D}(h:Rep K w d v)(i:bY (aT S d)=true):cN K H (py (aT S d)) v:=by
 cases d with
 |loc n=>
  cases z:aT S (.loc n) with
  |lst ds=>
   rw[z] at i;obtain⟨a,j,rfl,h1,h2⟩:=br k h z;simp only[py,cN];exact⟨a,j,rfl,cF.of h1,nC k.base ds j (by simpa[bY] using i) h2⟩
  |_=>
   rw[z] at i;simp only[aT] at z;split at z<;>first|(rename_i o _;cases o<;>simp[MO.d] at z)|(cases z;simp[bY] at i)|cases z
   all_goals simp[bY] at i
 |_=>exact FU k.base _ v (by simpa[aT] using i) h
end
noncomputable def fit(d:D):Bool:=bY d&&shaped (py d)
def O3:A2:=λx y S Q=>match aT S x,aT S y with
 |.str a,.str b=>Q (.dat (.bl (decide (a=b)))) S
 |.int a,.int b=>Q (.dat (.bl (decide (a=b)))) S
 |.bl a,.bl b=>Q (.dat (.bl (decide (a=b)))) S
 |x',y'=>fit x'=true/\fit y'=true/\Q (.dat (.bl (PyData.eqv (py x') (py y')))) S
def Lu:A2:=λx y S Q=>match aT S x,aT S y with
 |.str a,.str b=>Q (.dat (.bl (!decide (a=b)))) S
 |.int a,.int b=>Q (.dat (.bl (!decide (a=b)))) S
 |.bl a,.bl b=>Q (.dat (.bl (!decide (a=b)))) S
 |x',y'=>fit x'=true/\fit y'=true/\Q (.dat (.bl (!PyData.eqv (py x') (py y')))) S
def SX(K:yaI):R2:=λx y H Q=>∃a b,cN K H a x/\cN K H b y/\shaped a=true/\shaped b=true/\Q (.bl (PyData.eqv a b)) H
def SR(K:yaI):R2:=λx y H Q=>∃a b,cN K H a x/\cN K H b y/\shaped a=true/\shaped b=true/\Q (.bl (!PyData.eqv a b)) H
theorem Nm{k:Nat}(o:aV k X.A):fE X (yan .Eq) (SX X.K):=by
 intro i s E H x y v u Q I l j h;obtain⟨a,b,h1,h2,C,t,q⟩:=h;obtain⟨F,n⟩:=I.reads a x v h1 l;obtain⟨bs,m⟩:=I.reads b y u h2 j;exact eq_dataH n m C t o.units ⟨.bl _,H,I,rfl,q⟩
theorem Ng{k:Nat}(o:aV k X.A):fE X (yan .NotEq) (SR X.K):=by
 intro i s E H x y v u Q I l j h;obtain⟨a,b,h1,h2,C,t,q⟩:=h;obtain⟨F,n⟩:=I.reads a x v h1 l;obtain⟨bs,m⟩:=I.reads b y u h2 j;exact ne_dataH n m C t o.units ⟨.bl _,H,I,rfl,q⟩
theorem fy{w:Wd}{d:D}(k:Ok K w H S)(h:Rep K w d v)(a:fit (aT S d)=true):cN K H (py (aT S d)) v/\shaped (py (aT S d))=true:=by
 unfold fit at a;rw[zbG] at a;exact⟨zN k h a.1,a.2⟩
theorem cI{k:Nat}(n:aV k X.A):mH X (yan .Eq) O3:=⟨m2 (Hr L2.QN (Nm n)) λx y H Q h=>by
 obtain⟨w,d,e,S,v,ok,j,i,q,bk⟩:=h;unfold O3 at q;split at q
 next a b z1 z2=>
  refine .inl ⟨by rw[bM j z1,bM i z2];rfl,?_⟩;rw[bM j z1,bM i z2];exact bk.dat .refl ok (by rw[show decide (V.str a=V.str b)=decide (a=b) by simp];exact .bl) q
 next a b z1 z2=>
  refine .inl ⟨by rw[cz j z1,cz i z2];rfl,?_⟩;rw[cz j z1,cz i z2];exact bk.dat .refl ok (by rw[show decide (V.int a=V.int b)=decide (a=b) by simp];exact .bl) q
 next a b z1 z2=>
  refine .inl ⟨by rw[f7 j z1,f7 i z2];rfl,?_⟩;rw[f7 j z1,f7 i z2];exact bk.dat .refl ok (by rw[show decide (V.bl a=V.bl b)=decide (a=b) by simp];exact .bl) q
 next=>
  obtain⟨u,t,q⟩:=q;obtain⟨s,m⟩:=fy ok j u;obtain⟨o,l⟩:=fy ok i t;exact .inr ⟨_,_,s,o,m,l,bk.dat .refl ok .bl q⟩⟩
theorem pZ{k:Nat}(n:aV k X.A):mH X (yan .NotEq) Lu:=⟨m2 (Hr L2.QI (Ng n)) λx y H Q h=>by
 obtain⟨w,d,e,S,v,ok,j,i,q,bk⟩:=h;unfold Lu at q;split at q
 next a b z1 z2=>
  refine .inl ⟨by rw[bM j z1,bM i z2];rfl,?_⟩;rw[bM j z1,bM i z2];exact bk.dat .refl ok (by rw[show decide (V.str a=V.str b)=decide (a=b) by simp];exact .bl) q
 next a b z1 z2=>
  refine .inl ⟨by rw[cz j z1,cz i z2];rfl,?_⟩;rw[cz j z1,cz i z2];exact bk.dat .refl ok (by rw[show decide (V.int a=V.int b)=decide (a=b) by simp];exact .bl) q
 next a b z1 z2=>
  refine .inl ⟨by rw[f7 j z1,f7 i z2];rfl,?_⟩;rw[f7 j z1,f7 i z2];exact bk.dat .refl ok (by rw[show decide (V.bl a=V.bl b)=decide (a=b) by simp];exact .bl) q
 next=>
  obtain⟨u,t,q⟩:=q;obtain⟨s,m⟩:=fy ok j u;obtain⟨o,l⟩:=fy ok i t;exact .inr ⟨_,_,s,o,m,l,bk.dat .refl ok .bl q⟩⟩
noncomputable def inD(d:D)(ds:List D):Bool:=ds.any λy=>PyData.eqv (py y) (py d)
def zh(a:Bool):A2:=λx y S Q=>match aT S y with
 |.tup ds=>fit (aT S x)=true/\fit (.tup ds)=true/\Q (.dat (.bl (a != inD (aT S x) ds))) S
 |.lst ds=>fit (aT S x)=true/\fit (.lst ds)=true/\Q (.dat (.bl (a != inD (aT S x) ds))) S
 |_=>False
def MU(K:yaI)(h:Bool):R2:=λx y H Q=>∃d a,cN K H d x/\(cN K H (.tuple a) y∨cN K H (.list a) y)/\shaped d=true/\PyData.canLayAll0 a=true/\Q (.bl (h != a.any λy=>PyData.eqv y d)) H
theorem Nl{k:Nat}(t:aV k X.A):fE X (yan .In) (MU X.K false):=by
 intro m s C H x y v u Q I o j h;obtain⟨d,F,h1,h2,a,n,q⟩:=h;obtain⟨G,l⟩:=I.reads d x v h1 o;have E:=t.un;rcases h2 with h2|h2
 ·obtain⟨bs,i⟩:=I.reads _ y u h2 j;exact PySem.SeqAt.in_tuple_reads i l n (canLay_of_shaped a) (room_in_shaped a (by lia)) ⟨.bl _,H,I,by simp[L2.RelV],q⟩
 ·obtain⟨bs,i⟩:=I.reads _ y u h2 j;exact PySem.SeqAt.in_list_reads i l n (canLay_of_shaped a) (room_in_shaped a (by lia)) ⟨.bl _,H,I,by simp[L2.RelV],q⟩
theorem BX{k:Nat}(t:aV k X.A):fE X (yan .NotIn) (MU X.K true):=by
 intro m s C H x y v u Q I o j h;obtain⟨d,F,h1,h2,a,n,q⟩:=h;obtain⟨G,l⟩:=I.reads d x v h1 o;have E:=t.un;rcases h2 with h2|h2
 ·obtain⟨bs,i⟩:=I.reads _ y u h2 j;exact PySem.SeqAt.notIn_tuple_reads i l n (canLay_of_shaped a) (room_in_shaped a (by lia)) ⟨.bl _,H,I,by simp[L2.RelV],q⟩
 ·obtain⟨bs,i⟩:=I.reads _ y u h2 j;exact PySem.SeqAt.notIn_list_reads i l n (canLay_of_shaped a) (room_in_shaped a (by lia)) ⟨.bl _,H,I,by simp[L2.RelV],q⟩
theorem ng(ds:List D):dZ ds=ds.map py:=by
 induction ds with
 |nil=>rfl
 |cons d ds ih=>simp[dZ,ih]
theorem A8(ds:List D)(p:yam->Bool):(dZ ds).any p=ds.any λy=>p (py y):=by
 rw[ng,zcu];rfl
theorem JA(h:fit (.tup ds)=true):PyData.canLayAll0 (dZ ds)=true:=by
 unfold fit at h;rw[zbG] at h;have:=canLay_of_shaped h.2;simpa[py,PyData.canLay0] using this
theorem FL(h:fit (.lst ds)=true):PyData.canLayAll0 (dZ ds)=true:=by
 unfold fit at h;rw[zbG] at h;have:=canLay_of_shaped h.2;simpa[py,PyData.canLay0] using this
theorem RI:∀x y H Q,vS K (zh neg) x y H Q->MU K neg x y H Q:=by
 rintro x y H Q ⟨w,d,e,S,s,ok,n,m,q,bk⟩;unfold zh at q;split at q
 next ds z=>
  obtain⟨l,h,q⟩:=q;obtain⟨j,i⟩:=fy ok n l;obtain⟨a,o⟩:=fy ok m (by rw[z];exact h);rw[z] at a;refine⟨_,dZ ds,j,.inl (by simpa only[py] using a),i,JA h,?_⟩;rw[A8];exact bk.dat .refl ok .bl q
 next ds z=>
  obtain⟨l,h,q⟩:=q;obtain⟨j,i⟩:=fy ok n l;obtain⟨a,o⟩:=fy ok m (by rw[z];exact h);rw[z] at a;refine⟨_,dZ ds,j,.inr (by simpa only[py] using a),i,FL h,?_⟩;rw[A8];exact bk.dat .refl ok .bl q
 next=>exact q.elim
theorem sE{k:Nat}(a:aV k X.A):mH X (yan .In) (zh false):=⟨m2 (Nl a) RI⟩
theorem nj{k:Nat}(a:aV k X.A):mH X (yan .NotIn) (zh true):=⟨m2 (BX a) RI⟩
section
variable {w:Wd}{d:D}
theorem uR{i:Int}{e:D}(h:aq K w ds xs)(q:fB ds i=some e):∃u,fB xs i=some u/\Rep K w e u:=by
 unfold fB at q⊢;rw[h.length];cases z:Hw ds.length i with
 |none=>rw[z] at q;cases q
 |some j=>
  rw[z] at q;exact h.get q
def zf:A2:=λx y S Q=>match aT S x,y with
 |.lst ds,.int i=>∃e,fB ds i=some e/\Q (.dat e) S
 |.tup ds,.int i=>∃e,fB ds i=some e/\Q (.dat e) S
 |.str z,.int i=>z.length<=yag/\∃c,fB z.cps.toList i=some c/\Q (.dat (.str ⟨#[c]⟩)) S
 |.lz ns,.int i=>∃n,fB ns i=some n/\Q (.dat (.int n)) S
 |_,_=>False
theorem J8{α m:Type}{f:α->m}{l:List α}{i:Int}{a:α}(h:fB l i=some a):fB (l.map f) i=some (f a):=by
 unfold fB at h⊢;rw[zbK];cases z:Hw l.length i with
 |none=>rw[z] at h;cases h
 |some j=>
  rw[z] at h;have h:l[j]? =some a:=h;show(l.map f)[j]? =some (f a);rw[zba,h];rfl
theorem QS:Uq X zf:=⟨λj l m s O H x y v u Q I U P h W=>by
 refine L2.NV j l m s O H x y v u Q I U P ?_ W;obtain⟨w,d,e,S,Qa,ok,t,o,q,bk⟩:=h;unfold zf at q;split at q
 next ds i z=>
  obtain⟨a,C,rfl,h1,h2⟩:=br ok t z;obtain⟨e',F,q⟩:=q;obtain⟨E,L,G⟩:=uR h2 F;exact .inl ⟨a,C,i,E,rfl,aZ o rfl,cF.of h1,L,bk.dat .refl ok G q⟩
 next ds i z=>
  obtain⟨a,C,rfl,h1,h2⟩:=b5 ok t z;obtain⟨e',F,q⟩:=q;obtain⟨E,L,G⟩:=uR h2 F;exact .inr (.inl ⟨a,C,i,E,rfl,aZ o rfl,h1,L,bk.dat .refl ok G q⟩)
 next y i z=>
  obtain⟨Z,c,hc,q⟩:=q;exact .inr (.inr ⟨y,i,c,bM t z,aZ o rfl,Z,hc,bk.dat .refl ok .str q⟩)
 next ns i z=>
  obtain⟨a,rfl,h1⟩:=jM ok t z;obtain⟨n,Y,q⟩:=q;exact .inl ⟨a,_,i,.int n,rfl,aZ o rfl,h1,J8 Y,bk.dat .refl ok .int q⟩
 next=>exact q.elim⟩
noncomputable def cutD{α:Type}(a:List α)(lo hi:Option Int):List α:=(a.drop (HT.l6 a.length 0 lo)).take (HT.l6 a.length a.length hi - HT.l6 a.length 0 lo)
theorem uQ(h:aq K w ds xs)(lo hi:Option Int):aq K w (cutD ds lo hi) (Ct xs lo hi):=by
 unfold cutD Ct;rw[h.length];exact(h.drop _).take _
def zc:D->Option Int->Option Int->aN->AK->Prop:=λx lo a S Q=>match aT S x with
 |.lst ds=>Q (.new (.lst (cutD ds lo a))) S
 |.lz ns=>Q (.new (.lst ((cutD ns lo a).map D.int))) S
 |_=>False
theorem JZ{α h:Type}(f:α->h)(a:List α)(lo hi:Option Int):cutD (a.map f) lo hi=(cutD a lo hi).map f:=by
 unfold cutD;rw[zbK,zcm,List.map_drop]
theorem eE{w:Wd}:∀(ns:List Int),aq K w (ns.map D.int) (ns.map V.int)
 |[]=>.nil
 |n::ns=>.cons .int (eE ns)
theorem u7:Uo X zc:=⟨by
 intro i s n H x v u t lo l y Q I C E pl pu h;refine L2.HQ i s n H x v u t lo l y Q I C E pl pu ?_;obtain⟨w,d,S,F,ok,m,q,bk⟩:=h;unfold zc at q;split at q
 next ds z=>
  obtain⟨a,o,rfl,h1,h2⟩:=br ok m z;exact⟨a,o,rfl,cF.of h1,λp j=>bk (.new (.lst _)) S _ w _ .refl (ok.alloc j) (ok.fresh j ⟨_,rfl,uQ h2 lo l⟩) q⟩
 next ns z=>
  obtain⟨a,rfl,h1⟩:=jM ok m z;refine⟨a,_,rfl,h1,λp j=>bk (.new (.lst _)) S _ w _ .refl (ok.alloc j) (ok.fresh j ⟨_,rfl,?_⟩) q⟩;have:=uQ (eE (K:=X.K) (w:=w) ns) lo l;rw[JZ] at this;exact this
 next=>exact q.elim⟩
def CF:A2:=λx y S Q=>match aT S x,y with
 |.int i,.int j=>C5 i j/\Q (.dat (.int (i*j))) S
 |.lst ds,.int k=>(-(2 ^ 63)<=k/\k<2 ^ 63)/\ds.length*k.toNat<=yag/\Q (.new (.lst (zcc k.toNat ds).flatten)) S
 |.str z,.int n=>MulOk z n/\Q (.dat (.str (Txt.mul z n))) S
 |_,_=>False
theorem uP{ds:List D}{a:List V}(h:aq K w ds a):∀k:Nat,aq K w (zcc k ds).flatten (zcc k a).flatten
 |0=>.nil
 |k+1=>by
  rw[zaE,zaE,zbb,zbb];exact h.append (uP h k)
theorem dU:mH X (binaryOp .Mult) CF:=⟨m2 (Hr L2.Nh (Hr L2.Nd L2.yg)) λx y H Q h=>by
 obtain⟨w,d,e,S,C,ok,m,l,q,bk⟩:=h;unfold CF at q;split at q
 next i j z=>exact .inl ⟨i,j,cz m z,aZ l rfl,q.1,bk.dat .refl ok .int q.2⟩
 next ds k z=>
  obtain⟨a,s,rfl,h1,h2⟩:=br ok m z;obtain⟨⟨v,u⟩,t,q⟩:=q;refine .inr (.inl ⟨a,k,s,rfl,aZ l rfl,h1,v,u,by rw[h2.length];exact t,λp o=>?_⟩);exact bk (.new (.lst _)) S _ w _ .refl (ok.alloc o) (ok.fresh o ⟨_,rfl,uP h2 k.toNat⟩) q
 next y n z=>exact .inr (.inr ⟨y,n,bM m z,aZ l rfl,q.1,bk.dat .refl ok .str q.2⟩)
 next=>exact q.elim⟩
end
mutual
noncomputable def jf(n:Nat):D->Bool
 |.loc m=>decide (m<n)
 |.tup ds|.lst ds|.dct _ ds=>je n ds
 |_=>true
noncomputable def je(n:Nat):List D->Bool
 |[]=>true
 |d::ds=>jf n d&&je n ds
end
noncomputable def lU(n:Nat):MO->Bool
 |.lst ds=>je n ds
 |.dct _ ds=>je n ds
 |.feed _=>true
 |.ins _ _ ds=>je n ds
 |.Hy _ ks=>je n ks
mutual
theorem A4(n:Nat):∀d:D,bY d=true->jf n d=true
 |.bD,_=>by simp[jf]
 |.bl _,_=>by simp[jf]
 |.int _,_=>by simp[jf]
 |.str _,_=>by simp[jf]
 |.tup ds,h=>by simp only[jf];exact cL n ds (by simpa[bY] using h)
 |.lst ds,h=>by simp only[jf];exact cL n ds (by simpa[bY] using h)
 |.dct _ _,h=>by simp[bY] at h
 |.loc _,h=>by simp[bY] at h
 |.ty _,h=>by simp[bY] at h
 |.lz _,h=>by simp[bY] at h
 |.fd,h=>by simp[bY] at h
 |.fn _,h=>by simp[bY] at h
theorem cL(n:Nat):∀ds:List D,bH ds=true->je n ds=true
 |[],_=>by simp[je]
 |d::ds,h=>by
  simp only[bH,zbG] at h;simp only[je,zbG];exact⟨A4 n d h.1,cL n ds h.2⟩
end
noncomputable def jR(n:Nat)(w:Wd):Wd:=⟨w.B,λk=>if k<n then w.r k else none⟩
section
variable {w w1:Wd}{H1:Hp}{S0 S1:aN}
mutual
theorem qw(n:Nat):∀(d:D)(v:V),jf n d=true->Rep K w d v->Rep K (jR n w) d v
 |.bD,_,_,h=>by simpa[Rep] using h
 |.bl _,_,_,h=>by simpa[Rep] using h
 |.int _,_,_,h=>by simpa[Rep] using h
 |.str _,_,_,h=>by simpa[Rep] using h
 |.ty _,_,_,h=>by simpa[Rep] using h
 |.fd,_,_,h=>by simpa[Rep] using h
 |.fn _,_,_,h=>by simpa[Rep] using h
 |.lz _,_,_,h=>by simpa[Rep,jR] using h
 |.loc m,v,hb,h=>by
  simp only[jf,decide_eq_true_eq] at hb;simp only[Rep] at h⊢;obtain⟨a,h1,h2⟩:=h;exact⟨a,by show(if m<n then w.r m else none)=_;rw[yIp hb];exact h1,h2⟩
 |.tup ds,v,hb,h=>by
  simp only[Rep] at h⊢;obtain⟨a,i,h1,h2,j⟩:=h;exact⟨a,i,h1,h2,cg n ds i (by simpa[jf] using hb) j⟩
 |.lst ds,v,hb,h=>by
  simp only[Rep] at h⊢;obtain⟨a,i,h1,h2,j⟩:=h;exact⟨a,i,h1,h2,cg n ds i (by simpa[jf] using hb) j⟩
 |.dct ks ds,v,hb,h=>by
  simp only[Rep] at h⊢;obtain⟨a,i,h1,h2,j,l⟩:=h;exact⟨a,i,h1,h2,j,cg n ds _ (by simpa[jf] using hb) l⟩
theorem cg(n:Nat):∀(ds:List D)(vs:List V),je n ds=true->aq K w ds vs->aq K (jR n w) ds vs
 |[],_,_,h=>by simpa[aq] using h
 |d::ds,vs,hb,h=>by
  simp only[je,zbG] at hb;simp only[aq] at h⊢;obtain⟨x,r,h1,h2,a⟩:=h;exact⟨x,r,h1,qw n d x hb.1 h2,cg n ds r hb.2 a⟩
end
mutual
theorem Iz(n:Nat)(j:∀k,n<=k->w.r k=none):∀(d:D)(v:V),Rep K w d v->jf n d=true
 |.bD,_,_=>by simp[jf]
 |.bl _,_,_=>by simp[jf]
 |.int _,_,_=>by simp[jf]
 |.str _,_,_=>by simp[jf]
 |.ty _,_,_=>by simp[jf]
 |.fd,_,_=>by simp[jf]
 |.fn _,_,_=>by simp[jf]
 |.lz _,_,_=>by simp[jf]
 |.loc m,v,h=>by
  simp only[Rep] at h;obtain⟨a,h1,h2⟩:=h;simp only[jf,decide_eq_true_eq];rcases zcC m n with q|q
  ·exact q
  ·rw[j m q] at h1;cases h1
 |.tup ds,v,h=>by
  simp only[Rep] at h;obtain⟨a,i,h1,h2,l⟩:=h;simp only[jf];exact dM n j ds i l
 |.lst ds,v,h=>by
  simp only[Rep] at h;obtain⟨a,i,h1,h2,l⟩:=h;simp only[jf];exact dM n j ds i l
 |.dct ks ds,v,h=>by
  simp only[Rep] at h;obtain⟨a,i,h1,h2,l,o⟩:=h;simp only[jf];exact dM n j ds _ o
theorem dM(n:Nat)(a:∀k,n<=k->w.r k=none):∀(ds:List D)(vs:List V),aq K w ds vs->je n ds=true
 |[],_,_=>by simp[je]
 |d::ds,vs,h=>by
  simp only[aq] at h;obtain⟨x,r,h1,h2,i⟩:=h;simp only[je,zbG];exact⟨Iz n a d x h2,dM n a ds r i⟩
end
theorem jw(n:Nat):∀{o:MO}{u:HO},lU n o=true->lX K w o u->lX K (jR n w) o u:=by
 intro o u j h;cases o with
 |lst ds=>obtain⟨i,h1,h2⟩:=h;exact⟨i,h1,cg n ds i j h2⟩
 |dct ks ds=>obtain⟨i,h1,h2,l⟩:=h;exact⟨i,h1,h2,cg n ds _ j l⟩
 |feed _=>exact h
 |ins C ks ds=>obtain⟨m,fs,h1,h2,l⟩:=h;exact⟨m,fs,h1,h2,cg n ds _ j l⟩
 |Hy F ks=>obtain⟨a,bs,h1,h2⟩:=h;exact⟨a,bs,h1,cg n ks _ j h2⟩
theorem EG(n:Nat)(i:∀k,n<=k->w.r k=none):∀{o:MO}{u:HO},lX K w o u->lU n o=true:=by
 intro o u h;cases o with
 |lst ds=>obtain⟨l,h1,h2⟩:=h;exact dM n i ds l h2
 |dct ks ds=>obtain⟨l,h1,h2,j⟩:=h;exact dM n i ds _ j
 |feed _=>rfl
 |ins C ks ds=>obtain⟨m,fs,h1,h2,j⟩:=h;exact dM n i ds _ j
 |Hy F ks=>obtain⟨a,bs,h1,h2⟩:=h;exact dM n i ks _ h2
noncomputable def out(n:Nat)(S1:aN):R->Option R
 |.dat (.loc m)=>if m<n then some (.dat (.loc m)) else match S1[m]? with
  |some (some o)=>if lU n o=true then some (.new o) else none
  |_=>none
 |.dat d=>if jf n d=true then some (.dat d) else none
 |.new o=>if lU n o=true then some (.new o) else none
def chg(S0 S1:aN):Prop:=∀k o,k<S0.length->S1[k]? =some (some o)->S0[k]? =some (some o)∨lU S0.length o=true
def ret(S0 S1:aN)(r:R)(Q:AK):Prop:=∃a,out S0.length S1 r=some a/\chg S0 S1/\Q a (S1.take S0.length)
theorem r9{r:R}{L:AK}{Q:VK}(ok:Ok K w H S0)(le:w.le w1)(j:Ok K w1 H1 S1)(rep:CY K w1 H1 S1 r v)(h:ret S0 S1 r L)(bk:dY K w L Q):Q v H1:=by
 obtain⟨F,i,P,q⟩:=h;generalize O:S0.length=n at*;have lt:∀k a,w.r k=some a->k<n:=λk a e=>by
  rcases zcC k n with z|z
  ·exact z
  ·rw[ok.top k (by lia)] at e;cases e
 have at_:∀k o,(S1.take n)[k]? =some (some o)->k<n/\S1[k]? =some (some o):=λk o e=>by
  rw[List.getElem?_take] at e;by_cases z:k<n
  ·rw[yIp z] at e;exact⟨z,e⟩
  ·rw[yIn z] at e;cases e
 have I:w.le (jR n w1):=⟨le.b,λk a e=>by show(if k<n then w1.r k else none)=_;rw[yIp (lt k a e)];exact le.r k a e⟩
 have bl:∀k o,k<n->S1[k]? =some (some o)->lU n o=true:=λk o l e=>by
  rcases P k o (by lia) e with z|z
  ·obtain⟨a,u,_,_,_,x⟩:=ok.live k o z;exact EG n (λk l=>ok.top k (by lia)) x
  ·rw[O] at z;exact z
 have G:Ok K (jR n w1) H1 (S1.take n):=⟨j.base,λk o e=>by
   obtain⟨l,e⟩:=at_ k o e;obtain⟨a,u,h1,h2,C,x⟩:=j.live k o e;exact⟨a,u,by show(if k<n then w1.r k else none)=_;rw[yIp l];exact h1,h2,C,jw n (bl k o l e) x⟩,
  λk m o s e y z=>by
   obtain⟨l,e⟩:=at_ k o e;obtain⟨t,y⟩:=at_ m s y;have z:(if k<n then w1.r k else none)=(if m<n then w1.r m else none):=z;rw[yIp l,yIp t] at z;exact j.inj k m o s e y z,
  λk l=>by
   show(if k<n then w1.r k else none)=none;by_cases z:k<n
   ·rw[yIp z];rw[zbr] at l;exact j.top k (by lia)
   ·rw[yIn z]⟩
 refine bk F (S1.take n) v (jR n w1) H1 I G ?_ q;have fresh:∀m o a,n<=m->S1[m]? =some (some o)->w1.r m=some a->∀k s,(S1.take n)[k]? =some (some s)->(jR n w1).r k≠some a:=λm o a t e E k s y z=>by
  obtain⟨l,y⟩:=at_ k s y;have z:(if k<n then w1.r k else none)=some a:=z;rw[yIp l] at z;have:=j.inj k m s o y e (z.trans E.symm);lia
 cases r with
 |new o=>
  simp only[out] at i;split at i
  next hb=>
   cases i;obtain⟨a,u,rfl,h1,h2,C,x⟩:=rep;refine⟨a,u,rfl,h1,h2,jw n hb C,λk s e z=>?_⟩;obtain⟨l,e⟩:=at_ k s e;have z:(if k<n then w1.r k else none)=some a:=z;rw[yIp l] at z;exact x k s e z
  next=>cases i
 |dat d=>
  have gen:(if jf n d=true then some (R.dat d) else none)=some F->CY K (jR n w1) H1 (S1.take n) F v:=λi=>by
   split at i
   next hb=>cases i;exact qw n d v hb rep
   next=>cases i
  cases d with
  |loc m=>
   simp only[out] at i;split at i
   next t=>exact gen (by simp[jf,t,i])
   next t=>
    have t:n<=m:=by lia
    split at i
    next o e=>
     split at i
     next hb=>
      cases i;have rep:Rep K w1 (.loc m) v:=rep;simp only[Rep] at rep;obtain⟨a,E,rfl⟩:=rep;obtain⟨S,u,h1,h2,C,x⟩:=j.live m o e;rw[E] at h1;cases h1;exact⟨a,u,rfl,h2,C,jw n hb x,fresh m o a t e E⟩
     next=>cases i
    next=>cases i
  |_=>exact gen (by simpa only[out] using i)
end
noncomputable def aH(N:List Str)(ds:List D):bC:=ds.map some++zcc (N.length - ds.length) none
theorem i7{w:Wd}{vs:List V}(h:aq K w ds vs):ee K w (aH N ds) (L2.start N vs):=by
 have j:=h.length;refine⟨by simp[aH,L2.start,j],λi d e=>?_⟩;unfold aH at e;by_cases a:i<ds.length
 ·rw[zae (by simpa using a),zba] at e;cases z:ds[i]? with
  |none=>rw[z] at e;cases e
  |some d'=>
   rw[z] at e;have e:d'=d:=by simpa using e
   subst e;obtain⟨v,h1,h2⟩:=h.get z;refine⟨v,?_,h2⟩;unfold L2.start;rw[zae (by rw[zbK,j];exact a),zba,h1];rfl
 ·rw[zab (by simpa using a),List.getElem?_replicate] at e;split at e<;>cases e
theorem cD{k:Nat}(F:Src K mg x ps st)(S:av N ps (ah st))(len:∀ds S Q,sp ds S Q->ds.length=ps.length)(l:∀(f:Addr)(i:yai)(A:yal)(outer:List Env)(s:yah)(H:Hp)(E:XK),aV k (A.deeper (envOfC x (ah st) s.heap.objs.size f i))->∃a,C2 (kj m5 P w K mg base N x (ah st) f i A outer s H E).Ht (bE st) a/\∀ds S Q,sp ds S Q->a {nx:=λ_ n=>ret S n (.dat .bD) Q,rt:=λr n=>ret S n r Q} (aH N ds) S):Def P w K mg base (k+1) x ps (au K sp):=
 F.def S (λvs H Q E h=>by
  obtain⟨w,ds,S,t,ok,rep,q,bk⟩:=h;rw[rep.length];exact len ds S t q) λf i A outer s H vs Q E y h=>by
  obtain⟨a,C,hd⟩:=l f i A outer s H E y;obtain⟨w,ds,S,t,ok,rep,q,bk⟩:=h;refine⟨_,C.p,w,aH N ds,S,_,ok,i7 rep,hd ds S t q,⟨λL n I u G le j env o=>?_,λr n v u G le j m o=>?_,λ_ _ _ _ _ _ _ _ z=>z.elim,λ_ _ _ _ _ _ _ _ z=>z.elim⟩⟩
  ·exact r9 (r:=.dat .bD) (v:=.bD) ok le j (show Rep K u .bD .bD from .bD) o bk
  ·exact r9 ok le j m o bk
section
variable {w:Wd}{d:D}
theorem eS{vs:List V}(h:aq K w [d] vs):∃v,vs=[v]/\Rep K w d v:=by
 simp only[aq] at h;obtain⟨x,r,rfl,h1,rfl⟩:=h;exact⟨x,rfl,h1⟩
theorem EE{e:D}{vs:List V}(h:aq K w [d,e] vs):∃v u,vs=[v,u]/\Rep K w d v/\Rep K w e u:=by
 simp only[aq] at h;obtain⟨x,r,rfl,h1,y,a,rfl,h2,rfl⟩:=h;exact⟨x,y,rfl,h1,h2⟩
noncomputable def iu:D->Option Nat
 |.lst ds=>some ds.length
 |.tup ds=>some ds.length
 |.lz ns=>some ns.length
 |.dct ks _=>some ks.length
 |.str z=>if z.length<=yag then some z.length else none
 |_=>none
def Kg:AN:=λa S Q=>∃d n,a=[d]/\iu (aT S d)=some n/\Q (.dat (.int n)) S
theorem cV:rK X (.builtin "len") Kg:=⟨mC (Ud L2.F4 L2.CA) λl H Q h=>by
 obtain⟨w,j,S,o,ok,rep,⟨d,n,rfl,e,q⟩,bk⟩:=h;obtain⟨v,rfl,i⟩:=eS rep;cases z:aT S d with
 |lst j=>
  rw[z] at e;have e:j.length=n:=by simpa[iu] using e
  obtain⟨a,l,rfl,h1,h2⟩:=br ok i z;exact .inl ⟨_,n,rfl,.inl ⟨l,cF.of h1,by rw[h2.length,e]⟩,bk.dat .refl ok .int q⟩
 |tup j=>
  rw[z] at e;have e:j.length=n:=by simpa[iu] using e
  obtain⟨a,l,rfl,h1,h2⟩:=b5 ok i z;exact .inl ⟨_,n,rfl,.inr ⟨l,h1,by rw[h2.length,e]⟩,bk.dat .refl ok .int q⟩
 |lz ns=>
  rw[z] at e;have e:ns.length=n:=by simpa[iu] using e
  obtain⟨a,rfl,h1⟩:=jM ok i z;exact .inl ⟨_,n,rfl,.inl ⟨_,h1,by rw[zbK,e]⟩,bk.dat .refl ok .int q⟩
 |str y=>
  rw[z] at e;simp only[iu] at e;split at e
  next hl=>
   cases e;exact .inl ⟨_,_,rfl,(by rw[bM i z];exact⟨hl,rfl⟩),bk.dat .refl ok .int q⟩
  next=>cases e
 |dct ks j=>
  rw[z] at e;have e:ks.length=n:=by simpa[iu] using e
  obtain⟨a,m,rfl,h1,h2,_⟩:=ff ok i z;refine .inr ⟨a,m,rfl,h1,?_⟩;rw[<-zbK (f:=(·.1)),h2,e];exact bk.dat .refl ok .int q
 |_=>rw[z] at e;simp[iu] at e⟩
noncomputable def Pn:D->Option String
 |.bD=>some "NoneType"
 |.bl _=>some "bool"
 |.int _=>some "int"
 |.str _=>some "str"
 |.tup _=>some "tuple"
 |.lst _=>some "list"
 |_=>none
noncomputable def Q5(d:D)(T:String):Option Bool:=(Pn d).bind λt=>if T=="str"||T=="int"||T=="bool"||T=="tuple"||T=="list" then some (t==T||(t=="bool"&&T=="int")) else none
def RP:AN:=λa S Q=>∃d T b,a=[d,.ty T]/\Q5 (aT S d) T=some b/\Q (.dat (.bl b)) S
theorem LM(ok:Ok K w H S)(h:Rep K w d v){t:String}(e:Pn (aT S d)=some t):kE K H v (.type t)∨t="tuple"/\∃a j,v=.ref a/\dI K H a j:=by
 cases z:aT S d with
 |lst ds=>
  rw[z] at e;cases e;obtain⟨a,i,rfl,h1,h2⟩:=br ok h z;exact .inl (.lst h1)
 |tup ds=>
  rw[z] at e;cases e;obtain⟨a,i,rfl,h1,h2⟩:=b5 ok h z;exact .inr ⟨rfl,a,i,rfl,h1⟩
 |bD=>rw[z] at e;cases e;rw[HV h z];exact .inl .bD
 |bl b=>rw[z] at e;cases e;rw[f7 h z];exact .inl (.bl b)
 |int b=>rw[z] at e;cases e;rw[cz h z];exact .inl (.int b)
 |str b=>rw[z] at e;cases e;rw[bM h z];exact .inl (.str b)
 |_=>rw[z] at e;simp[Pn] at e
theorem NL{t T:String}(a:t="NoneType"∨t="bool"∨t="int"∨t="str"∨t="tuple"∨t="list")(e:(if T=="str"||T=="int"||T=="bool"||T=="tuple"||T=="list" then some (t==T||(t=="bool"&&T=="int")) else none)=some b):PySem.W.kitOne K (.type t) (.type T)=some b:=by
 split at e
 next hT=>
  simp only[Bool.or_eq_true,beq_iff_eq] at hT;cases e;rcases hT with(((rfl|rfl)|rfl)|rfl)|rfl<;>rcases a with rfl|rfl|rfl|rfl|rfl|rfl<;>rfl
 next=>cases e
theorem LN{t:String}(e:Pn d=some t):t="NoneType"∨t="bool"∨t="int"∨t="str"∨t="tuple"∨t="list":=by
 cases d<;>simp[Pn] at e<;>subst e<;>simp
theorem CB:bX X (.builtin "isinstance") (λl H Q=>∃(a:Addr)(j:List V)(T:String)(b:Bool),l=[.ref a,.ty T]/\dI X.K H a j/\PySem.W.kitOne X.K (.type "tuple") (.type T)=some b/\Q (.bl b) H):=by
 intro m s y H l C Q I r h;obtain⟨a,j,T,b,rfl,u,x,q⟩:=h;obtain⟨v,n,rfl,t,i⟩:=vals2 r;cases EI.2 n i;cases(show v=Value.ref a from t);obtain⟨_,_,⟨o,h1,h2,_⟩,_⟩:=I.tuple u;exact zca (b:=b) PySem.W.kitx_tuple I.mq ⟨o,h1,h2⟩ x (λz=>nomatch z) λtk=>⟨.bl b,H,I.tok tk,rfl,q⟩
theorem j5:rK X (.builtin "isinstance") RP:=⟨mC (Ud L2.F5 CB) λn H Q h=>by
 obtain⟨w,o,S,s,ok,rep,⟨d,T,b,rfl,e,q⟩,bk⟩:=h;obtain⟨v,u,rfl,l,i⟩:=EE rep;unfold Q5 at e;cases z:Pn (aT S d) with
 |none=>rw[z] at e;cases e
 |some t=>
  rw[z] at e;have kt:=NL (K:=X.K) (LN z) e;rcases LM ok l z with ty|⟨rfl,a,j,rfl,m⟩
  ·exact .inl ⟨v,.ty T,_,_,b,(by rw[EF i rfl]),EI.1,EI.2,ty,kt,bk.dat .refl ok .bl q⟩
  ·exact .inr ⟨a,j,T,b,(by rw[EF i rfl]),m,kt,bk.dat .refl ok .bl q⟩⟩
def kB:AN:=λa S Q=>∃d,a=[d]/\match aT S d with
 |.lst es=>Q (.new (.lst es)) S
 |.tup es=>Q (.new (.lst es)) S
 |.lz ns=>Q (.new (.lst (ns.map D.int))) S
 |_=>False
theorem ic:rK X (.type "list") kB:=⟨mC L2.tO λj H Q h=>by
 obtain⟨w,m,S,n,ok,rep,⟨d,rfl,q⟩,bk⟩:=h;obtain⟨v,rfl,l⟩:=eS rep;split at q
 next es z=>
  obtain⟨a,j,rfl,h1,h2⟩:=br ok l z;exact⟨a,j,rfl,.inl (cF.of h1),λp i=>bk (.new (.lst _)) S _ w _ .refl (ok.alloc i) (ok.fresh i ⟨_,rfl,h2⟩) q⟩
 next es z=>
  obtain⟨a,j,rfl,h1,h2⟩:=b5 ok l z;exact⟨a,j,rfl,.inr h1,λp i=>bk (.new (.lst _)) S _ w _ .refl (ok.alloc i) (ok.fresh i ⟨_,rfl,h2⟩) q⟩
 next ns z=>
  obtain⟨a,rfl,h1⟩:=jM ok l z;exact⟨a,_,rfl,.inl h1,λp i=>bk (.new (.lst _)) S _ w _ .refl (ok.alloc i) (ok.fresh i ⟨_,rfl,eE ns⟩) q⟩
 next=>exact q.elim⟩
def iF:AN:=λa S Q=>∃d,a=[d]/\match aT S d with
 |.lst es=>Q (.dat (.tup es)) S
 |.tup es=>Q (.dat (.tup es)) S
 |_=>False
theorem eF:rK X (.type "tuple") iF:=⟨mC L2.qb λj H Q h=>by
 obtain⟨w,x,S,y,ok,rep,⟨d,rfl,q⟩,bk⟩:=h;obtain⟨v,rfl,l⟩:=eS rep;split at q
 next es z=>
  obtain⟨a,j,rfl,h1,h2⟩:=br ok l z;refine⟨a,j,rfl,.inl ⟨cF.of h1,λp t=>?_⟩⟩;obtain⟨u,s,m,i⟩:=ok.sJ t h2;exact bk.dat s m i q
 next es z=>
  obtain⟨a,j,rfl,h1,h2⟩:=b5 ok l z;refine⟨a,j,rfl,.inr ⟨h1,?_⟩⟩;cases d<;>simp only[aT] at z
  case tup=>cases z;exact bk.dat .refl ok l q
  case loc n=>split at z<;>first|(rename_i o _;cases o<;>simp[MO.d] at z)|cases z
  all_goals cases z
 next=>exact q.elim⟩
def RM:AN:=λa S Q=>∃i j,a=[.int i,.int j]/\Q (.dat (.int (if j> i then j else i))) S
def Gp:AN:=λa S Q=>∃i j,a=[.int i,.int j]/\Q (.dat (.int (if j<i then j else i))) S
theorem Nq(m:X.calm=true):rK X (.builtin "max") RM:=⟨mC (L2.Cy m) λn H Q h=>by
 obtain⟨w,o,S,s,ok,rep,⟨i,j,rfl,q⟩,bk⟩:=h;obtain⟨v,u,rfl,l,a⟩:=EE rep;exact⟨i,j,by rw[aZ l rfl,aZ a rfl],bk.dat .refl ok .int q⟩⟩
theorem E6(m:X.calm=true):rK X (.builtin "min") Gp:=⟨mC (L2.Cw m) λn H Q h=>by
 obtain⟨w,o,S,s,ok,rep,⟨i,j,rfl,q⟩,bk⟩:=h;obtain⟨v,u,rfl,l,a⟩:=EE rep;exact⟨i,j,by rw[aZ l rfl,aZ a rfl],bk.dat .refl ok .int q⟩⟩
def RQ:AN:=λa S Q=>(∃i,a=[.int i]/\Q (.dat (.int i)) S)∨∃b:Bool,a=[.bl b]/\Q (.dat (.int (if b then 1 else 0))) S
theorem Nu:rK X (.type "int") RQ:=⟨mC L2.CC λj H Q h=>by
 obtain⟨w,l,S,m,ok,rep,q,bk⟩:=h;rcases q with⟨i,rfl,q⟩|⟨b,rfl,q⟩
 ·obtain⟨v,rfl,a⟩:=eS rep;exact .inl ⟨i,by rw[aZ a rfl],bk.dat .refl ok .int q⟩
 ·obtain⟨v,rfl,a⟩:=eS rep;exact .inr ⟨b,by rw[gU a rfl],bk.dat .refl ok .int q⟩⟩
end
abbrev AM:=D->List D->aN->AK->Prop
structure RV(X:Cx)(id:String)(r:AM):Prop where
 p:CZ X id (OM X.K r)
def Fy(T:String):D->Prop
 |.lst _=>T="list"
 |.str _=>T="str"
 |.lz _=>T="list"
 |.dct _ _=>T="dict"
 |_=>False
def ue(T:String)(r:AM)(a:AE)(b:AA):AE:=λh S Q=>a h S λx i=>Fy T (aT i x.d)/\b h i λj l=>r x.d j l Q
def O5(T:String)(r:AM)(a:AE):AE:=λi S Q=>a i S λx h=>Fy T (aT h x.d)/\r x.d [] h Q
section
variable {w:Wd}{d:D}
theorem Ky{T:String}(ok:Ok K w H S)(h:Rep K w d v)(t:Fy T (aT S d)):Sa K T v H:=by
 cases z:aT S d with
 |lst ds=>
  rw[z] at t;cases t;obtain⟨a,j,rfl,h1,h2⟩:=br ok h z;exact .inl ⟨rfl,j,cF.of h1⟩
 |str y=>rw[z] at t;cases t;rw[bM h z];exact rfl
 |lz ns=>
  rw[z] at t;cases t;obtain⟨a,rfl,h1⟩:=jM ok h z;exact .inl ⟨rfl,_,h1⟩
 |dct ks ds=>
  rw[z] at t;cases t;obtain⟨a,i,rfl,h1,_⟩:=ff ok h z;exact .inr (.inr (.inl ⟨rfl,.inl ⟨i,h1⟩⟩))
 |_=>rw[z] at t;exact t.elim
theorem SG{T:String}{r:AM}{a:AE}{b:AA}:∀n H Q,aS K (ue T r a b) n H Q->Su K T (OM K r) (aS K a) (ko K b) n H Q:=by
 rintro n H Q ⟨w,s,S,F,ok,env,q,bk⟩;refine⟨w,s,S,_,ok,env,q,.go λv E G u L m j h ⟨ty,x⟩=>⟨Ky j h ty,?_⟩⟩;refine⟨u,s,E,_,j,env.le m,x,λy C vs t I l o i q2=>?_⟩;exact⟨t,v.d,y,C,F,o,h.le l,i,q2,bk.le (m.trans l)⟩
theorem Qw{T:String}{r:AM}{a:AE}:∀j H Q,aS K (O5 T r a) j H Q->LX K T (OM K r) (aS K a) j H Q:=by
 rintro j H Q ⟨w,m,S,u,ok,env,q,bk⟩;refine⟨w,m,S,_,ok,env,q,.go λo t v n x l i h ⟨ty,s⟩=>⟨Ky i h ty,?_⟩⟩;exact⟨n,o.d,[],t,u,i,h,.nil,s,bk.le l⟩
theorem fu{o:Expr}{es:List Expr}{to:AE}{t:AA}{a:Pos}{T id:String}{r:AM}(m:PlainAttrs T)(slot:Slot T name id)(l:typeOf (.builtin id)=pure (.type "method_descriptor"))(s:RV X id r)(q:GE X o to)(u:GA X (e::es) t)(i:attributeBase o name X.env (eval o X.env)=eval o X.env:=by rfl)(n:(e::es).all notStar=true:=by rfl)(j:decide ((e::es).length+0+0<30)=true:=by rfl)(h:(apos.endLine==a.line)=true:=by rfl):GE X (.Call (.Attribute o name apos) (e::es) [] a) (ue T r to t):=⟨mE (L2.Na m slot l s.p q.p u.p i n j h) SG⟩
theorem yf{o:Expr}{to:AE}{a:Pos}{T id:String}{r:AM}(l:PlainAttrs T)(slot:Slot T name id)(j:typeOf (.builtin id)=pure (.type "method_descriptor"))(n:RV X id r)(m:GE X o to)(i:attributeBase o name X.env (eval o X.env)=eval o X.env:=by rfl)(h:(apos.endLine==a.line)=true:=by rfl):GE X (.Call (.Attribute o name apos) [] [] a) (O5 T r to):=⟨mE (L2.II l slot j n.p m.p i h) Qw⟩
theorem mM{id:String}{t u:V->List V->Hp->VK->Prop}(h:CZ X id t)(m:∀x a H Q,u x a H Q->t x a H Q):CZ X id u:=λi s j H x a v l Q I n o q=>h i s j H x a v l Q I n o (m x a H Q q)
theorem yv(ok:Ok K w H S)(h:Rep K w (.loc n) v)(e:S[n]? =some (some (.lst ds))):∃a i,v=.ref a/\w.r n=some a/\H a=some (.lst i)/\aq K w ds i:=by
 simp only[Rep] at h;obtain⟨a,h1,rfl⟩:=h;obtain⟨q,u,j,o,m,i,rfl,l⟩:=ok.live n _ e;rw[h1] at j;cases j;exact⟨a,i,rfl,h1,m,l⟩
theorem jU(h:aq K w ds xs):lX K w (.lst ds) (.lst xs):=⟨xs,rfl,h⟩
def nE:AM:=λx h S Q=>∃n a e,x=.loc n/\h=[e]/\S[n]? =some (some (.lst a))/\a.length<yag/\Q (.dat .bD) (S.set n (some (.lst (a++[e]))))
theorem dN:RV X "list.append" nE:=⟨mM (X:=X) (t:=z7) L2.B7 λx E H Q h=>by
 obtain⟨w,d,G,S,I,ok,s,o,⟨n,F,e,rfl,rfl,j,u,q⟩,bk⟩:=h;obtain⟨a,l,rfl,y,C,i⟩:=yv ok s j;obtain⟨v,rfl,m⟩:=eS o;exact⟨a,l,v,rfl,rfl,C,by rw[i.length];exact u,bk.dat .refl (ok.put j y (jU (i.snoc m))) .bD q⟩⟩
def EL(K:yaI):V->List V->Hp->VK->Prop:=λx vs H Q=>∃l b h a,x=.ref l/\vs=[.ref b]/\H l=some (.lst h)/\dI K H b a/\h.length+a.length<=yag/\Q .bD (upd H l (.lst (h++a)))
theorem JC{b:Addr}{a i:Array yai}{k:Nat}{dd:Option Addr}(h0:¬(!a.isEmpty&&Builtin.List.listTooLong (a.size+i.size))=true)(h1:a.size<=yag)(h2:a.size+i.size<=yag+1):
  Meets (Builtin.«list.extend» ⟨[.ref l,.ref b],[]⟩) (λ_ R s=>s.heap.get? l=some {cls:=.type "list",dict:=none,data:=.seq a n,slots:=#[]}/\s.heap.get? b=some {cls:=.type "tuple",dict:=dd,data:=.seq i k,slots:=sl}/\R (.ok (.ret Value.none)) {s with heap:=s.heap.update l (Obj.mapSeq λx=>x++i),toks:=s.toks}):=
 .of_wp λprog w A R s h=>by
  obtain⟨j,m,q⟩:=h;obtain⟨o,g,E,tk,os⟩:=s;have C:=AutoSeq1.idx_int;have y:=AutoSeq1.sub_tuple_tuple;have v:=AutoSeq1.sub_list_list;have u:=AutoSeq1.sub_tuple_list;have t:=AutoSeq1.sub_list_tuple;have z:(a++i).size<=yag+1:=by rw[Array.size_append];exact h2
  wp_walk using(wpAny_updateSeq j rfl (hz:=h1) (_hz':=z)),AutoSeq1.wpAny_loadPart' j,AutoSeq1.wpAny_loadPart' m
  exact⟨_,rfl,q⟩
theorem yp:CZ X "list.extend" (EL X.K):=by
 intro t s W H x vs v us Q I G L h;obtain⟨l,b,xs,Y,rfl,rfl,y,S,hz,q⟩:=h;cases G;obtain⟨u,rfl,ru⟩:=L.one;cases ru;obtain⟨z,i,n,r,hl,e⟩:=I.vn y;obtain⟨a,o,⟨⟨c2,dd,da,sl⟩,U,j,O,C⟩,Z⟩:=I.tuple S;simp only at j C;subst j C;have P:=o.length;have m:i.toArray.size+a.toArray.size<=yag:=by rw[zaY,zaY];lia
 have E:¬(!i.toArray.isEmpty&&Builtin.List.listTooLong (i.toArray.size+a.toArray.size))=true:=by
  rw[oB m,Bool.and_false];exact zaT
 refine call_meets F.slot_list_extend ⟨_,e,rfl⟩ F.entry_list_extend (F.args_list_extend_2 _ _)
  (JC (n:=n) (k:=O) (dd:=dd) (sl:=sl) E (by rw[zaY];lia) (by lia)) ⟨e,U,?_⟩
 refine⟨.bD,_,I.Jg (its':=i++a) y e (by simp) (r.append o) ?_,rfl,q⟩;rw[zaM];lia
def A9:AM:=λx h S Q=>∃n a e fs,x=.loc n/\h=[e]/\S[n]? =some (some (.lst a))/\(aT S e=.lst fs∨aT S e=.tup fs)/\a.length+fs.length<=yag/\Q (.dat .bD) (S.set n (some (.lst (a++fs))))
theorem j7:RV X "list.extend" A9:=⟨mM (CZ.or (X:=X) (r:=z6) L2.B6 yp) λx I H Q h=>by
 obtain⟨w,d,O,S,P,ok,G,F,⟨n,L,e,fs,rfl,rfl,o,i,y,q⟩,bk⟩:=h;obtain⟨a,t,rfl,C,E,l⟩:=yv ok G o;obtain⟨v,rfl,u⟩:=eS F;rcases i with i|i
 ·obtain⟨b,m,rfl,s,j⟩:=br ok u i;exact .inl ⟨a,b,t,m,rfl,rfl,E,s,by rw[l.length,j.length];exact y,bk.dat .refl (ok.put o C (jU (l.append j))) .bD q⟩
 ·obtain⟨b,m,rfl,s,j⟩:=b5 ok u i;exact .inr ⟨a,b,t,m,rfl,rfl,E,s,by rw[l.length,j.length];exact y,bk.dat .refl (ok.put o C (jU (l.append j))) .bD q⟩⟩
theorem aq.dropLast(h:aq K w ds xs):aq K w ds.dropLast xs.dropLast:=by
 rw[List.dropLast_eq_take,List.dropLast_eq_take,h.length];exact h.take _
def RL:AM:=λx h S Q=>∃n a e,x=.loc n/\h=[]/\S[n]? =some (some (.lst a))/\a[a.length - 1]? =some e/\Q (.dat e) (S.set n (some (.lst a.dropLast)))
theorem Q0:RV X "list.pop" RL:=⟨mM (X:=X) (t:=Qz) L2.NB λx m H Q h=>by
 obtain⟨w,d,F,S,G,ok,s,o,⟨n,E,e,rfl,rfl,j,u,q⟩,bk⟩:=h;obtain⟨a,l,rfl,y,C,i⟩:=yv ok s j;have z:m=[]:=by simpa[aq] using o
 subst z;obtain⟨v,h1,h2⟩:=i.get u;exact⟨a,l,v,rfl,rfl,C,by rw[i.length];exact h1,bk.dat .refl (ok.put j y (jU i.dropLast)) h2 q⟩⟩
def RS(i:Nat)(a:AE)(r:A2):AS:=λD h S=>∃x,h[i]? =some (some x)/\a h S λy l=>r x y.d l λz j=>D.nx (h.set i (some z.d)) j
def O1:A2:=λx y S Q=>∃i j,x=.int i/\y=.int j/\Q (.dat (.int (i+j))) S
theorem BQ{t:AE}(E:X.N.Nodup)(hi:X.N[i]? =some x)(u:Loc X.env.scope x)(C:GE X e t)(y:X.fn x=true∨X.env.scope.names.lookup x=some .local:=by first|exact .inl rfl|exact .inr rfl|assumption):
  GS X (.AugAssign (.Name x pos') .Add e pos) (RS i t O1):=⟨mS (L2.M0 E hi u C.p L2.NY y) λD L H h=>by
 obtain⟨w,o,S,Q,ok,env,⟨d,hd,q⟩,bk⟩:=h;obtain⟨v,h1,h2⟩:=env.2 i d hd;refine⟨v,h1,w,o,S,_,ok,env,q,.go λP G O s I l n j m=>?_⟩;obtain⟨a,b,rfl,F,m⟩:=m;exact⟨a,b,aZ h2 rfl,aZ j F,bk.nx _ G _ s I l n ((env.le l).set .int i) m⟩⟩
end
end M
namespace M
open PySem L2
theorem bf{P:aN->Prop}{g:AG}{b:AS}{D:jr}(I:List M.D->bC->aN->Prop)(m:∀δ S,I [] δ S->P S/\D.nx δ S)(n:∀x i δ S N,I (x::i) δ S->(∀a j,I i a j->N a j)->P S/\g x δ S λl q=>b {D with nx:=N,ct:=N,bk:=D.nx} l q):∀ds δ S,I ds δ S->qL P g b ds D δ S
 |[],δ,S,h=>m δ S h
 |x::i,δ,S,h=>n x i δ S _ h λa j o=>bf I m n i a j o
theorem nD{P:aN->Prop}{g:AG}{t:AT}{e:AE}{Q:List M.D->aN->Prop}(I:List M.D->List M.D->bC->aN->Prop)(o:∀a δ S,I [] a δ S->P S/\Q a S)(q:∀x m a δ S (N:List M.D->bC->aN->Prop),I (x::m) a δ S->(∀i j n,I m i j n->N i j n)->P S/\g x δ S λl y=>t l y λb s=>if b=true then e l s λr v=>a.length<yag/\N (a++[r.d]) l v else N a l s):
  ∀ds a δ S,I ds a δ S->iy P g t e ds a δ S Q
 |[],a,δ,S,h=>o a δ S h
 |x::m,a,δ,S,h=>q x m a δ S (λi j n=>iy P g t e m i j n Q) h λi j n u=>nD I o q m i j n u
theorem comp_map{P:aN->Prop}{e:AE}{Q:List M.D->aN->Prop}{δ:bC}{S:aN}(f:M.D->M.D)(m:P S):∀(j i:List M.D)(a:bC),a.set 0 none=δ.set 0 none->(∀x∈j,∀Q:AK,Q (.dat (f x)) S->e (δ.set 0 (some x)) S Q)->i.length+j.length<=yag->Q (i++j.map f) S->
  iy P (bV 0) wm e j i a S Q
 |[],i,a,_,_,_,q=>⟨m,by simpa using q⟩
 |x::j,i,a,hd,h,hl,q=>by
  refine⟨m,?_⟩;have o:a.set 0 (some x)=δ.set 0 (some x):=by
   have:=congrArg (λl=>l.set 0 (some x)) hd;simpa[List.set_set] using this
  simp only[bV,wm,if_true];rw[o];refine h x (by simp) _ ⟨by simp at hl;lia,?_⟩;refine comp_map f m j _ _ (by simp[List.set_set]) (λy n=>h y (by simp[n])) (by simp at hl⊢;lia) ?_;simpa[R.d,zbc] using q
theorem zM{d:D}(h:bY d=true):aT S d=d:=by
 cases d<;>first|rfl|simp[bY] at h
theorem D4{i:Int}:aT S (.int i)=.int i:=rfl
theorem DY{i:Str}:aT S (.str i)=.str i:=rfl
theorem zP{i:Bool}:aT S (.bl i)=.bl i:=rfl
theorem D3:aT S .bD=.bD:=rfl
theorem jL{i:List D}:aT S (.tup i)=.tup i:=rfl
theorem b9{i:List D}:aT S (.lst i)=.lst i:=rfl
theorem DZ{i:List Int}:aT S (.lz i)=.lz i:=rfl
theorem lE{d:D}:(R.dat d).d=d:=rfl
theorem xZ{o:MO}:(R.new o).d=o.d:=rfl
theorem Am:(MO.lst ds).d=.lst ds:=rfl
theorem Jh{i j:Int}{Q:AK}:Uk (.int i) (.int j) S Q=Q (.dat (.bl (decide (i<=j)))) S:=rfl
theorem Je{i j:Int}{Q:AK}:Uj (.int i) (.int j) S Q=Q (.dat (.bl (decide (i<j)))) S:=rfl
theorem Gr{C:Int->Int->Prop}{g:Int->Int->D}{i j:Int}{Q:AK}:aI C g (.int i) (.int j) S Q=(C i j/\Q (.dat (g i j)) S):=by
 refine propext ⟨λl=>?_,λh=>⟨i,j,rfl,rfl,h⟩⟩;obtain⟨a,b,n,m,h⟩:=l;cases n;cases m;exact h
theorem Gg{i j:Int}{Q:AK}:CH (.int i) (.int j) S Q=Q (.dat (.int (i+j))) S:=rfl
theorem wg{i j:List D}{Q:AK}:CH (.lst i) (.lst j) S Q=(i.length+j.length<=yag/\Q (.new (.lst (i++j))) S):=rfl
theorem AR{i j:Int}{Q:AK}:O3 (.int i) (.int j) S Q=Q (.dat (.bl (decide (i=j)))) S:=rfl
theorem JF{i j:Str}{Q:AK}:O3 (.str i) (.str j) S Q=Q (.dat (.bl (decide (i=j)))) S:=rfl
theorem LP:dX (.bl b)=some b:=rfl
theorem HG:dX (.lst ds)=some (!ds.isEmpty):=rfl
theorem HE:dX (.tup ds)=some (!ds.isEmpty):=rfl
theorem j4{d:D}(h:bY d=true):out n S (.dat d)=some (.dat d):=by
 have b:=A4 n d h;cases d<;>first|(simp[bY] at h;done)|(simp only[out];rw[yIp b])
theorem pF:chg S S:=λ_ _ _ e=>.inl e
theorem aY{d:D}{Q:AK}(h:bY d=true)(q:Q (.dat d) S):ret S S (.dat d) Q:=⟨_,j4 h,pF,by rw[zbv];exact q⟩
theorem MM{Q:AK}:ret S S (.dat (.bl b)) Q=Q (.dat (.bl b)) S:=by
 refine propext ⟨λ⟨r,h1,_,h2⟩=>?_,aY rfl⟩;simp[out,jf] at h1;subst h1;rw[zbv] at h2;exact h2
theorem Iv{b:Int}{Q:AK}:ret S S (.dat (.int b)) Q=Q (.dat (.int b)) S:=by
 refine propext ⟨λ⟨r,h1,_,h2⟩=>?_,aY rfl⟩;simp[out,jf] at h1;subst h1;rw[zbv] at h2;exact h2
theorem gg{Q:AK}(h:bH ds=true)(q:Q (.new (.lst ds)) S):ret S S (.new (.lst ds)) Q:=
 ⟨_,by simp only[out];rw[yIp (show lU _ (.lst ds)=true from cL _ ds h)],pF,by rw[zbv];exact q⟩
theorem se{Q:AK}{a:aN}(l:S.length<=n)(h:bH ds=true)(e:a[n]? =some (some (.lst ds)))(i:a.take S.length=S)(q:Q (.new (.lst ds)) S):ret S a (.dat (.loc n)) Q:=by
 refine⟨.new (.lst ds),?_,λk o j e=>.inl ?_,by rw[i];exact q⟩
 ·simp only[out];rw[yIn (by lia),e];show(if lU S.length (.lst ds)=true then some (R.new (.lst ds)) else none)=_;rw[yIp (show lU _ (.lst ds)=true from cL _ ds h)]
 ·rw[<-i,List.getElem?_take,yIp j];exact e
noncomputable def gp(x:Str):Bool:=x.cps.toList.all (λc=>decide (c<128))&&decide (x.length<=100)
noncomputable def nN:Nat->D->Bool
 |_,.bD=>true
 |_,.bl _=>true
 |_,.int _=>true
 |_,.str x=>gp x
 |n+1,.tup ds=>decide (ds.length<=100)&&ds.all (nN n)
 |n+1,.lst ds=>decide (ds.length<=100)&&ds.all (nN n)
 |_,_=>false
theorem oz(h:gp x=true):PyData.strOk x=true:=by
 unfold gp at h;rw[zbG] at h;unfold PyData.strOk;rw[<-Array.all_toList];refine zbu.mpr λc a=>?_;have:=of_decide_eq_true (zbu.mp h.1 c a);exact yDt (by lia)
theorem Dr:∀(n:Nat)(d:D),nN n d=true->bY d=true/\(py d).canLay0=true/\(py d).depth<=n:=by
 intro n
 induction n with
 |zero=>
  intro d h;cases d<;>first|(simp[nN] at h;done)|skip
  ·simp[bY,py,PyData.canLay0,PyData.depth]
  ·simp[bY,py,PyData.canLay0,PyData.depth]
  ·simp[bY,py,PyData.canLay0,PyData.depth]
  ·simp only[nN] at h;simp[bY,py,PyData.canLay0,PyData.depth,oz h]
 |succ n ih=>
  have all:∀a:List D,(a.all (nN n))=true->bH a=true/\PyData.canLayAll0 (dZ a)=true/\PyData.depthAll (dZ a)<=n:=by
   intro a
   induction a with
   |nil=>intro _;simp[bH,dZ,PyData.canLayAll0,PyData.depthAll]
   |cons d a ih2=>
    intro h;rw[zcl,zbG] at h;obtain⟨j,i,l⟩:=ih d h.1;obtain⟨o,m,q⟩:=ih2 h.2;refine⟨by simp[bH,j,o],by simp[dZ,PyData.canLayAll0,i,m],?_⟩;simp only[dZ,PyData.depthAll];lia
  intro d h;cases d<;>first|(simp[nN] at h;done)|skip
  ·simp[bY,py,PyData.canLay0,PyData.depth]
  ·simp[bY,py,PyData.canLay0,PyData.depth]
  ·simp[bY,py,PyData.canLay0,PyData.depth]
  ·simp only[nN] at h;simp[bY,py,PyData.canLay0,PyData.depth,oz h]
  ·simp only[nN,zbG] at h;obtain⟨j,i,l⟩:=all _ h.2;exact⟨by simpa[bY] using j,by simpa[py,PyData.canLay0] using i,by simp only[py,PyData.depth];lia⟩
  ·simp only[nN,zbG] at h;obtain⟨j,i,l⟩:=all _ h.2;exact⟨by simpa[bY] using j,by simpa[py,PyData.canLay0] using i,by simp only[py,PyData.depth];lia⟩
theorem Dq{d:D}(h:nN n d=true):bY d=true:=(Dr n d h).1
theorem di{d:D}(h:nN n d=true)(i:n<=64):fit d=true:=by
 obtain⟨a,b,c⟩:=Dr n d h;unfold fit PySem.SeqAt.shaped;rw[a,b,yDt (by lia)];rfl
noncomputable def Lh(x:D)(s:Str):Bool:=match x with
 |.str a=>decide (a=s)
 |_=>false
noncomputable def C8(x:D)(ss:List Str):Bool:=ss.any λs=>Lh x s
theorem JE{x:D}{s:Str}(h:bY x=true):PyData.eqv (.str s) (py x)=Lh x s:=by
 cases x<;>first|(simp[bY] at h;done)|simp only[py,PyData.eqv,Lh]
 rename_i a;by_cases e:s=a
 ·subst e;simp
 ·rw[yDf (λz=>e z.symm)];exact beq_eq_false_iff_ne.mpr e
theorem oW{x:D}(h:bY x=true):∀ss:List Str,inD x (ss.map D.str)=C8 x ss
 |[]=>rfl
 |s::ss=>by
  have:=oW h ss;unfold inD C8 at this⊢;rw[zcj,zck,zck,this];rw[show PyData.eqv (py (.str s)) (py x)=Lh x s from JE h]
theorem fU{x:D}{Q:AK}(h:nN n x=true)(j:n<=64)(i:ss.all gp=true)(q:Q (.dat (.bl (neg != C8 x ss))) S)(l:ss.length<=100:=by decide):zh neg x (.tup (ss.map D.str)) S Q:=by
 have a:=Dq h;unfold zh;rw[zM a,jL];refine⟨di h j,di (n:=1) ?_ (by decide),?_⟩
 ·simp only[nN,List.all_map,zbK,yDt l,zcp];exact i
 ·rw[oW a];exact q
theorem qR{x:D}{Q:AK}(h:nN n x=true)(j:n<=64)(i:ss.all gp=true)(q:Q (.dat (.bl (neg != C8 x ss))) S)(l:ss.length<=100:=by decide):zh neg x (.lst (ss.map D.str)) S Q:=by
 have a:=Dq h;unfold zh;rw[zM a,b9];refine⟨di h j,di (n:=1) ?_ (by decide),?_⟩
 ·simp only[nN,List.all_map,zbK,yDt l,zcp];exact i
 ·rw[oW a];exact q
end M
namespace M
open PySem PySem.Spec PyProof.Rows PySem.SeqAt L2
def QF(K:yaI):R2:=λx y H Q=>∃a b,x=.ref a/\y=.ref b/\dI K H a []/\(∃h,dI K H b h)/\Q (.ref b) H
theorem IS:fE X (binaryOp .Add) (QF X.K):=by
 intro G s σ H x y v u Q I Y W h;obtain⟨a,b,rfl,rfl,ha,⟨ys,hb⟩,q⟩:=h;cases Y;cases W;obtain⟨t,Z,p1,_⟩:=I.tuple ha;obtain⟨i,r2,p2,_⟩:=I.tuple hb;have e:t=[]:=by cases Z;rfl
 subst e;obtain⟨⟨cls,dd,P,U⟩,L,O,n,hd⟩:=id p1;obtain⟨⟨S,C,E,o⟩,j,m,n2,l⟩:=id p2;simp only at O hd m l;subst O hd m l;exact concat_meets ⟨_,L,rfl⟩ ⟨_,j,rfl⟩ noFill_tuple_add seq_tuple_add PySem.F.slot_tuple_add PySem.F.entry_tuple_add (PySem.F.args_tuple_add_2 _ _)
  (tuple_addW0 a b #[] i.toArray n n2 dd C U o rfl) ⟨L,j,.ref b,H,I,rfl,q⟩
def Bc:A2:=λx y S Q=>match aT S x,aT S y with
 |.tup [],.tup ys=>Q (.dat (.tup ys)) S
 |_,_=>CH x y S Q
theorem DX{d:D}(z:aT S d=.tup ds):d=.tup ds:=by
 cases d<;>simp only[aT] at z
 case loc n=>split at z<;>first|(rename_i o _;cases o<;>simp[MO.d] at z)|cases z
 all_goals first|cases z|skip
 rfl
theorem E7:mH X (binaryOp .Add) Bc:=⟨m2 (Hr bz.p IS) λx y H Q h=>by
 obtain⟨w,d,e,S,s,ok,j,i,q,bk⟩:=h;unfold Bc at q;split at q
 next ys z1 z2=>
  obtain⟨a,l,rfl,h1,n⟩:=b5 ok j z1;obtain⟨b,m,rfl,h2,t⟩:=b5 ok i z2;have:l=[]:=by simpa[aq] using n
  subst this;have o:=DX z2;subst o;exact .inr ⟨a,b,rfl,rfl,h1,⟨m,h2⟩,bk.dat .refl ok i q⟩
 next=>exact .inl ⟨w,d,e,S,s,ok,j,i,q,bk⟩⟩
end M
namespace M
open PySem L2
section
variable {c:AT}{a b r:AS}{D:jr}
theorem dR(h:∀N:bC->aN->Prop,(∀i j,b D i j->N i j)->a {D with nx:=N} δ S):qe a b D δ S:=h (b D) λ_ _ z=>z
theorem gD(h:∀Q:Bool->aN->Prop,Q false S->c δ S Q)(k:r D δ S):qe (CG c a rJ) r D δ S:=h _ (by rw[yIn (by decide)];exact k)
theorem sZ(h:∀Q:Bool->aN->Prop,Q true S->c δ S Q)(k:a {D with nx:=r D} δ S):qe (CG c a rJ) r D δ S:=h _ (by rw[yIp rfl];exact k)
theorem qF{p:Prop}[Decidable p]{Q:Bool->aN->Prop}(h:¬p)(q:Q false S):Q (decide p) S:=by rw[yDf h];exact q
theorem qT{p:Prop}[Decidable p]{Q:Bool->aN->Prop}(h:p)(q:Q true S):Q (decide p) S:=by rw[yDt h];exact q
end
end M
namespace M
open PySem PySem.Spec PyProof.Rows L2
theorem qk:∀{vs:List yai}{ss:List Str},StrsAre vs ss->Vals (ss.map V.str) vs
 |_,_,.nil=>.nil
 |_,_,.cons y t h=>.cons ⟨t,rfl⟩ (qk h)
theorem eO{K:yaI}{w:Wd}:∀{ns:List Int}{a:List V},aq K w (ns.map D.int) a->a=ns.map V.int
 |[],a,h=>by simpa[aq] using h
 |s::ss,a,h=>by
  simp only[zcj,aq] at h;obtain⟨x,r,rfl,h1,h2⟩:=h;rw[aZ h1 rfl,eO h2];rfl
theorem jS{K:yaI}{w:Wd}:∀ss:List Str,aq K w (ss.map D.str) (ss.map V.str)
 |[]=>by simp[aq]
 |s::ss=>by
  simp only[zcj,aq];exact⟨_,_,rfl,by simp[Rep],jS ss⟩
section
variable {o:Expr}{es:List Expr}{tpos:Pos}
noncomputable def putD(f:Str)(d:D):List Str->List D->List Str×List D
 |k::ks,e::ds=>if k=f then(k::ks,d::ds) else(k::(putD f d ks ds).1,e::(putD f d ks ds).2)
 |_,_=>([f],[d])
theorem z9{K:yaI}{w:Wd}{f:Str}{d:D}{v:V}(g:Rep K w d v):∀(fs:List (Str×V))(ds:List D),aq K w ds (fs.map (·.2))->(gh f v fs).map (·.1)=(putD f d (fs.map (·.1)) ds).1/\aq K w (putD f d (fs.map (·.1)) ds).2 ((gh f v fs).map (·.2))
 |[],ds,h=>by
  cases ds with
  |nil=>exact⟨rfl,.cons g .nil⟩
  |cons _ _=>exact⟨rfl,.cons g .nil⟩
 |(k,x)::fs,ds,h=>by
  cases ds with
  |nil=>simp[aq] at h
  |cons e ds=>
   simp only[zcj,aq] at h;obtain⟨y,r,h1,h2,i⟩:=h;have n:=(zcR.inj h1).1;have m:=(zcR.inj h1).2;subst n;subst m;obtain⟨l,j⟩:=z9 g fs ds i;simp only[gh,zcj,putD];by_cases a:k=f
   ·rw[yIp a,yIp a];exact⟨rfl,.cons g i⟩
   ·rw[yIn a,yIn a];exact⟨by rw[zcj,l],.cons h2 j⟩
theorem vp{K:yaI}{w:Wd}{f:Str}{d:D}:∀(fs:List (Str×V))(ds:List D),aq K w ds (fs.map (·.2))->((fs.map (·.1)).zip ds).lookup f=some d->∃v,fs.lookup f=some v/\Rep K w d v
 |[],ds,h,q=>by simp at q
 |(k,x)::fs,ds,h,q=>by
  cases ds with
  |nil=>simp at q
  |cons e ds=>
   simp only[zcj,aq] at h;obtain⟨y,r,h1,h2,i⟩:=h;have l:=(zcR.inj h1).1;have j:=(zcR.inj h1).2;subst l;subst j;rw[zcj,zaN,zbt] at q;rw[zbt];split at q
   ·rename_i a;have:e=d:=by simpa using q
    subst this;exact⟨x,by rw[a],h2⟩
   ·rename_i a;obtain⟨v,e,r⟩:=vp fs ds i q;exact⟨v,by rw[a];exact e,r⟩
theorem qM{f:Str}:∀(fs:List (Str×V)),f ∉ fs.map (·.1)->fs.lookup f=none
 |[],_=>rfl
 |(k,x)::fs,h=>by
  rw[zbt];have:(f==k)=false:=by
   rw[beq_eq_false_iff_ne];intro z;exact h (by simp[z])
  rw[this];exact qM fs λz=>h (by simp only[zcj,zci];exact .inr z)
theorem yy{w:Wd}{ks:List Str}(ok:Ok K w H S)(h:Rep K w (.loc n) v)(e:S[n]? =some (some (.ins C ks ds))):
  ∃a i fs,v=.ref a/\w.r n=some a/\H a=some (.ins C i fs)/\fs.map (·.1)=ks/\aq K w ds (fs.map (·.2)):=by
 simp only[Rep] at h;obtain⟨a,h1,rfl⟩:=h;obtain⟨t,u,j,s,q,i,fs,rfl,m,l⟩:=ok.live n _ e;rw[h1] at j;cases j;exact⟨a,i,fs,rfl,h1,q,m,l⟩
def Kh(C:Addr)(a:AE)(f:Str):AE:=λl S Q=>a l S λr j=>∃n h i d,r=.dat (.loc n)/\j[n]? =some (some (.ins C h i))/\(h.zip i).lookup f=some d/\Q (.dat d) j
theorem dj{f:Str}(F:GE X e ta)(c:C4 X.K C)(nf:e8 X.K C f)(G:attributeBase e f X.env (eval e X.env)=eval e X.env:=by rfl):GE X (.Attribute e f pos) (Kh C ta f):=
 ⟨mE (L2.dj F.p G) λW H Q h=>by
  obtain⟨w,t,S,Qa,ok,env,q,bk⟩:=h;refine⟨w,t,S,_,ok,env,q,λr S1 v Y H1 s j i m=>?_⟩;obtain⟨n,Z,U,d,O,L,y,x⟩:=m;subst O;obtain⟨a,P,fs,rfl,_,I,E,hd⟩:=yy j i L;subst E;obtain⟨v,l,u⟩:=vp fs U hd y;exact⟨a,C,P,fs,v,rfl,I,c,nf,l,bk.dat s j u x⟩⟩
def K5(C:Addr)(a v:AE)(f:Str):AS:=λD i S=>v i S λy m=>a i m λr l=>∃n h j,r=.dat (.loc n)/\l[n]? =some (some (.ins C h j))/\h.length<1000/\D.nx i (l.set n (some (.ins C (putD f y.d h j).1 (putD f y.d h j).2)))
theorem n8{f:Str}{F:AE}(v:GE X o ta)(W:GE X value F)(c:C4 X.K C)(nf:e8 X.K C f)(Y:yat value (some (.Attribute o f pos2)) pos.line X.env=pure false:=by rfl):
  GS X (.Assign [.Attribute o f pos2] value pos) (K5 C ta F f):=
 ⟨mS (L2.n8 v.p W.p Y) λDx σ H h=>by
  obtain⟨w,E,S,Da,ok,env,q,bk⟩:=h;refine⟨w,E,S,_,ok,env,q,.go λy S1 v1 O H1 j u m P=>?_⟩;refine⟨O,E,S1,_,u,env.le j,P,λr S2 v2 L H2 i s l t=>?_⟩;obtain⟨n,ks,x,er,G,hl,q2⟩:=t;subst er;obtain⟨a,I,fs,rfl,Z,v,hk,hd⟩:=yy s l G;subst hk;obtain⟨U,Q⟩:=z9 (f:=f) (m.le i) fs x hd;refine⟨a,C,I,fs,rfl,v,c,nf,by simpa using hl,?_⟩;exact bk.nx _ _ _ L _ (j.trans i) (s.put G Z (o':=.ins C (putD f y.d (fs.map (·.1)) x).1 (putD f y.d (fs.map (·.1)) x).2) ⟨I,_,rfl,U,Q⟩) (env.le (j.trans i)) q2⟩
end
structure tY(K:yaI)(C:Addr)(m qual:Str)(ps:List Str)(st:Stmt):Prop where
 ex:∃f fd,Hg K m qual st f fd/\Meth K C m f/\Binds K fd ps []
structure iS(P:yaj)(w:yak)(K:yaI)(mg:Str->Option yai)(base:Heap)(k:Nat)(C:Addr)(m:Str)(ps:List Str)(sp:AN):Prop where
 ex:∃f fd,dS P w K mg base m5 k f fd ps (au K sp)/\Meth K C m f/\Binds K fd ps []
theorem okB{k:Nat}(F:Hg K x qual st f fd)(S:av N ps (ah st))(len:∀ds S Q,sp ds S Q->ds.length=ps.length)(l:∀(f:Addr)(i:yai)(A:yal)(outer:List Env)(s:yah)(H:Hp)(E:XK),aV k (A.deeper (PyProof.Rows.envOfC qual (ah st) s.heap.objs.size f i))->∃a,C2 (kj m5 P w K mg base N qual (ah st) f i A outer s H E).Ht (bE st) a/\∀ds S Q,sp ds S Q->a {nx:=λ_ n=>M.ret S n (.dat .bD) Q,rt:=λr n=>M.ret S n r Q} (aH N ds) S):dS P w K mg base m5 (k+1) f fd ps (au K sp):=
 F.ok S (λvs H Q E h=>by
  obtain⟨w,ds,S,t,ok,rep,q,bk⟩:=h;rw[rep.length];exact len ds S t q) λi A outer s H vs Q E y h=>by
  obtain⟨a,C,hd⟩:=l f i A outer s H E y;obtain⟨w,ds,S,t,ok,rep,q,bk⟩:=h;refine⟨_,C.p,w,aH N ds,S,_,ok,i7 rep,hd ds S t q,⟨λL n I u G le j env o=>?_,λr n v u G le j m o=>?_,λ_ _ _ _ _ _ _ _ z=>z.elim,λ_ _ _ _ _ _ _ _ z=>z.elim⟩⟩
  ·exact r9 (r:=.dat .bD) (v:=.bD) ok le j (show Rep K u .bD .bD from .bD) o bk
  ·exact r9 ok le j m o bk
section
variable {o:Expr}{es:List Expr}{k:Nat}{m:Str}
def Gq(C:Addr)(m:Str)(sp:AN)(a:AE)(t:AA):AE:=λh S Q=>a h S λr j=>∃n i l,r=.dat (.loc n)/\j[n]? =some (some (.ins C i l))/\m ∉ i/\t h j λes q=>sp (.loc n::es) q Q
theorem Mr{E:XK}{a:AE}{t:AA}:∀u H Q,aS K (Gq C m sp a t) u H Q->KH C m (au K sp) [] E (aS K a) (ko K t) u H Q:=by
 rintro u H Q ⟨w,F,S,Qa,ok,env,q,bk⟩;refine⟨w,F,S,_,ok,env,q,λr S1 v I H1 s j i x=>?_⟩;obtain⟨n,ks,ds,Y,X,P,L⟩:=x;subst Y;obtain⟨a,Z,fs,rfl,O,W,U,hd⟩:=yy j i X;subst U;refine⟨a,Z,fs,rfl,W,qM fs P,I,F,S1,_,j,env.le s,L,λes S2 vs G H2 l y h q2=>?_⟩;refine⟨G,.loc n::es,S2,Qa,y,?_,q2,bk.le (s.trans l)⟩;rw[zbL];exact .cons (by simp only[Rep];exact⟨a,l.r _ _ O,rfl⟩) h
theorem cP{pl:Sem Bool}{t:AA}(n:GE X o ta)(c:C4 X.K C)(D:iS X.prog X.w X.K X.mg X.base k C m ps sp)(j:aV k X.A)(s:GA X (e::es) t)(a:yao (e::es) X.env=(false,eval e X.env)::yao es X.env:=by rfl)(h:(yau pos (yao es X.env)).any (·.1)=false:=by rfl)(i:eval (.Call (.Attribute o m apos) (e::es) [] pos) X.env=(do
   let ov <-eval o X.env
   standAt apos.atName
   let(f,first) <-holding [ov] (yaC ov m pl)
   callWith pos f first (yau pos (yao (e::es) X.env)) (yaE pos (yaD [] X.env))):=by rfl):
  GE X (.Call (.Attribute o m apos) (e::es) [] pos) (Gq C m sp ta t):=by
 obtain⟨f,fd,F,l,q⟩:=D.ex;exact⟨mE (L2.cP n.p c l F j q .nil Ad s.p a h i) Mr⟩
def Lv(C:Addr)(sp:AN)(t:AA):AE:=λh S Q=>t h S λes a=>sp (.loc a.length::es) (a++[some (.ins C [] [])]) λr i=>r=.dat .bD/\Q (.dat (.loc a.length)) i
def OY:AS:=λ_ _ _=>False
theorem eU:GS X st OY:=⟨mS L2.eU λD a H h=>by obtain⟨_,_,_,_,_,_,z,_⟩:=h;exact z.elim⟩
end
end M
namespace Srt
open PySem PySem.W PyProof.Rows
structure Ord(α:Type) where
 lt:α->α->Bool
 Th:∀a,lt a a=false
 tr:∀a b c,lt a b=true->lt b c=true->lt a c=true
 nt:∀a b c,lt a c=true->lt a b=true∨lt b c=true
noncomputable def run{h:Type}(f:Nat->Nat->Bool):KasT h->h
 |.ret a=>a
 |.ask i j k=>run f (k (f i j))
theorem run_bind{h l:Type}{f:Nat->Nat->Bool}{g:h->KasT l}:∀t:KasT h,run f (t.bind g)=run f (g (run f t))
 |.ret a=>rfl
 |.ask i j k=>run_bind (k (f i j))
section
variable {α:Type}(O:Ord α)
def le(a b:α):Prop:=O.lt b a=false
variable {O}
theorem le_rfl(a:α):le O a a:=O.Th a
theorem Ar{a b:α}(h:O.lt a b=true):le O a b:=by
 unfold le;cases e:O.lt b a with
 |false=>rfl
 |true=>have:=O.tr _ _ _ h e;rw[O.Th] at this;cases this
theorem jk{a b c:α}(h:le O a b)(g:le O b c):le O a c:=by
 unfold le at*;cases e:O.lt c a with
 |false=>rfl
 |true=>
  rcases O.nt _ b _ e with z|z
  ·rw[g] at z;cases z
  ·rw[h] at z;cases z
theorem oO{a b:α}(h:¬O.lt a b=true):le O b a:=by unfold le;simpa using h
end
section
variable {α:Type}{O:Ord α}{k:Nat->α}{p:Array Nat}
noncomputable def val(k:Nat->α)(p:Array Nat)(i:Nat):α:=k (p.getD i 0)
variable (O k)
def Up(p:Array Nat)(m:Nat):Prop:=∀i j,i<=j->j<m->le O (val k p i) (val k p j)
def Down(p:Array Nat)(m:Nat):Prop:=∀i j,i<=j->j<m->le O (val k p j) (val k p i)
noncomputable abbrev ask(i j:Nat):Bool:=O.lt (k i) (k j)
variable {O k}
theorem HC(h:Up O k p n)(h1:1<=n)(g:le O (val k p (n - 1)) (val k p n)):Up O k p (n+1):=λi j a m=>by
 by_cases e:j<n
 ·exact h i j a e
 ·have:j=n:=by lia
  subst this;by_cases l:i=j
  ·subst l;exact le_rfl _
  ·exact jk (h i (j - 1) (by lia) (by lia)) g
theorem i8(h:Down O k p n)(h1:1<=n)(g:le O (val k p n) (val k p (n - 1))):Down O k p (n+1):=λi j a m=>by
 by_cases e:j<n
 ·exact h i j a e
 ·have:j=n:=by lia
  subst this;by_cases l:i=j
  ·subst l;exact le_rfl _
  ·exact jk g (h i (j - 1) (by lia) (by lia))
theorem y9:∀(f n:Nat),1<=n->Up O k p n->n<=run (ask O k) (kas_asc p f n)/\run (ask O k) (kas_asc p f n)<=n+f/\Up O k p (run (ask O k) (kas_asc p f n))
 |0,n,_,h=>⟨zcK _,zcK _,h⟩
 |f+1,n,h1,h=>by
  show n<=run _ (if O.lt (val k p n) (val k p (n - 1))=true then _ else _)/\_;by_cases e:O.lt (val k p n) (val k p (n - 1))=true
  ·have:run (ask O k) (kas_asc p (f+1) n)=n:=by
    show run _ (if O.lt (val k p n) (val k p (n - 1))=true then _ else _)=_;rw[yIp e];rfl
   rw[yIp e,this];exact⟨zcK _,by lia,h⟩
  ·have i:run (ask O k) (kas_asc p (f+1) n)=run (ask O k) (kas_asc p f (n+1)):=by
    show run _ (if O.lt (val k p n) (val k p (n - 1))=true then _ else _)=_;rw[yIn e]
   rw[yIn e,i];obtain⟨a,b,c⟩:=y9 f (n+1) (by lia) (HC h h1 (oO e));exact⟨by lia,by lia,c⟩
theorem j8{x:Nat}:p.getD x 0=(p[x]?).getD 0:=by
 by_cases h:x<p.size
 ·simp[zcQ,h]
 ·simp[zcQ,h,zap (Nat.le_of_not_lt h)]
theorem val_rev(a:j<=p.size)(x:Nat):val k (kas_rev p i j) x=if i<=x/\x<j then val k p (i+j - 1 - x) else val k p x:=by
 unfold val kas_rev;rw[j8,getElem?_mirror_all a];split<;>rw[j8]
theorem nV:(kas_rev p i j).size=p.size:=mirror_size _ _ _ _
theorem cY:(kas_rev p i j).Perm p:=mirror_perm _ _ _ _
def Flat(O:Ord α)(k:Nat->α)(p:Array Nat)(n q:Nat):Prop:=q+1<=n/\∀i j,n - (q+1)<=i->i<n->n - (q+1)<=j->j<n->le O (val k p i) (val k p j)
theorem vL{q:Nat}(m:n<=p.size)(h:Down O k p n)(f:Flat O k p n q):Down O k (kas_rev p (n - (q+1)) n) n:=λi j l o=>by
 obtain⟨t,s⟩:=f;rw[val_rev m,val_rev m];by_cases a:n - (q+1)<=j
 ·rw[yIp ⟨a,o⟩];by_cases b:n - (q+1)<=i
  ·rw[yIp ⟨b,by lia⟩];exact s _ _ (by lia) (by lia) (by lia) (by lia)
  ·rw[yIn (by lia)];exact h _ _ (by lia) (by lia)
 ·rw[yIn (by lia),yIn (by lia)];exact h _ _ l o
theorem FJ(h:1<=n):Flat O k p n 0:=⟨by lia,λi j a b c d=>by
 have:i=j:=by lia
 subst this;exact le_rfl _⟩
theorem nB:∀(f n q:Nat)(p:Array Nat),n+f<=p.size->Down O k p n->Flat O k p n q->
  ∃m l o,run (ask O k) (kas_desc f p n q)=(m,l,o)/\m.Perm p/\n<=l/\l<=n+f/\Down O k m l/\Flat O k m l o
 |0,n,q,p,hz,h,fl=>⟨p,n,q,rfl,Array.Perm.refl _,zcK _,zcK _,h,fl⟩
 |f+1,n,q,p,hz,h,fl=>by
  have h1:1<=n:=by have:=fl.1;lia
  have I:run (ask O k) (kas_desc (f+1) p n q)=run (ask O k) (if O.lt (val k p n) (val k p (n - 1))=true then(if q> 0 then kas_desc f (kas_rev p (n - (q+1)) n) (n+1) 0 else kas_desc f p (n+1) 0) else .ask (p.getD (n - 1) 0) (p.getD n 0) λd=>if d=true then .ret (p,n,q) else kas_desc f p (n+1) (q+1)):=rfl;rw[I];by_cases e:O.lt (val k p n) (val k p (n - 1))=true
  ·rw[yIp e];by_cases y:q> 0
   ·rw[yIp y];have hd:=vL (by lia) h fl;have H:val k (kas_rev p (n - (q+1)) n) n=val k p n:=by rw[val_rev (by lia),yIn (by lia)]
    have G:le O (val k (kas_rev p (n - (q+1)) n) n) (val k (kas_rev p (n - (q+1)) n) (n - 1)):=by
     have F:=fl.1;rw[H,val_rev (by lia),yIp (by lia)];exact jk (Ar e) (h _ _ (by lia) (by lia))
    obtain⟨m,l,o,a,b,c,d,t,s⟩:=nB f (n+1) 0 (kas_rev p (n - (q+1)) n) (by rw[nV];lia) (i8 hd h1 G) (FJ (by lia));exact⟨m,l,o,a,b.trans cY,by lia,by lia,t,s⟩
   ·rw[yIn y];obtain⟨m,l,o,a,b,c,d,t,s⟩:=nB f (n+1) 0 p (by lia) (i8 h h1 (Ar e)) (FJ (by lia));exact⟨m,l,o,a,b,by lia,by lia,t,s⟩
  ·rw[yIn e];show∃m l o,run _ (if O.lt (val k p (n - 1)) (val k p n)=true then _ else _)=_/\_;by_cases g:O.lt (val k p (n - 1)) (val k p n)=true
   ·rw[yIp g];exact⟨p,n,q,rfl,Array.Perm.refl _,zcK _,by lia,h,fl⟩
   ·rw[yIn g];have E:=oO e;have x:=oO g;have v:Flat O k p (n+1) (q+1):=⟨by have:=fl.1;lia,λi j a b c d=>by
     have F:=fl.1;by_cases C:i=n
     ·by_cases u:j=n
      ·rw[C,u];exact le_rfl _
      ·rw[C];exact jk x (fl.2 _ _ (by lia) (by lia) (by lia) (by lia))
     ·by_cases u:j=n
      ·rw[u];exact jk (fl.2 _ _ (by lia) (by lia) (by lia) (by lia)) E
      ·exact fl.2 _ _ (by lia) (by lia) (by lia) (by lia)⟩
    obtain⟨m,l,o,a,b,c,d,t,s⟩:=nB f (n+1) (q+1) p (by lia) (i8 h h1 x) v;exact⟨m,l,o,a,b,by lia,by lia,t,s⟩
theorem zu(h1:1<=n)(s:n<=m)(hz:m<=p.size)(h:Down O k p n):∃c l,run (ask O k) (kas_tail3 n m p)=(c,l)/\l.Perm p/\n<=c/\c<=m/\Up O k l c:=by
 unfold kas_tail3;rw[run_bind];have o:Up O k (kas_rev p 0 n) n:=λi j q t=>by
  rw[val_rev (by lia),val_rev (by lia),yIp (by lia),yIp (by lia)];exact h _ _ (by lia) (by lia)
 obtain⟨a,b,c⟩:=y9 (m - n) n h1 o;exact⟨_,_,rfl,cY,a,by lia,c⟩
theorem mz(h1:1<=n)(E:n+1<=m)(hz:m<=p.size)(h:Down O k p n)(g:le O (val k p n) (val k p (n - 1))):∃c i,run (ask O k) (kas_descPart n m p)=(c,i)/\i.Perm p/\1<=c/\c<=m/\Up O k i c:=by
 unfold kas_descPart;rw[run_bind];obtain⟨i,y,v,a,b,c,d,e,f⟩:=nB (m - (n+1)) (n+1) 0 p (by lia) (i8 h h1 g) (FJ (by lia));have C:i.size=p.size:=b.size_eq;rw[a];dsimp only;by_cases u:v> 0
 ·rw[yIp u];obtain⟨q,j,t,s,x,o,l⟩:=zu (m:=m) (by lia) (by lia) (by rw[nV];lia) (vL (by lia) e f);exact⟨q,j,t,s.trans (cY.trans b),by lia,o,l⟩
 ·rw[yIn u];obtain⟨q,j,t,s,x,o,l⟩:=zu (m:=m) (by lia) (by lia) (by lia) e;exact⟨q,j,t,s.trans b,by lia,o,l⟩
theorem F1(Q:1<=m)(hz:m<=p.size):∃c q,run (ask O k) (kas_count m p)=(c,q)/\q.Perm p/\1<=c/\c<=m/\Up O k q c:=by
 unfold kas_count;rw[run_bind];have L:Up O k p 1:=λi j o s=>by
  have:i=j:=by lia
  subst this;exact le_rfl _
 obtain⟨a,b,c⟩:=y9 (m - 1) 1 (zcK _) L;have stop:run (ask O k) (kas_asc p (m - 1) 1)<m->O.lt (val k p (run (ask O k) (kas_asc p (m - 1) 1))) (val k p (run (ask O k) (kas_asc p (m - 1) 1) - 1))=true:=by
  have:∀(f n:Nat),run (ask O k) (kas_asc p f n)<n+f->O.lt (val k p (run (ask O k) (kas_asc p f n))) (val k p (run (ask O k) (kas_asc p f n) - 1))=true:=by
   intro f
   induction f with
   |zero=>intro n h;exact absurd h (zcn _)
   |succ f ih=>
    intro n h;by_cases e:O.lt (val k p n) (val k p (n - 1))=true
    ·have l:run (ask O k) (kas_asc p (f+1) n)=n:=by
      show run _ (if O.lt (val k p n) (val k p (n - 1))=true then _ else _)=_;rw[yIp e];rfl
     rw[l];exact e
    ·have l:run (ask O k) (kas_asc p (f+1) n)=run (ask O k) (kas_asc p f (n+1)):=by
      show run _ (if O.lt (val k p n) (val k p (n - 1))=true then _ else _)=_;rw[yIn e]
     rw[l] at h⊢;exact ih (n+1) (by lia)
  intro h;exact this (m - 1) 1 (by lia)
 generalize run (ask O k) (kas_asc p (m - 1) 1)=n at a b c stop;by_cases y:(n==m)=true
 ·rw[yIp y];exact⟨n,p,rfl,Array.Perm.refl _,a,by lia,c⟩
 ·rw[yIn y];have P:n≠m:=λz=>y (by rw[z];exact beq_self_eq_true _);have I:=Ar (stop (by lia));by_cases l:n> 1
  ·rw[yIp l];show∃c q,run _ (if O.lt (val k p 0) (val k p (n - 1))=true then _ else _)=_/\_;by_cases x:O.lt (val k p 0) (val k p (n - 1))=true
   ·rw[yIp x];exact⟨n,p,rfl,Array.Perm.refl _,a,by lia,c⟩
   ·rw[yIn x];have all:∀i j,i<n->j<n->le O (val k p i) (val k p j):=λi j S s=>jk (c i (n - 1) (by lia) (by lia)) (jk (oO x) (c 0 j (by lia) s));have hd:Down O k (kas_rev p 0 n) n:=λi j o s=>by
     rw[val_rev (by lia),val_rev (by lia),yIp (by lia),yIp (by lia)];exact all _ _ (by lia) (by lia)
    obtain⟨F,t,H,G,E,C,v⟩:=mz (m:=m) a (by lia) (by rw[nV];lia) hd (by
     rw[val_rev (by lia),val_rev (by lia),yIn (by lia),yIp (by lia)];exact jk I (all _ _ (by lia) (by lia)))
    exact⟨F,t,H,G.trans cY,E,C,v⟩
  ·rw[yIn l];have u:n=1:=by lia
   subst u;obtain⟨F,t,H,G,E,C,v⟩:=mz (m:=m) (k:=k) (O:=O) (p:=p) (n:=1) (by lia) (by lia) hz (λi j o s=>by
    have:i=j:=by lia
    subst this;exact le_rfl _) I
   exact⟨F,t,H,G,E,C,v⟩
theorem oi{j:Nat}:∀(f l r:Nat),r<=l+f->l<=r->r<=j->(∀i,i<l->le O (val k p i) (val k p j))->(∀i,r<=i->i<j->le O (val k p j) (val k p i))->Up O k p j->
  ∃x,run (ask O k) (kas_place p j f l r)=x/\x<=j/\(∀i,i<x->le O (val k p i) (val k p j))/\∀i,x<=i->i<j->le O (val k p j) (val k p i)
 |0,l,r,h,hlr,hr,a,b,u=>by
  have:l=r:=by lia
  subst this;exact⟨l,rfl,hr,a,b⟩
 |f+1,l,r,h,hlr,hr,a,b,u=>by
  show∃x,run _ (if l≥r then _ else _)=x/\_;by_cases e:l≥r
  ·rw[yIp e];have:l=r:=by lia
   subst this;exact⟨l,rfl,hr,a,b⟩
  ·rw[yIn e];show∃x,run _ (if O.lt (val k p j) (val k p ((l+r) / 2))=true then _ else _)=x/\_;by_cases g:O.lt (val k p j) (val k p ((l+r) / 2))=true
   ·rw[yIp g];exact oi f l ((l+r) / 2) (by lia) (by lia) (by lia) a (λi h1 h2=>jk (Ar g) (u _ _ h1 h2)) u
   ·rw[yIn g];exact oi f ((l+r) / 2+1) r (by lia) (by lia) hr (λi h1=>jk (u _ _ (show i<=(l+r) / 2 by lia) (by lia)) (oO g)) b u
theorem zq{d:Nat}(a:j<p.size)(hd:d<=j)(x:Nat):val k (bubble p j d) x=if x=j - d then val k p j else if j - d<x/\x<=j then val k p (x - 1) else val k p x:=by
 have h1:∀y,val k p y=k ((p[y]?).getD 0):=λy=>by unfold val;rw[j8]
 rw[h1 j,h1 (x - 1),h1 x];unfold val;rw[j8,getElem?_bubble a d hd];split
 ·rfl
 ·split<;>rfl
theorem F9:∀(f j:Nat)(p:Array Nat),1<=j->j+f=p.size->Up O k p j->∃l,run (ask O k) (kas_bin f p j)=l/\l.Perm p/\Up O k l p.size
 |0,j,p,h1,h,u=>⟨p,rfl,Array.Perm.refl _,by rw[<-h];exact u⟩
 |f+1,j,p,h1,h,u=>by
  show∃l,run _ ((kas_place p j j 0 j).bind _)=l/\_;rw[run_bind];obtain⟨x,ex,y,a,b⟩:=oi (p:=p) (j:=j) j 0 j (by lia) (by lia) (zcK _) (λi z=>by lia) (λi h1 h2=>by lia) u;rw[ex];have n:Up O k (bubble p j (j - x)) (j+1):=λi v o q=>by
   rw[zq (by lia) (by lia),zq (by lia) (by lia)]
   repeat' split
   all_goals first|exact le_rfl _|(exact u _ _ (by lia) (by lia))|(exact a _ (by lia))|(exact b _ (by lia) (by lia))|(exfalso;lia)
  obtain⟨l,t,s,m⟩:=F9 f (j+1) (bubble p j (j - x)) (by lia) (by rw[bubble_size];lia) n;exact⟨l,t,s.trans (bubble_perm _ _ _),by rw[bubble_size] at m;exact m⟩
theorem HN(m:1<=n):∃p:Array Nat,run (ask O k) (kas_sort n)=p/\p.Perm (List.toArray (zcO n))/\Up O k p n:=by
 unfold kas_sort;rw[run_bind];have hz:(List.toArray (zcO n)).size=n:=by simp
 obtain⟨c,h,a,b,t,v,u⟩:=F1 (O:=O) (k:=k) (p:=List.toArray (zcO n)) m (by lia);rw[a];dsimp only;have l:h.size=n:=by rw[b.size_eq,hz]
 by_cases e:c<n
 ·rw[yIp e];have o:max c 1=c:=by lia
  rw[o];obtain⟨j,s,q,i⟩:=F9 (n - c) c h t (by lia) u;exact⟨j,s,q.trans b,by rw[l] at i;exact i⟩
 ·rw[yIn e];have:c=n:=by lia
  subst this;exact⟨h,rfl,b,u⟩
end
end Srt
namespace M5
open PySem PySem.Spec PyProof.Rows
theorem vv(t:SetTable)(es:Array (Int×yai))(h:Int)(x:yai):(layNew t es h x).2.1.led=t.led/\((layNew t es h x).2.1.plain=true->t.plain=true):=by
 unfold layNew;split
 ·unfold SetTable.orStandIn;dsimp only;split
  ·exact⟨rfl,λz=>z⟩
  ·exact⟨rfl,λz=>by cases z⟩
 ·exact⟨rfl,λz=>by cases z⟩
theorem l7{t':SetTable}{a:Array Int}{o:Array Nat}(h:t.relaid a n=some (t',o)):t'.led=t.led/\t'.plain=t.plain:=by
 unfold SetTable.relaid SetTable.laid at h;cases i:SetTable.layClean (SetTable.sizeAbove n - 1) a with
 |none=>rw[i] at h;cases h
 |some ow=>
  rw[i] at h;have h:some _=some _:=h;injection h with h;injection h with h1 h2;subst h1;exact⟨rfl,rfl⟩
theorem pX(t:SetTable)(es:Array (Int×yai))(n:Nat):(relayAll t es n).2.1.led=t.led/\((relayAll t es n).2.1.plain=true->t.plain=true):=by
 unfold relayAll;split
 ·rename_i i a h;dsimp only;split
  ·exact⟨(l7 h).1,λz=>by rw[<-(l7 h).2];exact z⟩
  ·exact⟨rfl,λz=>by cases z⟩
 ·exact⟨rfl,λz=>by cases z⟩
theorem jH(i:Array (Int×yai))(t':SetTable)(j:h.get? a=some o)(hd:o.data=.set es ep t):
  (h.update a (Obj.putSet i t')).get? a=some {o with data:=.set i (ep+1) t'}:=by
 have e:=zax (Obj.putSet i t') j;rw[putSet_of i t' hd] at e;exact e rfl
namespace F
theorem sub_tuple_set:isSubtype (.type "tuple") (.type "set")=pure false:=by rw[isSubtype_type];kernel_rfl
theorem sub_tuple_frozenset:isSubtype (.type "tuple") (.type "frozenset")=pure false:=by rw[isSubtype_type];kernel_rfl
end F
noncomputable def bh(led:Bool):Obj:={cls:=.type "set",dict:=none,data:=.set #[] 0 (.fresh 0 0 led)}
theorem HS(a:yai){Q₁:yai->yah->Prop}(h:Q₁ (.ref s.heap.objs.size) {s with heap:=s.heap.push (bh (!w.params.followText "set-order"))}):
  codeAny (model prog w) A (.call (.builtin "set.__new__") ⟨[.type "set",a],[]⟩) (wants Q₁ E) s:=by
 refine codeAny_of_tree ?_;show yar _ A.in1 (do checkBuiltinCall "set.__new__" ⟨[.type "set",a],[]⟩;again (.builtin "set.__new__" ⟨[.type "set",a],[]⟩)) _ _ s;refine yaa (wpAny_of_eq (PySem.F.newCall_set_1 a) (yab ⟨plainId_quiet PySem.F.plain_set_new _,codeAny_builtin PySem.F.entry_set_new ?_⟩));rw[Around.under_plainId PySem.F.plain_set_new _];unfold Builtin.«set.__new__» Builtin.Frozenset.newClass;have i:=sub_set_self;obtain⟨j,g,d,tk,os⟩:=s;dsimp only
 wp_walk
 refine wpAny_askSetting (yab ?_);dsimp only;simp only[newObj];refine yaa (wpAny_alloc (yab ?_));exact yab h
end M5
namespace M5
open PySem PySem.Spec PyProof.Rows
namespace F
theorem uZ:Manifest.owners.lookup (String.ofList ['r','o','t','a','r','e','t','i','_','t','e','s'].reverse)=some Manifest.sig_set_iterator:=by kernel_rfl
theorem IL:Manifest.owners.lookup (String.ofList ['t','e','s'].reverse)=some Manifest.sig_set:=by kernel_rfl
theorem slot_next:Slot "set_iterator" "__next__" "set_iterator.__next__":=
 .of (owner:="set_iterator") (n:="__next__") (by rw[typeLookup_type,builtinLookup_eq_fast];kernel_rfl) (by decide+kernel) (by decide+kernel) (by decide+kernel)
  (by first|exact .inl (by decide+kernel)|exact .inr (by decide+kernel)) (by rw[isSubtype_type];kernel_rfl)
theorem entry_next:entryFor table "set_iterator.__next__"=some Builtin.«set_iterator.__next__»:=entryFor_of_tree (by kernel_rfl)
theorem args_next(a:yai):argsOk "set_iterator.__next__" ⟨[a],[]⟩:=by
 unfold argsOk;rw[signature?_of (id:="set_iterator.__next__") (n:=['_','_','t','x','e','n','_','_']) (o:=['r','o','t','a','r','e','t','i','_','t','e','s']) (by kernel_rfl) uZ];kernel_rfl
theorem qq:Slot "set_iterator" "__iter__" "set_iterator.__iter__":=
 .of (owner:="set_iterator") (n:="__iter__") (by rw[typeLookup_type,builtinLookup_eq_fast];kernel_rfl) (by decide+kernel) (by decide+kernel) (by decide+kernel)
  (by first|exact .inl (by decide+kernel)|exact .inr (by decide+kernel)) (by rw[isSubtype_type];kernel_rfl)
theorem CD(a:yai):argsOk "set_iterator.__iter__" ⟨[a],[]⟩:=by
 unfold argsOk;rw[signature?_of (id:="set_iterator.__iter__") (n:=['_','_','r','e','t','i','_','_']) (o:=['r','o','t','a','r','e','t','i','_','t','e','s']) (by kernel_rfl) uZ];kernel_rfl
theorem yL:entryFor table "set_iterator.__iter__"=some Builtin.«dict_keyiterator.__iter__»:=
 entryFor_alias (id':="dict_keyiterator.__iter__") (by kernel_rfl) (by first|rfl|decide+kernel|(unfold String.splitOn;simp+decide [String.splitOnAux])) (by decide+kernel) (by kernel_rfl)
theorem nR:Slot "set" "__iter__" "set.__iter__":=
 .of (owner:="set") (n:="__iter__") (by rw[typeLookup_type,builtinLookup_eq_fast];kernel_rfl) (by decide+kernel) (by decide+kernel) (by decide+kernel)
  (by first|exact .inl (by decide+kernel)|exact .inr (by decide+kernel)) (by rw[isSubtype_type];kernel_rfl)
theorem za(a:yai):argsOk "set.__iter__" ⟨[a],[]⟩:=by
 unfold argsOk;rw[signature?_of (id:="set.__iter__") (n:=['_','_','r','e','t','i','_','_']) (o:=['t','e','s']) (by kernel_rfl) IL];kernel_rfl
theorem vI:entryFor table "set.__iter__"=some Builtin.«frozenset.__iter__»:=
 entryFor_alias (id':="frozenset.__iter__") (by kernel_rfl) (by first|rfl|decide+kernel|(unfold String.splitOn;simp+decide [String.splitOnAux])) (by decide+kernel) (by kernel_rfl)
end F
noncomputable def Pp(first:yai)(i:Nat)(a:Addr)(n ep:Nat):Obj:={cls:=.type "set_iterator",data:=.fields #[first,rawInt i,.ref a,rawInt n,rawInt ep]}
def jh(h:Heap)(I:Addr)(first:yai)(i:Nat)(a:Addr)(n ep:Nat):Prop:=∃o,h.get? I=some o/\o.cls=.type "set_iterator"/\o.data=.fields #[first,rawInt i,.ref a,rawInt n,rawInt ep]
def wX(h:Heap)(a:Addr)(es:Array (Int×yai))(ep:Nat)(t:SetTable):Prop:=∃o,h.get? a=some o/\o.cls=.type "set"/\o.data=.set es ep t
theorem jh.at{f:yai}(x:jh h I f i a n ep)(e:∀o,h.get? I=some o->h'.get? I=some o):jh h' I f i a n ep:=by obtain⟨o,j,r⟩:=x;exact⟨o,e _ j,r⟩
theorem wX.at(x:wX h a es ep t)(e:∀o,h.get? a=some o->h'.get? a=some o):wX h' a es ep t:=by obtain⟨o,i,r⟩:=x;exact⟨o,e _ i,r⟩
theorem jh.typeIs{f:yai}(x:jh s.heap I f i a n ep):s.TypeIs (.ref I) "set_iterator":=by obtain⟨o,h,j,_⟩:=x;exact⟨o,h,j⟩
theorem wX.typeIs(x:wX s.heap a es ep t):s.TypeIs (.ref a) "set":=by obtain⟨o,h,i,_⟩:=x;exact⟨o,h,i⟩
theorem zb{src:Source}{Q:Nat->yah->Prop}(a:n≠0)(h:∀i d,i<n->Q i {s with drawn:=d}):yar (model prog w) A (choose src n) Q E s:=by
 intro l p j;show Sem.wp _ _ (.choose src n .pure) _ _ _ _;rw[Sem.wp_choose];exact⟨a,h _ _ (zcP _ (Nat.pos_of_ne_zero a))⟩
theorem jB{α:Type}:∀{l:List α}{i:Nat}(h:i<l.length),(l[i]::l.eraseIdx i).Perm l
 |x::r,0,h=>.refl _
 |x::r,i+1,h=>by
  have a:i<r.length:=Nat.lt_of_succ_lt_succ h;show(r[i]::x::r.eraseIdx i).Perm (x::r);exact(List.Perm.swap ..).trans ((jB (Nat.lt_of_succ_lt_succ h)).cons x)
theorem we{α:Type}:∀(n:Nat)(a:List α){s:yah}{Q:List α->yah->Prop},a.length=n->(∀j d,j.Perm a->Q j {s with drawn:=d})->yar (model prog w) A (drawOrder n a) Q E s
 |0,a,s,Q,hl,h=>by
  obtain rfl:a=[]:=zaa hl;unfold drawOrder;exact yab (h [] s.drawn .nil)
 |n+1,[],s,Q,hl,h=>by cases hl
 |n+1,x::r,s,Q,hl,h=>by
  unfold drawOrder;refine yaa (zb (by simp) λi d l=>?_);rw[zak l];dsimp only;refine yaa (we n _ ?_ λj o m=>?_)
  ·rw[List.length_eraseIdx,yIp l,hl];rfl
  ·refine yab (h _ o ((m.cons _).trans ?_));exact jB l
theorem Ab{α:Type}(next:Nat->Nat):∀(n k:Nat)(left:List α)(out:Array α),left.length=n->(pickOrder.go next n k left out).toList.Perm (out.toList++left)
 |0,k,left,out,h=>by
  obtain rfl:left=[]:=zaa h;unfold pickOrder.go;simp
 |n+1,k,left,out,h=>by
  unfold pickOrder.go;have a:next k % left.length<left.length:=zcP _ (by lia)
  rw[zak a];dsimp only;refine(Ab next n (k+1) _ _ ?_).trans ?_
  ·rw[List.length_eraseIdx,yIp a,h];rfl
  ·rw[zbl,zbc];exact(jB a).append_left _
theorem qC{α:Type}(next:Nat->Nat)(a:Array α):(pickOrder next a).toList.Perm a.toList:=by
 unfold pickOrder;have:=Ab next a.size 0 a.toList #[] zaJ
 simpa using this
end M5
namespace M5
open PySem PySem.Spec PyProof.Rows
theorem next_item{sl nx:Nat}{x:yai}{Q:Option yai->yah->Prop}(h:jh s.heap I (rawInt sl) i a n ep)(O:wX s.heap a es ep t)(G:t.fits es.size=true)(C:es.size=n)(y:∀{A':yal}{v:Option (yai×Nat)->yah->Prop}{S:yai->yah->Prop},v (some (x,nx)) s->yar (model prog w) A' (setNext a sl i ep) v S s)(P:∀h',jh h' I (rawInt nx) (i+1) a n ep->Heap.SameBut I s.heap h'->Q (some x) {s with heap:=h'}):yar (model prog w) A (pyNext (.ref I)) Q E s:=by
 obtain⟨o,q,L,hd⟩:=id h;obtain⟨os,m,H,u⟩:=id O;unfold pyNext;refine yaa (wpAny_attempt (wpAny_callSpecial?_slot (name:=Str.ofString "__next__") h.typeIs F.slot_next (wpAny_call_entry F.slot_next h.typeIs F.entry_next ?_ (F.args_next _))));unfold Builtin.«set_iterator.__next__»;refine yaa (wpAny_of_eq (a:=(Value.ref I,[])) rfl ?_);refine yaa (wpAny_fieldsOf q hd ?_);dsimp only[rawInt];refine yaa (wpAny_setEntries_of m u G ?_);rw[yIn (by rw[C];simp)];refine yaa (y ?_);dsimp only;refine yaa (wpAny_setField q hd (by simp) ?_);have l:=zax (Obj.mapFields (·.setIfInBounds 0 (rawInt nx))) q (Obj.isFreed_of_fields (Obj.data_mapFields hd _));have j:=Obj.data_mapFields hd (·.setIfInBounds 0 (rawInt nx));refine yaa (wpAny_setField l j (by simp) ?_);refine yab ⟨x,rfl,yab (P _ ?_ ((Heap.SameBut.update ..).trans (Heap.SameBut.update ..)))⟩;exact⟨_,zax _ l (Obj.isFreed_of_fields (Obj.data_mapFields j _)),(Obj.cls_mapFields ..).trans ((Obj.cls_mapFields ..).trans L),by
  rw[Obj.data_mapFields j];simp[rawInt]⟩
theorem next_end{sl:Nat}{Q:Option yai->yah->Prop}(u:A.handled=none)(h:jh s.heap I (rawInt sl) i a n ep)(L:wX s.heap a es ep t)(C:t.fits es.size=true)(y:es.size=n)(x:∀{A':yal}{v:Option (yai×Nat)->yah->Prop}{P:yai->yah->Prop},v none s->yar (model prog w) A' (setNext a sl i ep) v P s)(O:∀h',Heap.ExtBut I s.heap h'->Q none {s with heap:=h'}):yar (model prog w) A (pyNext (.ref I)) Q E s:=by
 obtain⟨o,q,U,hd⟩:=id h;obtain⟨os,j,G,l⟩:=id L;unfold pyNext;refine yaa (wpAny_attempt (wpAny_callSpecial?_slot (name:=Str.ofString "__next__") h.typeIs F.slot_next (wpAny_call_entry F.slot_next h.typeIs F.entry_next ?_ (F.args_next _))));unfold Builtin.«set_iterator.__next__»;refine yaa (wpAny_of_eq (a:=(Value.ref I,[])) rfl ?_);refine yaa (wpAny_fieldsOf q hd ?_);dsimp only[rawInt];refine yaa (wpAny_setEntries_of j l C ?_);rw[yIn (by rw[y];simp)];refine yaa (x ?_);dsimp only;refine yaa (wpAny_setField q hd (by simp) ?_);refine yaa ?_;simp only[newExc,newTuple];refine yaa (yae ?_ (by size_fits));refine yaa (m:=firstArgMember _ _) (wpAny_of_eq (a:=Value.none) (by first|rfl|(simp only[firstArgMember];rfl)) ?_);refine yae ?_ (by size_fits);simp only[raiseNew];refine yaa (wpAny_handled ?_)
 first|rw[show A.in1.handled=none from u]|rw[u]
 refine yaa (yab (wpAny_throw ?_));refine yaa (wpAny_isInstance (T:="StopIteration") (b:=true) ⟨_,zaK _ rfl,rfl⟩ isSubtype_stop ?_);refine yab (O _ (Heap.ExtBut.push (Heap.ExtBut.push ?_ _) _));exact λb S H e=>(zar _ _ (Ne.symm H)).trans e
theorem yl{T:Addr}{pl:Nat}{tk:Tok}{ps:Array yai}{y:Int}{x:yai}{Q:Option yai->yah->Prop}(h:jh s.heap I (.ref T) i a n ep)(U:wX s.heap a es ep t)(v:t.fits es.size=true)(G:es.size=n)(S:s.heap.IsTuple T ps)(C:ps[i]? =some (.int pl tk))(H:es[pl]? =some (y,x))(W:∀h',jh h' I (.ref T) (i+1) a n ep->Heap.SameBut I s.heap h'->Q (some x) {s with heap:=h'}):yar (model prog w) A (pyNext (.ref I)) Q E s:=by
 obtain⟨o,q,P,hd⟩:=id h;obtain⟨os,j,O,l⟩:=id U;obtain⟨X,m,L,nt,u⟩:=id S;unfold pyNext;refine yaa (wpAny_attempt (wpAny_callSpecial?_slot (name:=Str.ofString "__next__") h.typeIs F.slot_next (wpAny_call_entry F.slot_next h.typeIs F.entry_next ?_ (F.args_next _))));unfold Builtin.«set_iterator.__next__»;refine yaa (wpAny_of_eq (a:=(Value.ref I,[])) rfl ?_);refine yaa (wpAny_fieldsOf q hd ?_);dsimp only[rawInt];refine yaa (wpAny_setEntries_of j l v ?_);rw[yIn (by rw[G];simp)];refine yaa (wpAny_seqItems m u ?_);dsimp only;rw[zbk,C];dsimp only;refine yaa ?_;unfold setNextDrawn;refine yaa (wpAny_setState_of j l v ?_);dsimp only;rw[yIn (by simp),zbk,H];dsimp only;refine yab ?_;refine yaa (wpAny_setField q hd (by simp) ?_);refine yab ⟨x,rfl,yab (W _ ?_ (Heap.SameBut.update ..))⟩;exact⟨_,zax _ q (Obj.isFreed_of_fields (Obj.data_mapFields hd _)),(Obj.cls_mapFields ..).trans P,by
  rw[Obj.data_mapFields hd];simp[rawInt]⟩
theorem B3{T:Addr}{ps:Array yai}{Q:Option yai->yah->Prop}(y:A.handled=none)(h:jh s.heap I (.ref T) i a n ep)(U:wX s.heap a es ep t)(L:t.fits es.size=true)(H:es.size=n)(S:s.heap.IsTuple T ps)(G:ps[i]? =none)(W:∀h',Heap.ExtBut I s.heap h'->Q none {s with heap:=h'}):yar (model prog w) A (pyNext (.ref I)) Q E s:=by
 obtain⟨o,u,Z,hd⟩:=id h;obtain⟨os,l,P,x⟩:=id U;obtain⟨X,j,O,nt,v⟩:=id S;unfold pyNext;refine yaa (wpAny_attempt (wpAny_callSpecial?_slot (name:=Str.ofString "__next__") h.typeIs F.slot_next (wpAny_call_entry F.slot_next h.typeIs F.entry_next ?_ (F.args_next _))));unfold Builtin.«set_iterator.__next__»;refine yaa (wpAny_of_eq (a:=(Value.ref I,[])) rfl ?_);refine yaa (wpAny_fieldsOf u hd ?_);dsimp only[rawInt];refine yaa (wpAny_setEntries_of l x L ?_);rw[yIn (by rw[H];simp)];refine yaa (wpAny_seqItems j v ?_);dsimp only;rw[zbk,G];dsimp only;refine yaa (wpAny_setField u hd (by simp) ?_);have q:=zax (Obj.mapFields (·.setIfInBounds 0 (rawInt 0))) u (Obj.isFreed_of_fields (Obj.data_mapFields hd _));refine yaa (wpAny_setField q (Obj.data_mapFields hd _) (by simp) ?_);refine yaa ?_;simp only[newExc,newTuple];refine yaa (yae ?_ (by size_fits));refine yaa (m:=firstArgMember _ _) (wpAny_of_eq (a:=Value.none) (by first|rfl|(simp only[firstArgMember];rfl)) ?_);refine yae ?_ (by size_fits);simp only[raiseNew];refine yaa (wpAny_handled ?_)
 first|rw[show A.in1.handled=none from y]|rw[y]
 refine yaa (yab (wpAny_throw ?_));refine yaa (wpAny_isInstance (T:="StopIteration") (b:=true) ⟨_,zaK _ rfl,rfl⟩ isSubtype_stop ?_);refine yab (W _ (Heap.ExtBut.push (Heap.ExtBut.push ?_ _) _));exact λb Y C e=>(zar _ _ (Ne.symm C)).trans ((zar _ _ (Ne.symm C)).trans e)
theorem Aw{f:yai}(j:jh s.heap I f i a n ep)(h:Q (.ref I) s):yar (model prog w) A (pyIter (.ref I)) Q E s:=by
 refine wpAny_pyIter_slot j.typeIs F.qq (wpAny_call_entry F.qq j.typeIs F.yL ?_ (F.CD _));show yar _ _ (ret (.ref I)) _ _ s;exact yab ⟨_,rfl,"set_iterator",_,j.typeIs,F.slot_next.lookup,h⟩
theorem Dg{j:List yai}{sl:Nat->Nat}(X:A.handled=none)(y:a≠I)(S:t.fits es.size=true)(O:j.length=es.size)(U:∀i x,j[i]? =some x->∀{A':yal}{s':yah}{u:Option (yai×Nat)->yah->Prop}{H:yai->yah->Prop},wX s'.heap a es ep t->u (some (x,sl (i+1))) s'->yar (model prog w) A' (setNext a (sl i) i ep) u H s')(Y:∀{A':yal}{s':yah}{u:Option (yai×Nat)->yah->Prop}{H:yai->yah->Prop},wX s'.heap a es ep t->u none s'->yar (model prog w) A' (setNext a (sl j.length) j.length ep) u H s'):
  Walks prog w A I [I,a] [I] j.length (λi v=>j[i]? =some v) (λi h=>jh h I (rawInt (sl i)) i a es.size ep/\wX h a es ep t) where
 sub:=λb l=>by simp at l;simp[l]
 frame:=λ_ _ _ x P=>⟨x.1.at λo e=>P I (by simp) o e,x.2.at λo e=>P a (by simp) o e⟩
 item:=λi s Q E W x q=>by
  have L:j[i]? =some j[i]:=zak W;refine next_item x.1 x.2 S rfl (U i _ L x.2) λF n m=>?_;exact q _ F s.toks L ⟨n,x.2.at λo e=>(m.2 a y).trans e⟩ λb o l G=>m.extBut b o (λz=>l (by simp[z])) G
 done:=λs Q E x q=>next_end X x.1 x.2 S rfl (Y x.2) λF C=>q F s.toks λb o l G=>C b o (λz=>l (by simp[z])) G
 self:=λ_ _ _ _ x q=>Aw x.1 q
theorem LI{T:Addr}{ps:List Nat}{j:List yai}(W:A.handled=none)(C:a≠I)(X:T≠I)(O:t.fits es.size=true)(U:j.length=ps.length)(S:∀i (h:i<ps.length)(h2:i<j.length),∃k,es[ps[i]]? =some (k,j[i])):
  Walks prog w A I [I,a,T] [I] j.length (λi v=>j[i]? =some v) (λi h=>jh h I (.ref T) i a es.size ep/\wX h a es ep t/\h.IsTuple T (ps.map λ(i:Nat)=>rawInt i).toArray) where
 sub:=λb m=>by simp at m;simp[m]
 frame:=λ_ _ _ x n=>⟨x.1.at λo e=>n I (by simp) o e,x.2.1.at λo e=>n a (by simp) o e,x.2.2.at λo e=>n T (by simp) o e⟩
 item:=λi s Q E L x y=>by
  have P:j[i]? =some j[i]:=zak L;have u:i<ps.length:=by lia
  obtain⟨k,n⟩:=S i u L;refine yl (pl:=ps[i]) (tk:=0) x.1 x.2.1 O rfl x.2.2 (by simp[u,rawInt]) n λG q l=>?_;exact y _ G s.toks P ⟨q,x.2.1.at λo e=>(l.2 a C).trans e,x.2.2.at λo e=>(l.2 T X).trans e⟩ λb o m H=>l.extBut b o (λz=>m (by simp[z])) H
 done:=λs Q E x y=>B3 W x.1 x.2.1 O rfl x.2.2 (by simp[U]) λG F=>y G s.toks λb o m H=>F b o (λz=>m (by simp[z])) H
 self:=λ_ _ _ _ x y=>Aw x.1 y
theorem gz{Q:Bool->yah->Prop}(h:Q (w.params.followText "set-order") s):yar (model prog w) A setsByText Q E s:=by
 unfold setsByText;exact yaa (wpAny_askSetting (yab h))
theorem Le{Q:Option (yai×Nat)->yah->Prop}(m:w.params.followText "set-order"=true)(n:wX s.heap a es ep t)(l:t.fits es.size=true)(h:Q (((pickOrder (w.params.setOrder a ep) es)[i]?).map λe=>(e.2,0)) s):yar (model prog w) A (setNext a 0 i ep) Q E s:=by
 obtain⟨o,j,q,hd⟩:=n;unfold setNext;refine yaa (wpAny_setState_of j hd l ?_);dsimp only;refine yaa (gz ?_);rw[yIp m];rw[yIn (by simp)];refine yaa ?_;unfold setWalk;refine yaa (wpAny_setState_of j hd l ?_);dsimp only;refine yaa (gz ?_);rw[yIp m];refine yaa (wpAny_askSetting (yab ?_));exact yab h
theorem pull{α:Type}(es:Array α)(ps:List Nat)(h:ps.Perm (zcO es.size)):∃l:List α,l.length=ps.length/\l.Perm es.toList/\∀i (h:i<ps.length)(h2:i<l.length),es[ps[i]]? =some l[i]:=by
 have all:∀p∈ps,p<es.size:=λp j=>zcb.mp (h.mem_iff.mp j);have key:∀a:List Nat,(∀p∈a,p<es.size)->∃l:List α,l.length=a.length/\l=a.filterMap (λi=>es[i]?)/\∀i (h:i<a.length)(h2:i<l.length),es[a[i]]? =some l[i]:=by
  intro a
  induction a with
  |nil=>exact λ_=>⟨[],rfl,rfl,λi h=>by simp at h⟩
  |cons q r ih=>
   intro t;obtain⟨l,o,n,m⟩:=ih λp j=>t p (zay _ j);have s:=t q zaL;refine⟨es[q]::l,by simp[o],by rw[zaD,zai s,n],λi h h2=>?_⟩;cases i with
   |zero=>simp[s]
   |succ i=>exact m i (by simpa using h) (by simpa using h2)
 obtain⟨l,o,n,m⟩:=key ps all;refine⟨l,o,?_,m⟩;rw[n,<-filterMap_getElem?_range es];exact h.filterMap _
end M5
namespace L2
open PySem PySem.Spec PyProof.Rows
theorem Inv.Ui(I:Inv X pins σ H s)(d:Drawn):Inv X pins σ H {s with drawn:=d}:=
 ⟨I.ok,I.os,I.bare,I.base,I.loc,I.cell,I.free,I.gE,I.pin,I.hok,I.len⟩
end L2
namespace M
open PySem PySem.Spec PyProof.Rows L2
noncomputable def ki(ks:List Key)(ds:List D)(k:Key):Option D:=((ks.zip ds).find? λp=>decide (p.1=k)).map (·.2)
noncomputable def pq(ks:List Key)(ds:List D)(k:Key)(d:D):MO:=if(ks.any λj=>decide (j=k))=true then .dct ks ((ks.zip ds).map λp=>if p.1=k then d else p.2) else .dct (ks++[k]) (ds++[d])
theorem Az{w:Wd}{k:Key}{d:D}:∀{kvs:List (Key×V)}{ds:List D},aq K w ds (kvs.map (·.2))->ki (kvs.map (·.1)) ds k=some d->∃v,gP kvs k=some v/\Rep K w d v
 |[],ds,h,e=>by simp[ki] at e
 |(j,u)::r,ds,h,e=>by
  cases ds with
  |nil=>simp[ki] at e
  |cons x ds=>
   simp only[zcj,aq] at h;obtain⟨l,m,i,h1,h2⟩:=h;injection i with e1 e2;subst e1;subst e2;unfold ki at e;unfold gP;by_cases a:j=k
   ·rw[zcj,zaN,List.find?_cons_of_pos (by simpa using a)] at e;rw[List.find?_cons_of_pos (by simpa using a)];cases e;exact⟨u,rfl,h1⟩
   ·rw[zcj,zaN,List.find?_cons_of_neg (by simpa using a)] at e;rw[List.find?_cons_of_neg (by simpa using a)];exact Az (kvs:=r) h2 e
theorem uS{w:Wd}{k:Key}{d:D}{v:V}(g:Rep K w d v):∀{kvs:List (Key×V)}{ds:List D},aq K w ds (kvs.map (·.2))->
  aq K w (((kvs.map (·.1)).zip ds).map λp=>if p.1=k then d else p.2) ((kvs.map λi=>if i.1=k then(i.1,v) else i).map (·.2))
 |[],ds,h=>by
  cases ds with
  |nil=>exact .nil
  |cons x ds=>simp only[zct,aq] at h;obtain⟨_,_,z,_⟩:=h;cases z
 |(j,u)::r,ds,h=>by
  cases ds with
  |nil=>simp only[zcj,aq] at h;cases h
  |cons x ds=>
   simp only[zcj,aq] at h;obtain⟨m,n,l,h1,h2⟩:=h;injection l with e1 e2;subst e1;subst e2;simp only[zcj,zaN];refine .cons ?_ (uS g h2);by_cases a:j=k
   ·rw[yIp a,yIp a];exact g
   ·rw[yIn a,yIn a];exact h1
theorem uV{w:Wd}{k:Key}{d:D}{kvs:List (Key×V)}(g:Rep K w d v)(h:aq K w ds (kvs.map (·.2))):lX K w (pq (kvs.map (·.1)) ds k d) (.dK (putK kvs k v)):=by
 unfold pq putK;have e:((kvs.map (·.1)).any λj=>decide (j=k))=(kvs.any λa=>decide (a.1=k)):=by
  rw[zcu];rfl
 rw[e];by_cases i:(kvs.any λa=>decide (a.1=k))=true
 ·rw[yIp i,yIp i];refine⟨_,rfl,?_,uS g h⟩;rw[zcv];refine zaF λa _=>?_;show(if a.1=k then(a.1,v) else a).1=a.1;split<;>rfl
 ·rw[yIn i,yIn i];refine⟨_,rfl,by simp,?_⟩;rw[zbS];exact h.snoc g
theorem Oi{w:Wd}{p:Nat}{ks:List Key}(ok:Ok K w H S)(h:Rep K w (.loc p) v)(e:S[p]? =some (some (.dct ks ds))):
  ∃a kvs,v=.ref a/\w.r p=some a/\H a=some (.dK kvs)/\kvs.map (·.1)=ks/\aq K w ds (kvs.map (·.2)):=by
 simp only[Rep] at h;obtain⟨a,h1,rfl⟩:=h;obtain⟨o,u,i,n,m,kvs,rfl,l,j⟩:=ok.live p _ e;rw[h1] at i;cases i;exact⟨a,kvs,rfl,h1,m,l,j⟩
section
variable {o i:Expr}{pc pu:Pos}
theorem Ak:Ur X (unaryOp .USub) (λx S Q=>∃i,x=.int i/\Q (.dat (.int (-i))) S):=⟨m1 LL λx H Q h=>by
 obtain⟨w,d,S,j,ok,a,⟨i,rfl,q⟩,bk⟩:=h;exact⟨i,aZ a rfl,bk.dat .refl ok .int q⟩⟩
end
theorem Rk{w:Wd}(k:Ok K w H S)(e:S[m]? =some (some (.lst ds))):∃s,w.le s/\Ok K s H (S.set m none)/\∀v,Rep K w (.loc m) v->Rep K s (.lst ds) v:=by
 obtain⟨a,u,h1,h2,P,h,rfl,O⟩:=k.live m _ e;have le:w.le ⟨upd w.B a (.lst h),w.r⟩:=⟨al h2,λ_ _ e=>e⟩
 have at_:∀n o,(S.set m none)[n]? =some (some o)->n≠m/\S[n]? =some (some o):=λn o z=>by
  by_cases x:m=n
  ·subst x;rw[zbd] at z;simp at z
  ·rw[zaA x] at z;exact⟨λy=>x y.symm,z⟩
 refine⟨⟨upd w.B a (.lst h),w.r⟩,le,⟨λb o z=>?_,λn o z=>?_,λn j o C I G z=>?_,λn l=>k.top n (by rw[zbT] at l;exact l)⟩,λv E=>?_⟩
 ·by_cases F:b=a
  ·subst F;have z:upd w.B b (.lst h) b=some o:=z;rw[bG] at z;rw[P];exact z
  ·have z:upd w.B a (.lst h) b=some o:=z;rw[aP F] at z;exact k.base b o z
 ·obtain⟨l,z⟩:=at_ n o z;obtain⟨q,L,i,W,U,Q⟩:=k.live n o z;have t:q≠a:=λy=>l (k.inj n m _ _ z e (by rw[i,h1,y]));exact⟨q,L,i,by show upd w.B a _ q=none;rw[aP t];exact W,U,Q.le le⟩
 ·exact k.inj n j o C (at_ n o I).2 (at_ j C G).2 z
 ·simp only[Rep] at E⊢;obtain⟨q,i,rfl⟩:=E;rw[h1] at i;cases i;exact⟨a,h,rfl,bG,O.le le⟩
noncomputable def sb(m:Nat)(e:D):D->D
 |.loc n=>if n=m then e else .loc n
 |d=>d
theorem xC{w i:Wd}{m:Nat}{ds:List D}(le:w.le i)(f:∀v,Rep K w (.loc m) v->Rep K i (.lst ds) v):∀{es:List D}{a:List V},aq K w es a->aq K i (es.map (sb m (.lst ds))) a
 |[],a,h=>by simp only[aq] at h;subst h;exact .nil
 |d::es,a,h=>by
  simp only[aq] at h;obtain⟨x,r,rfl,h1,h2⟩:=h;refine .cons ?_ (xC le f h2);cases d with
  |loc n=>
   show Rep K i (if n=m then _ else _) x;by_cases j:n=m
   ·rw[yIp j];subst j;exact f x h1
   ·rw[yIn j];exact h1.le le
  |_=>exact h1.le le
def O2(a:AE):AE:=λl S Q=>a l S λr j=>∃m i h,r=.dat (.tup h)/\j[m]? =some (some (.lst i))/\Q (.dat (.tup (h.map (sb m (.lst i))))) (j.set m none)
theorem Qs{a:AE}:∀j H Q,aS K (O2 a) j H Q->aS K a j H Q:=by
 rintro j H Q ⟨w,u,S,W,ok,env,q,bk⟩;refine⟨w,u,S,_,ok,env,q,λr U v y X s o h l=>?_⟩;obtain⟨m,P,I,L,F,C⟩:=l;subst L;have h:Rep K y (.tup I) v:=h;simp only[Rep] at h;obtain⟨t,x,rfl,G,E⟩:=h;obtain⟨O,i,n,f⟩:=Rk o F;refine bk.dat (s.trans i) n ?_ C;simp only[Rep];exact⟨t,x,rfl,dI.same i.b G,xC i f E⟩
theorem fre{t:AE}(h:GE X e t):GE X e (O2 t):=⟨mE h.p Qs⟩
end M
namespace M6
open PySem PySem.Spec PyProof.Rows
mutual
noncomputable def bJ:yam->Bool
 |.int _=>true
 |.str x=>(PyData.str x).canLay0
 |.tuple xs=>ck xs
 |_=>false
noncomputable def ck:List yam->Bool
 |[]=>true
 |x::xs=>bJ x&&ck xs
end
mutual
noncomputable def bq(w:yak):yam->Int
 |.int i=>hashInt i
 |.str x=>hashStr w x
 |.tuple xs=>reduceHash (Builtin.Tuple.tupleHashOf (iw w xs))
 |_=>0
noncomputable def iw(w:yak):List yam->List Int
 |[]=>[]
 |x::xs=>bq w x::iw w xs
end
mutual
noncomputable def Sj:yam->Nat
 |.int _=>1
 |.str _=>1
 |.tuple xs=>o7 xs+1
 |_=>0
noncomputable def o7:List yam->Nat
 |[]=>0
 |x::xs=>Sj x+o7 xs
end
theorem jl(w:yak):∀a b,iw w (a++b)=iw w a++iw w b
 |[],b=>rfl
 |x::a,b=>by simp only[zbw,iw,jl w a b]
theorem mw:∀a b,o7 (a++b)=o7 a+o7 b
 |[],b=>by simp[o7]
 |x::a,b=>by simp only[zbw,o7,mw a b];lia
theorem eW:∀{i:List yam},ck i=true->∀x∈i,bJ x=true
 |[],_,x,a=>by simp at a
 |y::i,h,x,a=>by
  simp only[ck,zbG] at h;rcases zci.mp a with rfl|a
  ·exact h.1
  ·exact eW h.2 x a
theorem cB:∀{a:List yam}{x:yam},x∈a->x.depth<=PyData.depthAll a
 |y::a,x,h=>by
  simp only[PyData.depthAll];rcases zci.mp h with rfl|h
  ·lia
  ·have:=cB h;lia
theorem bB(a:List yam):(PyData.tuple a).depth=PyData.depthAll a+1:=by
 simp only[PyData.depth]
theorem eB(h:s.heap.get? a=some o)(i:o.cls=Value.type "tuple"):s.TypeIs (.ref a) "tuple":=⟨o,h,i⟩
theorem uU:∀(n:Nat)(d:yam){v:yai}{as:List Addr}{A:yal}{E:yai->yah->Prop}{s:yah}{Q:Int->yah->Prop},d.depth<=n->bJ d=true->Reads s.heap v d as->A.units+n<cLine->
  Q (bq w d) {s with toks:=s.toks+Sj d}->yar (model prog w) A (pyHash v) Q E s:=by
 intro n
 induction n with
 |zero=>
  intro d v as A E s Q hd l C L h;cases C with
  |int i t=>exact wpAny_pyHash_int h
  |str x t=>exact wpAny_pyHash_str h
  |tuple ho hc hd' hall=>rw[bB] at hd;lia
  |none=>simp[bJ] at l
  |bool b=>simp[bJ] at l
  |list _ _ _ _=>simp[bJ] at l
  |dict _ _ _ _ _=>simp[bJ] at l
 |succ n ih=>
  intro d v as A E s Q hd l C L h;cases C with
  |int i t=>exact wpAny_pyHash_int h
  |str x t=>exact wpAny_pyHash_str h
  |none=>simp[bJ] at l
  |bool b=>simp[bJ] at l
  |list _ _ _ _=>simp[bJ] at l
  |dict _ _ _ _ _=>simp[bJ] at l
  |@tuple a o vs m xs as ho hc hdat hall=>
   have O:=eB ho hc;have l:ck xs=true:=l;rw[bB] at hd;show yar (model prog w) A (pyHashByItsType (.ref a)) Q E s;refine W.pyHash_slot (T:="tuple") O F.slot_tuple_hash F.entry_tuple_hash (F.args_tuple_hash_1 (.ref a)) (by decide) (.inr (by lia)) ?_;show yar (model prog w) A.in1 (do
    let __do_lift <-Builtin.Tuple.tupleItemsOf (.ref a);let __s <-forIn __do_lift (#[]:Array Int) λx __s=>do
       let __do_lift <-pyHash x
       pure (ForInStep.yield (__s.push __do_lift))
    retInt (Builtin.Tuple.tupleHashOf __s.toList)) _ E s
   refine yaa (wpAny_tupleItemsOf ho hdat (yaa ?_));rw[<-zaV];refine wpAny_forIn_list _ (λrest b y=>∃j left u,xs=j++left/\ReadsAll s.heap rest left u/\b.toList=iw w j/\y={s with toks:=s.toks+o7 j}) _ ?_ ?_ vs.toList #[] ⟨[],xs,_,rfl,hall,rfl,rfl⟩
   ·rintro x rest b y ⟨j,left,u,rfl,G,H,rfl⟩;cases G with
    |@cons _ _ d' ds as1 bs hx hrest=>
     have I:d'∈j++d'::ds:=by simp
     refine yaa (ih d' (as:=as1) (s:={s with toks:=s.toks+o7 j}) (by have:=cB I;lia) (eW l d' I) hx (by show A.units+1+n<cLine;lia) ?_);refine yab ⟨j++[d'],ds,bs,by simp,hrest,?_,?_⟩
     ·rw[zbl,H,jl];rfl
     ·rw[mw];simp only[o7,Nat.add_zero,Nat.add_assoc]
   ·rintro b y ⟨j,left,u,rfl,G,H,rfl⟩;cases G;rw[zbL] at h;rw[H];refine yac (wpAny_ret_mkInt (Q:=λv y=>∃n t,v=Value.int n t/\Q (reduceHash n) y) ⟨_,_,rfl,?_⟩) (λP y=>?_) (λ_ _ z=>z)
    ·have h:Q (reduceHash (Builtin.Tuple.tupleHashOf (iw w j))) {s with toks:=s.toks+(o7 j+1)}:=h;exact h
    ·rintro⟨v,rfl,n,t,rfl,q⟩;exact⟨n,t,rfl,q⟩
theorem jx:∀(n:Nat)(d:yam){v:yai}{as:List Addr}{A:yal}{E:yai->yah->Prop}{s:yah}{Q:Bool->yah->Prop},d.depth<=n->bJ d=true->Reads s.heap v d as->Q true s->yar (model prog w) A (eqIsQuiet n v) Q E s:=by
 intro n
 induction n with
 |zero=>
  intro d v as A E s Q hd j q h;cases q with
  |int i t=>rw[eqIsQuiet_byValue 0 rfl];exact yab h
  |str x t=>rw[eqIsQuiet_byValue 0 rfl];exact yab h
  |tuple ho hc hd' hall=>rw[bB] at hd;lia
  |none=>simp[bJ] at j
  |bool b=>simp[bJ] at j
  |list _ _ _ _=>simp[bJ] at j
  |dict _ _ _ _ _=>simp[bJ] at j
 |succ n ih=>
  intro d v as A E s Q hd j q h;cases q with
  |int i t=>rw[eqIsQuiet_byValue _ rfl];exact yab h
  |str x t=>rw[eqIsQuiet_byValue _ rfl];exact yab h
  |none=>simp[bJ] at j
  |bool b=>simp[bJ] at j
  |list _ _ _ _=>simp[bJ] at j
  |dict _ _ _ _ _=>simp[bJ] at j
  |@tuple a o vs m xs as ho hc hdat hall=>
   have L:=eB ho hc;have j:ck xs=true:=j;rw[bB] at hd;rw[eqIsQuiet.eq_def];refine yaa (wpAny_specialOf L F.slot_tuple_eq.lookup ?_);refine yaa (wpAny_isInstance L isSubtype_tuple_tuple ?_);rw[yIn (by decide)];refine yaa (wpAny_seqItems ho hdat (yaa ?_));show yar (model prog w) A (forIn vs _ _) _ E s;rw[<-zaV];refine wpAny_forIn_list _ (λrest r G=>r.1=none/\G=s/\∃left C,ReadsAll s.heap rest left C/\∀x∈left,x∈xs) _ ?_ ?_ vs.toList (none,()) ⟨rfl,rfl,xs,_,hall,λ_ u=>u⟩
   ·rintro y rest ⟨H,O⟩ G ⟨q,rfl,left,C,P,l⟩;cases P with
    |@cons _ _ d' ds as1 bs u hrest=>
     have I:d'∈xs:=l d' (by simp);refine yaa (ih d' (as:=as1) (by have:=cB I;lia) (eW j d' I) u ?_);exact yab ⟨rfl,rfl,ds,bs,hrest,λx u=>l x (zay _ u)⟩
   ·rintro⟨H,O⟩ G ⟨q,rfl,_⟩;have q:H=none:=q;subst q;exact yab h
noncomputable instance:DecidableEq yam:=λ_ _=>Classical.propDecidable _
mutual
theorem ny:∀x y:yam,bJ x=true->bJ y=true->PyData.eqv x y=decide (x=y)
 |.int i,.int j,_,_=>by
  simp only[PyData.eqv];by_cases h:i=j
  ·subst h;simp
  ·have:¬PyData.int i=.int j:=λe=>h (by injection e);rw[yDf this];simpa using h
 |.str i,.str j,_,_=>by
  simp only[PyData.eqv];by_cases h:i=j
  ·subst h;simp
  ·have:¬PyData.str i=.str j:=λe=>h (by injection e);rw[yDf this];simpa using h
 |.tuple xs,.tuple ys,hx,hy=>by
  simp only[PyData.eqv];rw[o6 xs ys hx hy];by_cases h:xs=ys
  ·subst h;simp
  ·have:¬PyData.tuple xs=.tuple ys:=λe=>h (by injection e);rw[yDf this,yDf h]
 |.int i,.str j,_,_=>by rw[yDf (λe=>nomatch e)];rfl
 |.int i,.tuple j,_,_=>by rw[yDf (λe=>nomatch e)];rfl
 |.str i,.int j,_,_=>by rw[yDf (λe=>nomatch e)];rfl
 |.str i,.tuple j,_,_=>by rw[yDf (λe=>nomatch e)];rfl
 |.tuple i,.int j,_,_=>by rw[yDf (λe=>nomatch e)];rfl
 |.tuple i,.str j,_,_=>by rw[yDf (λe=>nomatch e)];rfl
 |.none,_,h,_=>by simp[bJ] at h
 |.bool _,_,h,_=>by simp[bJ] at h
 |.list _,_,h,_=>by simp[bJ] at h
 |.dict _,_,h,_=>by simp[bJ] at h
 |_,.none,_,h=>by simp[bJ] at h
 |_,.bool _,_,h=>by simp[bJ] at h
 |_,.list _,_,h=>by simp[bJ] at h
 |_,.dict _,_,h=>by simp[bJ] at h
theorem o6:∀x y:List yam,ck x=true->ck y=true->PyData.eqvAll x y=decide (x=y)
 |[],[],_,_=>by simp[PyData.eqvAll]
 |[],y::ys,_,_=>by simp[PyData.eqvAll]
 |x::xs,[],_,_=>by simp[PyData.eqvAll]
 |x::xs,y::ys,hx,hy=>by
  simp only[ck,zbG] at hx hy;simp only[PyData.eqvAll];rw[ny x y hx.1 hy.1,o6 xs ys hx.2 hy.2];by_cases h:x=y<;>by_cases g:xs=ys<;>simp[h,g]
end
mutual
theorem fH:∀x:yam,bJ x=true->x.canLay0=true
 |.int i,_=>rfl
 |.str i,h=>h
 |.tuple xs,h=>by simp only[PyData.canLay0];exact As xs h
 |.none,h=>by simp[bJ] at h
 |.bool _,h=>by simp[bJ] at h
 |.list _,h=>by simp[bJ] at h
 |.dict _,h=>by simp[bJ] at h
theorem As:∀x:List yam,ck x=true->PyData.canLayAll0 x=true
 |[],_=>rfl
 |x::xs,h=>by
  simp only[ck,zbG] at h;simp only[PyData.canLayAll0,fH x h.1,As xs h.2,zcq]
end
def isKey(h:Heap)(d:yam)(a:Addr):Prop:=bJ d=true/\d.depth<=6/\∃i,Reads h (.ref a) d i
mutual
theorem qz{h h':Heap}{b:Addr}{ob:Obj}{es:Array yav}{ep:Nat}(n:h.get? b=some ob)(hd:ob.data=Data.dict es ep)(l:Heap.SameBut b h h'):∀(d:yam){v:yai}{as:List Addr},bJ d=true->Reads h v d as->Reads h' v d as
 |.int i,v,as,hk,hr=>by cases hr;exact .int ..
 |.str i,v,as,hk,hr=>by cases hr;exact .str ..
 |.tuple xs,v,as,hk,hr=>by
  cases hr with
  |@tuple a o vs m _ _ ho hc hdat hall=>
   have j:a≠b:=λe=>by
    subst e;rw[n] at ho;cases ho;rw[hd] at hdat;cases hdat
   exact .tuple (by rw[l.2 a j];exact ho) hc hdat (nY n hd l xs hk hall)
 |.none,_,_,h,_=>by simp[bJ] at h
 |.bool _,_,_,h,_=>by simp[bJ] at h
 |.list _,_,_,h,_=>by simp[bJ] at h
 |.dict _,_,_,h,_=>by simp[bJ] at h
theorem nY{h h':Heap}{b:Addr}{ob:Obj}{es:Array yav}{ep:Nat}(i:h.get? b=some ob)(hd:ob.data=Data.dict es ep)(a:Heap.SameBut b h h'):∀(ds:List yam){vs:List yai}{as:List Addr},ck ds=true->ReadsAll h vs ds as->ReadsAll h' vs ds as
 |[],vs,as,hk,hr=>by cases hr;exact .nil
 |d::ds,vs,as,hk,hr=>by
  simp only[ck,zbG] at hk;cases hr with
  |cons hx hr=>exact .cons (qz i hd a d hk.1 hx) (nY i hd a ds hk.2 hr)
end
noncomputable def eY(prog:yaj)(w:yak):HeapKind prog w yam where
 is:=isKey
 hash:=bq w
 draws:=Sj
 room:=λA=>A.units+10<cLine
 inj:=λ⟨_,_,j,o⟩ ⟨_,_,bs,n⟩=>(Reads.unique o _ _ n).1
 keeps:=λ⟨h1,h2,j,i⟩ t hd m=>⟨h1,h2,j,qz t hd m _ h1 i⟩
 pyHash:=λq ⟨h1,h2,j,i⟩ h=>uU 6 _ h2 h1 i (by lia) h
 eqBool:=λ{A E s x y a b Q} q ⟨h1,h2,j,i⟩ ⟨l,v,bs,u⟩ h=>SeqAt.eqBoolOverData prog w A E s _ _ _ _ _ _ Q i u (fH _ h1) (fH _ l) (by lia) (by
  rw[ny _ _ h1 l];exact h)
 quiet:=λ⟨h1,h2,j,i⟩ h=>jx 8 _ (by lia) h1 i h
def iG(h:Heap)(d:Addr)(es:Array yav)(ep:Nat):Prop:=∃o,h.get? d=some o/\o.ExactDict/\o.data=Data.dict es ep
theorem iG.at{d:Addr}{es:Array yav}(x:iG h d es ep)(e:∀o,h.get? d=some o->h'.get? d=some o):iG h' d es ep:=by obtain⟨o,a,r⟩:=x;exact⟨o,e o a,r⟩
theorem iG.typeIs{d:Addr}{es:Array yav}(x:iG s.heap d es ep):s.TypeIs (.ref d) "dict":=by obtain⟨o,a,h,_⟩:=x;exact⟨o,a,h.1⟩
theorem nextK{it d:Addr}{es:Array yav}{e:yav}{Q:Option yai->yah->Prop}(l:s.heap.IsKeyIter it d i es.size ep)(G:iG s.heap d es ep)(u:es[i]? =some e)(C:∀h',h'.IsKeyIter it d (i+1) es.size ep->Heap.SameBut it s.heap h'->Q (some e.key) {s with heap:=h'}):yar (model prog w) A (pyNext (.ref it)) Q E s:=by
 obtain⟨o,t,x,hd⟩:=id l;obtain⟨I,h,v,m⟩:=id G;have q:=Heap.IsKeyIter.typeIs l;unfold pyNext;refine yaa (wpAny_attempt (wpAny_callSpecial?_slot (name:=Str.ofString "__next__") q F.slot_dict_keyiterator_next (wpAny_call_entry F.slot_dict_keyiterator_next q F.entry_dict_keyiterator_next ?_ (F.args_dict_keyiterator_next_1 _))));unfold Builtin.«dict_keyiterator.__next__»;refine yaa (yab ?_);refine yaa ?_;refine yaa ?_;refine yaa (wpAny_typeNameOfWhole_keyiter q (yab ?_));have a:Builtin.Dict_items.ownsTuple "dict_keyiterator"=false:=by decide+kernel
 refine yaa (wpAny_fieldsOf t hd ?_);simp only[a,zaU,if_false,List.drop_zero];show yar (model prog w) A.in1 (if(Value.ref d==Value.none)=true then _ else _) _ _ s;rw[yIn (by exact zaT)];refine yaa (yab ?_);refine yaa (wpAny_dictEntries h m ?_);rw[yIn (by simp)];refine yaa (yab ?_);refine yaa (wpAny_dictEpoch h m ?_);rw[yIn (by simp)];refine yab ?_;dsimp only;rw[yIn (by lia),show((i:Int)).toNat=i from zbk i,u];dsimp only;refine yaa (?_);refine yaa (wpAny_typeNameOfWhole_keyiter q (yab ?_));simp only[a,zaU,if_false];refine yaa (wpAny_isOneOf_keyiter q ?_);refine yaa (wpAny_setField t hd (by simp) ?_);have H:∀b:Bool,b=false->(if b=true then(i:Int) - 1 else(i:Int)+1)=((i+1:Nat):Int):=λb y=>by subst y;simp
 rw[H _ (by decide+kernel)];refine yaa (yad ?_);have j:=zax (Obj.mapFields (·.setIfInBounds (0+1) (rawInt ((i+1:Nat):Int)))) t (Obj.isFreed_of_fields (Obj.data_mapFields hd _));have n:=(Obj.cls_mapFields o (·.setIfInBounds (0+1) (rawInt ((i+1:Nat):Int)))).trans x;refine yaa (wpAny_isOneOf_keyiter ⟨_,j,n⟩ ?_);rw[yIp (by decide+kernel)];refine yab (yab ⟨e.key,rfl,yab (C _ ?_ (Heap.SameBut.update ..))⟩);exact⟨_,j,n,by rw[Obj.data_mapFields hd];simp[rawInt]⟩
theorem Tt{it d:Addr}{es:Array yav}{Q:Option yai->yah->Prop}(t:A.handled=none)(j:s.heap.IsKeyIter it d es.size es.size ep)(y:iG s.heap d es ep)(x:∀h',Heap.ExtBut it s.heap h'->Q none {s with heap:=h'}):yar (model prog w) A (pyNext (.ref it)) Q E s:=by
 obtain⟨o,q,H,hd⟩:=id j;obtain⟨C,i,u,l⟩:=id y;have n:=Heap.IsKeyIter.typeIs j;unfold pyNext;refine yaa (wpAny_attempt (wpAny_callSpecial?_slot (name:=Str.ofString "__next__") n F.slot_dict_keyiterator_next (wpAny_call_entry F.slot_dict_keyiterator_next n F.entry_dict_keyiterator_next ?_ (F.args_dict_keyiterator_next_1 _))));unfold Builtin.«dict_keyiterator.__next__»;refine yaa (yab ?_);refine yaa ?_;refine yaa ?_;refine yaa (wpAny_typeNameOfWhole_keyiter n (yab ?_));have h:Builtin.Dict_items.ownsTuple "dict_keyiterator"=false:=by decide+kernel
 refine yaa (wpAny_fieldsOf q hd ?_);simp only[h,zaU,if_false,List.drop_zero];show yar (model prog w) A.in1 (if(Value.ref d==Value.none)=true then _ else _) _ _ s;rw[yIn (by exact zaT)];refine yaa (yab ?_);refine yaa (wpAny_dictEntries i l ?_);rw[yIn (by simp)];refine yaa (yab ?_);refine yaa (wpAny_dictEpoch i l ?_);rw[yIn (by simp)];refine yab ?_;dsimp only;rw[yIn (by lia),show((es.size:Int)).toNat=es.size from zbk _,zap (zcK _)];dsimp only;refine yaa ?_;refine yaa (wpAny_typeNameOfWhole_keyiter n (yab ?_));simp only[h,zaU,if_false];refine yaa (wpAny_setField q hd (by simp) ?_);refine yaa ?_;simp only[newExc,newTuple];refine yaa (yae ?_ (by size_fits));refine yaa (m:=firstArgMember _ _) (wpAny_of_eq (a:=Value.none) (by first|rfl|(simp only[firstArgMember];rfl)) ?_);refine yae ?_ (by size_fits);simp only[raiseNew];refine yaa (wpAny_handled ?_)
 first|rw[show A.in1.handled=none from t]|rw[t]
 refine yaa (yab (wpAny_throw ?_));refine yaa (wpAny_isInstance (T:="StopIteration") (b:=true) ⟨_,zaK _ rfl,rfl⟩ isSubtype_stop ?_);refine yab (x _ (Heap.ExtBut.push (Heap.ExtBut.push ?_ _) _));exact λb G v e=>(zar _ _ (Ne.symm v)).trans e
theorem Q4{d:Addr}{es:Array yav}(hd:(d==yas)=false)(j:iG s.heap d es ep)(m:Q (.ref s.heap.objs.size) {s with heap:=s.heap.push {cls:=.type "dict_keyiterator",data:=.fields #[.ref d,.int 0 0,.int es.size 0,.int ep 0]}}):yar (model prog w) A (pyIter (.ref d)) Q E s:=by
 obtain⟨n,a,l,h⟩:=id j;have i:=j.typeIs;refine wpAny_pyIter_slot i F.slot_dict_iter (wpAny_call_entry F.slot_dict_iter i F.entry_dict_iter ?_ (F.args_dict_iter_1 _));unfold Builtin.«dict.__iter__»;refine yaa (yaa (wpAny_notOrdered_dict i (yab ?_)));refine yaa (yab ?_);unfold Builtin.Dict.showsAll;rw[yIn (by rw[hd];exact zaT)];refine yaa (yab ?_);refine yaa (wpAny_dictEntries a h ?_);refine yaa (wpAny_dictEpoch a h ?_);refine yaa (yae ?_ (by size_fits));exact yab ⟨_,rfl,"dict_keyiterator",_,⟨_,zaK _ rfl,rfl⟩,F.slot_dict_keyiterator_next.lookup,m⟩
theorem LH(C:A.handled=none)(I d:Addr)(t:d≠I)(es:Array yav)(ep:Nat):
  Walks prog w A I [I,d] [I] es.size (λi v=>∃e,es[i]? =some e/\v=e.key) (λi h=>h.IsKeyIter I d i es.size ep/\iG h d es ep) where
 sub:=λb j=>by simp only[zaO] at j;simp[j]
 frame:=λi h q a x=>⟨Heap.IsKeyIter.at a.1 λo e=>x I (by simp) o e,a.2.at λo e=>x d (by simp) o e⟩
 item:=λi s Q E y a n=>by
  have u:es[i]? =some es[i]:=zai y;refine nextK a.1 a.2 u λq m l=>n es[i].key q s.toks ⟨es[i],u,rfl⟩ ⟨m,a.2.at λo e=>by rw[l.2 d t];exact e⟩ λb o j e=>?_;rw[l.2 b (λz=>j (by simp[z]))];exact e
 done:=λs Q E a n=>Tt C a.1 a.2 λq F=>n q s.toks λb o j e=>F b o (λz=>j (by simp[z])) e
 self:=λi s Q E a n=>wpAny_pyIter_keyiter a.1 n
theorem L3{d:Addr}{es:Array yav}(lo:(d==yas)=false):W.KdlSrc prog w "dict" d d es.size (λi v=>∃e,es[i]? =some e/\v=e.key) (λh=>iG h d es ep) where
 type:=λs a=>a.typeIs
 there:=λh a=>by obtain⟨o,j,_⟩:=a;exact⟨zcH j,zcH j⟩
 keep:=λh t a n=>a.at λo e=>n d (.inl rfl) o e
 notList:=by decide
 notTuple:=by decide
 hint:=λA E s Q a l=>W.kdl_hint_dict a.typeIs l
 iter:=λA s q a=>by
  have m:d<s.heap.objs.size:=by obtain⟨o,j,_⟩:=a;exact zcH j
  exact⟨_,_,λE Q l=>Q4 lo a l,LH q s.heap.objs.size d (zcx m) es ep,⟨_,zaK _ rfl,rfl,rfl⟩,a.at λo e=>zaq _ e⟩
theorem pA{d:Addr}{es:Array yav}{R:List yai->yah->Prop}(lo:(d==yas)=false)(m:A.handled=none)(q:iG s.heap d es ep)(l:es.size<=yag)(h:∀(h':Heap)(tk:Nat),(∀b o,s.heap.get? b=some o->h'.get? b=some o)->R (es.toList.map (·.key)) {s with heap:=h',toks:=tk}):yar (model prog w) A (collect (.ref d)) R E s:=by
 refine W.kdu_collect (L3 lo) m q l λh' tk j kp a=>?_;have:j.toList=es.toList.map (·.key):=by
  refine List.ext_getElem? λi=>?_;rw[zaw,zba,zaw];cases z:j[i]? with
  |some v=>
   obtain⟨e,n,rfl⟩:=a.2 i v z;rw[n];rfl
  |none=>
   have:es.size<=i:=by rw[<-a.1];exact zac.mp z
   rw[zap this];rfl
 rw[this];exact h h' tk kp
mutual
noncomputable def fJ:yam->yam->Bool
 |.int i,.int j=>decide (i<j)
 |.str i,.str j=>decide (i.cps.toList<j.cps.toList)
 |.tuple xs,.tuple ys=>cJ xs ys
 |_,_=>false
noncomputable def cJ:List yam->List yam->Bool
 |[],[]=>false
 |[],_::_=>true
 |_::_,[]=>false
 |x::xs,y::ys=>if x=y then cJ xs ys else fJ x y
end
mutual
noncomputable def bK:yam->yam->Bool
 |.int _,.int _=>true
 |.str _,.str _=>true
 |.tuple xs,.tuple ys=>dO xs ys
 |_,_=>false
noncomputable def dO:List yam->List yam->Bool
 |x::xs,y::ys=>bK x y&&dO xs ys
 |_,_=>true
end
theorem fP{h:Heap}:∀{ds:List yam}{vs:List yai}{as:List Addr},ReadsAll h vs ds as->vs.length=ds.length
 |[],_,_,h=>by cases h;rfl
 |_::_,_,_,h=>by cases h with|cons _ r=>simp[fP r]
theorem Jf:∀(n:Nat)(x y:yam){u v:yai}{as bs:List Addr}{A:yal}{E:yai->yah->Prop}{s:yah}{Q:yai->yah->Prop},x.depth<=n->y.depth<=n->bJ x=true->bJ y=true->bK x y=true->Reads s.heap u x as->Reads s.heap v y bs->A.units+n<cLine->
  Q (.bool (fJ x y)) s->yar (model prog w) A (yan .Lt u v) Q E s:=by
 intro n
 induction n with
 |zero=>
  intro x y u v as bs A E s Q hx hy l ky G L U hu h;cases L with
  |int i t=>
   cases U with
   |int j t'=>exact wpAny_lt_int h
   |_=>simp[bK] at G
  |str i t=>
   cases U with
   |str j t'=>exact lt_str h
   |_=>simp[bK] at G
  |tuple ho G hd' hall=>rw[bB] at hx;lia
  |none=>simp[bJ] at l
  |bool b=>simp[bJ] at l
  |list _ _ _ _=>simp[bJ] at l
  |dict _ _ _ _ _=>simp[bJ] at l
 |succ n ih=>
  intro x y u v as bs A E s Q hx hy l ky G L U hu h;cases L with
  |int i t=>
   cases U with
   |int j t'=>exact wpAny_lt_int h
   |_=>simp[bK] at G
  |str i t=>
   cases U with
   |str j t'=>exact lt_str h
   |_=>simp[bK] at G
  |none=>simp[bJ] at l
  |bool b=>simp[bJ] at l
  |list _ _ _ _=>simp[bJ] at l
  |dict _ _ _ _ _=>simp[bJ] at l
  |@tuple a o us m xs as ho hcl hdat hall=>
   cases U with
   |@tuple b o2 vs m2 ys bs ho2 hcl2 hdat2 hall2=>
    have hT:=eB ho hcl;have W:=eB ho2 hcl2;rw[bB] at hx hy;have l:ck xs=true:=l;have ky:ck ys=true:=ky;have G:dO xs ys=true:=G;show yar (model prog w) A (richCompare .Lt (.ref a) (.ref b)) Q E s;refine wpAny_richCompare_same_room hT W F.slot_tuple_lt ?_ (by lia);refine wpAny_call_entry F.slot_tuple_lt hT F.entry_tuple_lt ?_ (F.args_tuple_lt_2 _ _);unfold Builtin.«tuple.__lt__»;refine yaa (yab ?_);refine yaa (wpAny_isInstance W isSubtype_tuple_tuple ?_);rw[yIn (by decide)];refine yaa (wpAny_tupleItemsOf ho hdat (yaa (wpAny_tupleItemsOf ho2 hdat2 (yaa ?_))));refine wpAny_forIn_list _ (λrest r X=>r.1=none/\X=s/\∃O I Z Y S P,rest=Z.zip Y/\ReadsAll s.heap Z O S/\ReadsAll s.heap Y I P/\cJ xs ys=cJ O I/\(∀z∈O,z∈xs)/\(∀z∈I,z∈ys)/\dO O I=true/\us.size+I.length=vs.size+O.length) _ ?_ ?_ (us.toList.zip vs.toList) (none,())
     ⟨rfl,rfl,xs,ys,us.toList,vs.toList,_,_,rfl,hall,hall2,rfl,λ_ z=>z,λ_ z=>z,G,by
      have h1:=fP hall;have h2:=fP hall2;rw[zaJ] at h1 h2;lia⟩
    ·rintro⟨p,q⟩ rest ⟨r1,r2⟩ X ⟨L,rfl,O,I,Z,Y,S,P,hz,h1,h2,hl,m1,m2,H,C⟩;cases h1 with
     |nil=>simp at hz
     |@cons _ _ d1 ds1 a1 b1 g1 t1=>
      cases h2 with
      |nil=>simp at hz
      |@cons _ _ d2 ds2 a2 b2 g2 t2=>
       rw[zaN] at hz;injection hz with e1 e2;injection e1 with e3 e4;subst e3;subst e4;subst e2;have n1:=m1 d1 (by simp);have n2:=m2 d2 (by simp);have k1:=eW l d1 n1;have k2:=eW ky d2 n2;have dd1:=cB n1;have dd2:=cB n2;simp only[dO,zbG] at H;dsimp only;refine yaa (SeqAt.eqBoolOverData prog w _ _ _ _ _ _ _ _ _ _ g1 g2 (fH _ k1) (fH _ k2) (by show A.units+1+_<cLine;lia) ?_);rw[ny _ _ k1 k2];by_cases he:d1=d2
       ·rw[yDt he];refine yab ⟨rfl,rfl,ds1,ds2,_,_,_,_,rfl,t1,t2,?_,λz hz=>m1 z (zay _ hz),λz hz=>m2 z (zay _ hz),H.2,by simp only[zbq] at C;lia⟩;rw[hl];simp only[cJ];rw[yIp he]
       ·rw[yDf he];have hl2:cJ xs ys=fJ d1 d2:=by
         rw[hl];simp only[cJ];rw[yIn he]
        refine yaa (wpAny_rule ?_);refine yaa (ih d1 d2 (u:=p) (v:=q) (A:=A.in1) (by lia) (by lia) k1 k2 H.1 g1 g2 (by show A.units+1+n<cLine;lia) ?_);refine yaa (yab (yab ?_));refine yab ⟨_,rfl,(λz=>by cases z),?_⟩;rw[<-hl2];exact h
    ·rintro⟨r1,r2⟩ X ⟨L,rfl,O,I,Z,Y,S,P,hz,h1,h2,hl,m1,m2,H,C⟩;have L:r1=none:=L;subst L;refine yab ⟨_,rfl,(λz=>by cases z),?_⟩;have Tn:decide (us.size<vs.size)=cJ xs ys:=by
      rw[hl];cases h1 with
      |nil=>
       cases I with
       |nil=>simp only[cJ,zbP] at C⊢;exact yDf (by lia)
       |cons _ _=>simp only[cJ,zbq,zbP] at C⊢;exact yDt (by lia)
      |cons g1 t1=>
       cases h2 with
       |nil=>simp only[cJ,zbq,zbP] at C⊢;exact yDf (by lia)
       |cons g2 t2=>simp at hz
     show Q (.bool (decide (us.size<vs.size))) X;rw[Tn];exact h
   |_=>simp[bK] at G
def Fs(b:Bool)(z:yam):Prop:=(b=false/\∃i,z=.int i)∨(b=true/\∃i,z=.str i)
theorem E1{x y:yam}{v:yai}{as bs:List Addr}{Q:Bool->yah->Prop}(n:Nat)(l:x.depth<=n)(j:y.depth<=n)(i:bJ x=true)(a:bJ y=true)(q:bK x y=true)(o:Reads s.heap u x as)(t:Reads s.heap v y bs)(m:A.units+n<cLine)(h:Q (fJ x y) s):yar (model prog w) A (PyProof.Rows.oneLt' false u v) Q E s:=W.kat_one u v (Jf n x y l j i a q o t m h)
theorem vt{A:yal}{Q:Bool->yah->Prop}{s:yah}{m1 m2:Nat}:∀(j a:List yam){m l:List yai}{as bs:List Addr}(i:Nat),(∀z∈j,z.depth<=6)->(∀z∈a,z.depth<=6)->ck j=true->ck a=true->dO j a=true->ReadsAll s.heap m j as->ReadsAll s.heap l a bs->A.units+6<cLine->
  (i=0->∃b,Fs b (j.headD .none)/\Fs b (a.headD .none))->m1+a.length=m2+j.length->Q (cJ j a) s->W.KatLex prog w A true (decide (m1<m2)) Q (m.zip l) i s
 |[],a,m,l,as,bs,i,d1,d2,k1,k2,hc,h1,h2,hu,h0,hm,h=>by
  cases h1;show Q (decide (m1<m2)) s;cases a with
  |nil=>simp only[cJ,zbP] at hm h;rw[yDf (by lia)];exact h
  |cons _ _=>simp only[cJ,zbP,zbq] at hm h;rw[yDt (by lia)];exact h
 |x::j,[],m,l,as,bs,i,d1,d2,k1,k2,hc,h1,h2,hu,h0,hm,h=>by
  cases h2;rw[List.zip_nil_right];show Q (decide (m1<m2)) s;simp only[cJ,zbP,zbq] at hm h;rw[yDf (by lia)];exact h
 |x::j,y::a,m,l,as,bs,i,d1,d2,k1,k2,hc,h1,h2,hu,h0,hm,h=>by
  simp only[ck,zbG] at k1 k2;simp only[dO,zbG] at hc;have H:=d1 x (by simp);have G:=d2 y (by simp);cases h1 with
  |@cons u us _ _ a1 b1 g1 t1=>
   cases h2 with
   |@cons v vs _ _ a2 b2 g2 t2=>
    rw[zaN,W.KatLex.eq_2];refine SeqAt.eqBoolOverData prog w _ _ _ _ _ _ _ _ _ _ g1 g2 (fH _ k1.1) (fH _ k2.1) (by lia) ?_;rw[ny _ _ k1.1 k2.1];simp only[cJ] at h;by_cases n:x=y
    ·rw[yDt n,yIp rfl];rw[yIp n] at h;exact vt j a (i+1) (λz hz=>d1 z (zay _ hz)) (λz hz=>d2 z (zay _ hz)) k1.2 k2.2 hc.2 t1 t2 hu (λz=>by lia) (by simp only[zbq] at hm;lia) h
    ·rw[yDf n,yIn (by decide)];rw[yIn n] at h;by_cases o:i=0
     ·obtain⟨b,F,E⟩:=h0 o;subst o;rcases F with⟨rfl,p,C⟩|⟨rfl,p,C⟩<;>rcases E with⟨z,q,t⟩|⟨z,q,t⟩<;>cases z
      ·cases(show x=_ from C);cases(show y=_ from t);cases g1;cases g2;exact W.kat_lt_int h
      ·cases(show x=_ from C);cases(show y=_ from t);cases g1;cases g2;exact PyProof.Rows.oneLt_str h
     ·have:(true&&i==0)=false:=by simp[o]
      rw[this];exact E1 6 H G k1.1 k2.1 hc.1 g1 g2 hu h
def dz{h:Type}(P:h->Prop)(n:Nat):W.KasT h->Prop
 |.ret a=>P a
 |.ask i j k=>i<n/\j<n/\∀b,dz P n (k b)
theorem dz.bind{l m:Type}{P:l->Prop}{R:m->Prop}{f:l->W.KasT m}:∀{t:W.KasT l},dz P n t->(∀a,P a->dz R n (f a))->dz R n (t.bind f)
 |.ret a,h,g=>g a h
 |.ask i j k,⟨h1,h2,h3⟩,g=>⟨h1,h2,λb=>dz.bind (h3 b) g⟩
theorem dH{p:Array Nat}(h:0<n)(a:p.Perm (zcO n).toArray)(x:Nat):p.getD x 0<n:=by
 rw[Srt.j8];cases z:p[x]? with
 |none=>exact h
 |some y=>
  have i:y∈p:=Array.mem_of_getElem? z;have:=(a.mem_iff).mp i;simpa using this
theorem tQ(h:0<n){p:Array Nat}(a:p.Perm (zcO n).toArray):∀(f x:Nat),dz (λ_=>True) n (W.kas_asc p f x)
 |0,x=>trivial
 |f+1,x=>⟨dH h a _,dH h a _,λb=>by
  show dz _ n (if b=true then _ else _);cases b
  ·exact tQ h a f (x+1)
  ·exact trivial⟩
theorem kc(a:0<n):∀(f:Nat){p:Array Nat}(x q:Nat),p.Perm (zcO n).toArray->dz (λr:Array Nat×Nat×Nat=>r.1.Perm (zcO n).toArray) n (W.kas_desc f p x q)
 |0,p,x,q,hp=>hp
 |f+1,p,x,q,hp=>⟨dH a hp _,dH a hp _,λb=>by
  show dz _ n (if b=true then(if q> 0 then _ else _) else _);cases b
  ·refine⟨dH a hp _,dH a hp _,λc=>?_⟩;show dz _ n (if c=true then _ else _);cases c
   ·exact kc a f (x+1) (q+1) hp
   ·exact hp
  ·rw[yIp rfl];by_cases h:q> 0
   ·rw[yIp h];exact kc a f (x+1) 0 (Srt.cY.trans hp)
   ·rw[yIn h];exact kc a f (x+1) 0 hp⟩
theorem uv(i:0<n){p:Array Nat}(h:p.Perm (zcO n).toArray)(x m:Nat):dz (λr:Nat×Array Nat=>r.2.Perm (zcO n).toArray) n (W.kas_tail3 x m p):=
 dz.bind (tQ i (Srt.cY.trans h) _ _) λa _=>Srt.cY.trans h
theorem kg(a:0<n){p:Array Nat}(j:p.Perm (zcO n).toArray)(x m:Nat):dz (λr:Nat×Array Nat=>r.2.Perm (zcO n).toArray) n (W.kas_descPart x m p):=
 dz.bind (kc a _ _ _ j) λr i=>by
  by_cases h:r.2.2> 0
  ·rw[yIp h];exact uv a (Srt.cY.trans i) _ _
  ·rw[yIn h];exact uv a i _ _
theorem Cu(i:0<n){p:Array Nat}(a:p.Perm (zcO n).toArray)(m:Nat):dz (λr:Nat×Array Nat=>r.2.Perm (zcO n).toArray) n (W.kas_count m p):=
 dz.bind (tQ i a _ _) λx _=>by
  by_cases h:(x==m)=true
  ·rw[yIp h];exact a
  ·rw[yIn h];by_cases h2:x> 1
   ·rw[yIp h2];refine⟨dH i a _,dH i a _,λb=>?_⟩;show dz _ n (if b=true then _ else _);cases b
    ·exact kg i (Srt.cY.trans a) _ _
    ·exact a
   ·rw[yIn h2];exact kg i a _ _
theorem lG(i:0<n){p:Array Nat}(a:p.Perm (zcO n).toArray)(k:Nat):∀(f l r:Nat),dz (λ_=>True) n (W.kas_place p k f l r)
 |0,l,r=>trivial
 |f+1,l,r=>by
  rw[W.kas_place.eq_2];by_cases h:l≥r
  ·rw[yIp h];exact trivial
  ·rw[yIn h];refine⟨dH i a _,dH i a _,λb=>?_⟩;show dz _ n (if b=true then _ else _);cases b
   ·exact lG i a k f _ _
   ·exact lG i a k f _ _
theorem A3(a:0<n):∀(f:Nat){p:Array Nat}(j:Nat),p.Perm (zcO n).toArray->dz (λr:Array Nat=>r.Perm (zcO n).toArray) n (W.kas_bin f p j)
 |0,p,j,hp=>hp
 |f+1,p,j,hp=>by
  rw[W.kas_bin.eq_2];exact dz.bind (lG a hp _ _ _ _) λl _=>A3 a f (j+1) ((bubble_perm _ _ _).trans hp)
theorem uF(i:0<n):dz (λr:Array Nat=>r.Perm (zcO n).toArray) n (W.kas_sort n):=
 dz.bind (Cu i (Array.Perm.refl _) _) λr a=>by
  by_cases h:r.1<n
  ·rw[yIp h];exact A3 i _ _ a
  ·rw[yIn h];exact a
theorem wp_run{l:Type}{n:Nat}{P:l->Prop}{f:Nat->Nat->Bool}{cmp:Nat->Nat->(Bool->yah->Prop)->yah->Prop}{Q:l->yah->Prop}{s:yah}(m:∀i j C,i<n->j<n->C (f i j) s->cmp i j C s):∀{t:W.KasT l},dz P n t->Q (Srt.run f t) s->W.KasT.kasWp cmp t Q s
 |.ret a,h,q=>q
 |.ask i j k,⟨h1,h2,h3⟩,q=>m i j _ h1 h2 (wp_run m (h3 _) q)
theorem zX{l:Type}{n:Nat}{P:l->Prop}{f:Nat->Nat->Bool}:∀{t:W.KasT l},dz P n t->P (Srt.run f t)
 |.ret a,h=>h
 |.ask i j k,⟨_,_,h3⟩=>show P (Srt.run f (k (f i j))) from zX (h3 (f i j))
theorem run_eq{l:Type}{n:Nat}{P:l->Prop}{f g:Nat->Nat->Bool}:∀{t:W.KasT l},dz P n t->(∀i j,i<n->j<n->f i j=g i j)->Srt.run f t=Srt.run g t
 |.ret a,h,_=>rfl
 |.ask i j k,⟨h1,h2,h3⟩,e=>by
  show Srt.run f (k (f i j))=Srt.run g (k (g i j));rw[e i j h1 h2];exact run_eq (h3 _) e
theorem qA{vs:List yai}:((zcO vs.length).map λi=>vs.getD i Value.none)=vs:=by
 refine zbx (by simp) λi h1 h2=>?_;simp[zcS,zak h2]
noncomputable def cQ(h:Heap)(a:Addr)(vs:List yai):Heap:=((h.update a (Obj.mapSeq λ_=>#[])).push (seqObj "tuple" vs.toArray 0)).push (seqObj "list" #[] 0)
theorem yw{vs:List yai}{P:PySem.Fin->yah->Prop}(f:Nat->Nat->Bool)(I:s.heap.get? a=some (seqObj "list" vs.toArray n))(L:vs.length<64)(hk:2<=vs.length->∃κ,(∀(Q:SortKind->yah->Prop),Q κ {s with heap:=cQ s.heap a vs}->yar (model prog w) A (keyKind' vs.toArray) Q (λ_ _=>False) {s with heap:=cQ s.heap a vs})/\∀i j C,i<vs.length->j<vs.length->C (f i j) {s with heap:=cQ s.heap a vs}->W.kas_ask prog w A κ vs i j C {s with heap:=cQ s.heap a vs})(h:∀p:Array Nat,p.Perm (zcO vs.length).toArray->(2<=vs.length->p=Srt.run f (W.kas_sort vs.length))->P (.done (.ret .none)) {s with heap:=sortedHeap s.heap a vs (p.toList.map λi=>vs.getD i Value.none).toArray}):
  yar (model prog w) A (Builtin.«list.sort» ⟨[.ref a],[]⟩) P E s:=by
 obtain⟨u,t⟩:∃u,(s.heap.update a (Obj.mapSeq λ_=>#[])).get? a=some (seqObj "list" #[] u):=⟨_,get?_update_seq I λ_=>#[]⟩
 have l:(cQ s.heap a vs).get? a=some (seqObj "list" #[] u):=zaq _ (zaq _ t);have hz:vs.toArray.size<=yag:=by rw[zaY,yaf];lia
 rw[list_sort_plain a];refine yaa (listItems_at I rfl (yaa (listUpdate_at I rfl ?_ hz (zcL _))));refine yaa (seqEpoch_at t rfl (yaa (wpAny_newTuple ?_ (by simpa using hz))));refine yaa (wpAny_newList (yad ?_) (zcL _));show yar (model prog w) A (if vs.toArray.size<2 then _ else _) P E {s with heap:=cQ s.heap a vs};by_cases h2:vs.length<2
 ·rw[yIp (by rw[zaY];exact h2)];refine yaa (yab ?_);dsimp only;rw[yIp (by rw[zaY];exact h2)];refine yaa (yab ?_);have U:((vs.toArray.zip vs.toArray).map (·.2))=((zcO vs.length).map λi=>vs.getD i Value.none).toArray:=by
   rw[List.zip_toArray,List.map_toArray,List.map_snd_zip (zcK _),qA]
  refine yaa (seqEpoch_at l rfl (yaa (listUpdate_at l rfl ?_ (zcL _) ?_)))
  ·show yar (model prog w) A (if(u != u)=true then _ else _) P E _;rw[yIn (by simp)];refine yab ?_;have:=h (zcO vs.length).toArray (Array.Perm.refl _) (λz=>by lia);rw[<-U] at this;exact this
  ·show((vs.toArray.zip vs.toArray).map (·.2)).size<=_;rw[U,qA,zaY,yaf];lia
 ·rw[yIn (by rw[zaY];exact h2)];obtain⟨κ,k1,k2⟩:=hk (by lia);refine yaa (yac (k1 (λq m=>q=κ/\m={s with heap:=cQ s.heap a vs}) ⟨rfl,rfl⟩) (λq m z=>?_) (λ_ _ z=>z.elim));obtain⟨rfl,rfl⟩:=z;dsimp only;rw[yIn (by rw[zaY];exact h2)];have o:=uF (n:=vs.length) (by lia);refine yaa (yac (W.kat_run (Q:=λv m=>∃p:Array Nat,(arrOf v).map (·.2)=(p.toList.map λi=>vs.getD i Value.none).toArray/\failedOf v=none/\p.Perm (zcO vs.length).toArray/\p=Srt.run f (W.kas_sort vs.length)/\m={s with heap:=cQ s.heap a vs}) (G:=λp m=>(p.Perm (zcO vs.length).toArray/\p=Srt.run f (W.kas_sort vs.length))/\m={s with heap:=cQ s.heap a vs}) rfl (by lia) L ?_ (wp_run k2 o ⟨⟨zX o,rfl⟩,rfl⟩)) ?_ (λ_ _ z=>z))
  ·rintro p X m hp1 H F ⟨⟨y,x⟩,rfl⟩;exact⟨p,W.kat_snds rfl H,F,y,x,rfl⟩
  ·rintro⟨⟨⟩,v⟩ m ⟨p,S,Z,O,Y,rfl⟩;dsimp only;refine yaa (seqEpoch_at l rfl (yaa (listUpdate_at l rfl ?_ (zcL _) ?_)))
   ·rw[Z];dsimp only;rw[yIn (by simp)];refine yab ?_;have:=h p O λ_=>Y;rw[<-S] at this;exact this
   ·rw[S];have:=O.size_eq;rw[zaY,zbK,zaJ,this,zaY,zbe,yaf];lia
mutual
theorem qy{h h':Heap}{b:Addr}{ob:Obj}(l:h.get? b=some ob)(hd:ob.cls≠ .type "tuple")(kp:∀c o,c≠b->h.get? c=some o->h'.get? c=some o):∀(d:yam){v:yai}{as:List Addr},bJ d=true->Reads h v d as->Reads h' v d as
 |.int i,v,as,hk,hr=>by cases hr;exact .int ..
 |.str i,v,as,hk,hr=>by cases hr;exact .str ..
 |.tuple xs,v,as,hk,hr=>by
  cases hr with
  |@tuple a o vs m _ _ ho hc hdat hall=>
   have j:a≠b:=λe=>by
    subst e;rw[l] at ho;cases ho;exact hd hc
   exact .tuple (kp a o j ho) hc hdat (nX l hd kp xs hk hall)
 |.none,_,_,h,_=>by simp[bJ] at h
 |.bool _,_,_,h,_=>by simp[bJ] at h
 |.list _,_,_,h,_=>by simp[bJ] at h
 |.dict _,_,_,h,_=>by simp[bJ] at h
theorem nX{h h':Heap}{b:Addr}{ob:Obj}(a:h.get? b=some ob)(hd:ob.cls≠ .type "tuple")(kp:∀c o,c≠b->h.get? c=some o->h'.get? c=some o):∀(ds:List yam){vs:List yai}{as:List Addr},ck ds=true->ReadsAll h vs ds as->ReadsAll h' vs ds as
 |[],vs,as,hk,hr=>by cases hr;exact .nil
 |d::ds,vs,as,hk,hr=>by
  simp only[ck,zbG] at hk;cases hr with
  |cons hx hr=>exact .cons (qy a hd kp d hk.1 hx) (nX a hd kp ds hk.2 hr)
end
theorem cK{α a:Type}{f:α->a}:∀{ks:List α}{out:List a},out.Perm (ks.map f)->∃o':List α,o'.Perm ks/\out=o'.map f
 |[],out,h=>⟨[],.refl _,by simpa using h⟩
 |k::ks,out,h=>by
  have q:f k∈out:=h.mem_iff.mpr (by simp);obtain⟨o,n,rfl⟩:=List.append_of_mem q;have h2:(o++n).Perm (ks.map f):=by
   have:=List.perm_middle.symm.trans h;rw[zcj] at this;exact this.cons_inv
  obtain⟨o',j,i⟩:=cK h2;obtain⟨m,l,u,t,s⟩:=List.map_eq_append_iff.mp i.symm;subst u;refine⟨m++k::l,List.perm_middle.trans (j.cons k),?_⟩;rw[zbS,zcj,t,s]
mutual
theorem Fj:∀x:yam,fJ x x=false
 |.int i=>by simp only[fJ];exact yDf (Int.lt_irrefl i)
 |.str i=>by simp only[fJ];exact yDf (List.lt_irrefl _)
 |.tuple xs=>by simp only[fJ];exact Ao xs
 |.none=>by simp only[fJ]
 |.bool _=>by simp only[fJ]
 |.list _=>by simp only[fJ]
 |.dict _=>by simp only[fJ]
theorem Ao:∀x:List yam,cJ x x=false
 |[]=>by simp only[cJ]
 |x::xs=>by simp only[cJ];rw[yIp trivial];exact Ao xs
end
theorem tN{i:Int}{y:yam}(h:bK (.int i) y=true):∃j,y=.int j:=by
 cases y<;>first|exact⟨_,rfl⟩|simp[bK] at h
theorem tM{i:Str}{y:yam}(h:bK (.str i) y=true):∃j,y=.str j:=by
 cases y<;>first|exact⟨_,rfl⟩|simp[bK] at h
theorem tL{i:List yam}{y:yam}(h:bK (.tuple i) y=true):∃a,y=.tuple a/\dO i a=true:=by
 cases y<;>first|exact⟨_,rfl,h⟩|simp[bK] at h
mutual
theorem Fi:∀x y z:yam,bK x y=true->bK y z=true->bK x z=true->fJ x y=true->fJ y z=true->fJ x z=true
 |.int i,y,z,a,b,_,h,g=>by
  obtain⟨j,rfl⟩:=tN a;obtain⟨k,rfl⟩:=tN b;simp only[fJ,decide_eq_true_eq] at h g⊢;lia
 |.str i,y,z,a,b,_,h,g=>by
  obtain⟨j,rfl⟩:=tM a;obtain⟨k,rfl⟩:=tM b;simp only[fJ,decide_eq_true_eq] at h g⊢;exact List.lt_trans h g
 |.tuple xs,y,z,a,b,c,h,g=>by
  obtain⟨m,rfl,a⟩:=tL a;obtain⟨l,rfl,b⟩:=tL b;simp only[fJ] at h g⊢;exact Fg xs m l a b c h g
 |.none,_,_,a,_,_,_,_=>by simp[bK] at a
 |.bool _,_,_,a,_,_,_,_=>by simp[bK] at a
 |.list _,_,_,a,_,_,_,_=>by simp[bK] at a
 |.dict _,_,_,a,_,_,_,_=>by simp[bK] at a
theorem Fg:∀x y z:List yam,dO x y=true->dO y z=true->dO x z=true->cJ x y=true->cJ y z=true->cJ x z=true
 |[],[],z,_,_,_,h,_=>by simp[cJ] at h
 |[],y::ys,[],_,_,_,_,g=>by simp[cJ] at g
 |[],y::ys,z::zs,_,_,_,_,_=>by simp only[cJ]
 |x::xs,[],z,_,_,_,h,_=>by simp[cJ] at h
 |x::xs,y::ys,[],_,_,_,_,g=>by simp[cJ] at g
 |x::xs,y::ys,z::zs,a,b,c,h,g=>by
  simp only[dO,zbG] at a b c;simp only[cJ] at h g⊢;by_cases j:x=y
  ·rw[yIp j] at h;subst j;by_cases i:x=z
   ·rw[yIp i] at g⊢;exact Fg xs ys zs a.2 b.2 c.2 h g
   ·rw[yIn i] at g⊢;exact g
  ·rw[yIn j] at h;by_cases i:y=z
   ·subst i;rw[yIn j];exact h
   ·rw[yIn i] at g;have t:=Fi x y z a.1 b.1 c.1 h g;rw[yIn (λl=>by subst l;rw[Fj] at t;cases t)];exact t
end
mutual
theorem yu:∀x y:yam,bK x y=true->x≠y->fJ x y=true∨fJ y x=true
 |.int i,y,a,n=>by
  obtain⟨j,rfl⟩:=tN a;have:i≠j:=λe=>n (by rw[e]);simp only[fJ,decide_eq_true_eq];lia
 |.str i,y,a,n=>by
  obtain⟨j,rfl⟩:=tM a;simp only[fJ,decide_eq_true_eq];by_cases h:i.cps.toList<j.cps.toList
  ·exact .inl h
  ·by_cases g:j.cps.toList<i.cps.toList
   ·exact .inr g
   ·refine absurd ?_ n;have e:i.cps.toList=j.cps.toList:=List.le_antisymm g h;obtain⟨i⟩:=i;obtain⟨j⟩:=j;have e:i.toList=j.toList:=e;rw[show i=j from Array.toList_inj.mp e]
 |.tuple xs,y,a,n=>by
  obtain⟨l,rfl,a⟩:=tL a;simp only[fJ];exact An xs l a λe=>n (by rw[e])
 |.none,_,a,_=>by simp[bK] at a
 |.bool _,_,a,_=>by simp[bK] at a
 |.list _,_,a,_=>by simp[bK] at a
 |.dict _,_,a,_=>by simp[bK] at a
theorem An:∀x y:List yam,dO x y=true->x≠y->cJ x y=true∨cJ y x=true
 |[],[],_,n=>absurd rfl n
 |[],y::ys,_,_=>.inl (by simp only[cJ])
 |x::xs,[],_,_=>.inr (by simp only[cJ])
 |x::xs,y::ys,a,n=>by
  simp only[dO,zbG] at a;simp only[cJ];by_cases e:x=y
  ·subst e;rw[yIp rfl,yIp rfl];exact An xs ys a.2 λe=>n (by rw[e])
  ·rw[yIn e,yIn (Ne.symm e)];exact yu x y a.1 e
end
noncomputable def S9(S:List yam)(i:∀x∈S,∀y∈S,bK x y=true):Srt.Ord {x // x∈S} where
 lt:=λa b=>fJ a.1 b.1
 Th:=λa=>Fj a.1
 tr:=λa b c h g=>Fi _ _ _ (i _ a.2 _ b.2) (i _ b.2 _ c.2) (i _ a.2 _ c.2) h g
 nt:=λa b c h=>by
  by_cases e:a.1=b.1
  ·exact .inr (by rw[<-e];exact h)
  ·rcases yu _ _ (i _ a.2 _ b.2) e with z|z
   ·exact .inl z
   ·exact .inr (Fi _ _ _ (i _ b.2 _ a.2) (i _ a.2 _ c.2) (i _ b.2 _ c.2) z h)
theorem HB{o:List (yam×Addr)}{p:Array Nat}{q:yam×Addr}(hok:∀k∈o,bJ k.1=true)(Z:∀k∈o,∀l∈o,bK k.1 l.1=true)(I:p.Perm (zcO n).toArray)(L:n=o.length)(U:2<=n->p=Srt.run (λi j=>fJ (o.getD i q).1 (o.getD j q).1) (W.kas_sort n)):
  (p.toList.map λi=>o.getD i q).Pairwise (λx y=>fJ y.1 x.1=false):=by
 have Q:p.size=n:=by have:=I.size_eq;simpa using this
 rw[zah];intro i j t v Y;have E:i<p.size:=by simpa using t
 have u:j<p.size:=by simpa using v
 have h2:2<=n:=by lia
 have C:∀i∈p.toList,i<o.length:=λi t=>by
  have:=(Array.perm_iff_toList_perm.mp I).mem_iff.mp t;rw[<-L];simpa using this
 cases o with
 |nil=>simp at L;lia
 |cons m rest=>
  generalize P:(m::rest).map (·.1)=S;have F:∀x∈S,∀y∈S,bK x y=true:=λx s y H=>by
   rw[<-P] at s H;obtain⟨a,a1,rfl⟩:=zcw.mp s;obtain⟨b,b1,rfl⟩:=zcw.mp H;exact Z a a1 b b1
  have X:∀i,((m::rest).getD i m).1∈S:=λi=>by
   rw[<-P];refine zcw.mpr ⟨_,?_,rfl⟩;by_cases h:i<(m::rest).length
   ·rw[zcS,zak h];exact zby h
   ·rw[zcS,zat (by lia)];simp
  obtain⟨G,e1,e2,e3⟩:=Srt.HN (O:=S9 S F) (k:=λi=>⟨((m::rest).getD i m).1,X i⟩) (n:=n) (by lia);have eq:Srt.run (λi j=>fJ ((m::rest).getD i q).1 ((m::rest).getD j q).1) (W.kas_sort n)=G:=by
   rw[<-e1];refine run_eq (uF (n:=n) (by lia)) λi j t v=>?_;have d:∀i,i<n->(m::rest).getD i q=(m::rest).getD i m:=λi t=>by
    have:i<(m::rest).length:=by lia
    rw[zcS,zcS,zak this];rfl
   show _=fJ ((m::rest).getD i m).1 ((m::rest).getD j m).1;rw[d i t,d j v]
  obtain rfl:p=G:=(U h2).trans eq;have:=e3 i j (by lia) (by lia);have this:fJ ((m::rest).getD (p.getD j 0) m).1 ((m::rest).getD (p.getD i 0) m).1=false:=this;have g:∀x (s:x<p.size),(m::rest).getD (p.getD x 0) m=(m::rest).getD p[x] q:=λx s=>by
   have e:p.getD x 0=p[x]:=by simp[zcQ,s]
   rw[e];have:p[x]<(m::rest).length:=C _ (Array.getElem_mem_toList s);rw[zcS,zcS,zak this];rfl
  rw[g i E,g j u] at this;rw[zbz,zbz,Array.getElem_toList,Array.getElem_toList];exact this
def Hf(b:Bool)(h:Heap)(k:yam×Addr):Prop:=isKey h k.1 k.2/\∃p r,Fs b p/\k.1=.tuple (p::r)
def t8(h:Heap)(k:yam×Addr):Prop:=isKey h k.1 k.2/\∃p r,k.1=.tuple (.int p::r)
theorem t8.g{k:yam×Addr}(i:t8 h k):Hf false h k:=by obtain⟨a,p,r,e⟩:=i;exact⟨a,_,r,.inl ⟨rfl,p,rfl⟩,e⟩
noncomputable def tyB(b:Bool):String:=if b then "str" else "int"
theorem Ri{z:yam}{v:yai}{as:List Addr}(f:Fs b z)(g:Reads h v z as)(s:yah):s.TypeIs v (tyB b):=by
 rcases f with⟨rfl,p,rfl⟩|⟨rfl,p,rfl⟩
 ·cases g;exact typeIs_int s _ _
 ·cases g;exact typeIs_str s _ _
theorem vz{b:Bool}{h:Heap}:∀{ks:List (yam×Addr)},(∀k∈ks,Hf b h k)->∃fs,W.KatTups h (ks.map λk=>.ref k.2) fs/\fs.length=ks.length/\∀f∈fs,∀s:yah,s.TypeIs f (tyB b)
 |[],_=>⟨[],.nil,rfl,by simp⟩
 |(d,a)::ks,hk=>by
  obtain⟨fs,h1,h2,u⟩:=vz λk n=>hk k (zay _ n);obtain⟨⟨k1,x,y,q⟩,p,r,t,e⟩:=hk (d,a) (by simp);have e:d=.tuple (p::r):=e;subst e;cases q with
  |@tuple _ o vs m _ _ ho hc hdat hall=>
   generalize j:vs.toList=l at hall;cases hall with
   |@cons v l' _ _ a1 b1 g1 t1=>
    refine⟨v::fs,.cons ho hc hdat ?_ h1,by simp[h2],λf i=>?_⟩
    ·rw[<-zaw,j];rfl
    ·rcases zci.mp i with rfl|i
     ·exact Ri t g1
     ·exact u f i
theorem J9(O:∀k∈ks,Hf b s.heap k)(Y:∀k∈ks,∀l∈ks,bK k.1 l.1=true)(U:A.units+6<cLine)(i j:Nat)(C:Bool->yah->Prop)(hi:i<ks.length)(E:j<ks.length)(h:C (fJ ks[i].1 ks[j].1) s):
  W.kas_ask prog w A (tuples' true) (ks.map λk=>.ref k.2) i j C s:=by
 have I:=O ks[i] (zby hi);have H:=O ks[j] (zby E);have a:=Y ks[i] (zby hi) ks[j] (zby E);have e:∀n (L:n<ks.length),(ks.map λk=>Value.ref k.2).getD n Value.none=.ref ks[n].2:=λn L=>by simp[zcS,L]
 unfold W.kas_ask;rw[e i hi,e j E];generalize ks[i]=x at I a h;generalize ks[j]=y at H a h;obtain⟨⟨k1,v,as,X⟩,p,r,f1,G⟩:=I;obtain⟨⟨S,u,bs,Z⟩,q,t,f2,F⟩:=H;obtain⟨dx,ax⟩:=x;obtain⟨dy,ay⟩:=y;have G:dx=.tuple (p::r):=G;have F:dy=.tuple (q::t):=F;subst G;subst F;have v:(PyData.tuple (p::r)).depth<=6:=v;have u:(PyData.tuple (q::t)).depth<=6:=u;rw[bB] at v u;cases X with
 |@tuple _ o us m _ _ ho hcl hdat hall=>
  cases Z with
  |@tuple _ o2 vs m2 _ _ ho2 hcl2 hdat2 hall2=>
   have Q:=fP hall;have P:=fP hall2;rw[zaJ] at Q P;exact W.kat_lt ho hdat ho2 hdat2 (vt _ _ 0 (λz hz=>by have:=cB hz;lia) (λz hz=>by have:=cB hz;lia) k1 S a hall hall2 U (λ_=>⟨b,f1,f2⟩) (by lia) h)
theorem Ca{vs:List yai}{b:Addr}(i:b≠a)(e:h.get? b=some o):(cQ h a vs).get? b=some o:=
 zaq _ (zaq _ ((zar _ _ (Ne.symm i)).trans e))
theorem gR{d:Addr}{R:yah->Prop}(hh:A.handled=none)(hk:∀k∈ks,Hf b s.heap k)(hc:∀k∈ks,∀l∈ks,bK k.1 l.1=true)(h64:ks.length<64)(hu:A.units+20<cLine)(col:∀{A':yal}{Q':List yai->yah->Prop}{U:yai->yah->Prop},A'.handled=none->(∀s1 (a:List (yam×Addr)),(∀b o,s.heap.get? b=some o->s1.heap.get? b=some o)->R s1->a.Perm ks->Q' (a.map λk=>Value.ref k.2) s1)->yar (model prog w) A' (collect (.ref d)) Q' U s)(h:∀(s1:yah)(h2:Heap)(out:List (yam×Addr))(c:Nat),R s1->(∀b o,s.heap.get? b=some o->s1.heap.get? b=some o)->(∀b o,s1.heap.get? b=some o->h2.get? b=some o)->h2.get? s1.heap.objs.size=some (seqObj "list" (out.map λk=>Value.ref k.2).toArray c)->out.Perm ks->out.Pairwise (λx y=>fJ y.1 x.1=false)->Q (.ref s1.heap.objs.size) {s1 with heap:=h2}):
  yar (model prog w) A (call (.builtin "sorted") [.ref d]) Q E s:=by
 refine zaj kind_sorted plain_sorted entry_sorted (args_sorted1 _) ?_;unfold Builtin.«sorted»;refine yaa (m:=checkCount "sorted" 1 1 _) (yab ?_);refine yaa (col ?_ λs1 a kp hR n=>?_)
 ·exact hh
 have hol:a.length=ks.length:=n.length_eq;generalize t:(a.map λk=>Value.ref k.2)=vs;have H:vs.length=a.length:=by rw[<-t,zbK]
 refine yaa (wpAny_newList ?_ (by first|(rw[yaf];lia)|(rw[zaY,yaf];lia)));have S:(s1.heap.push (seqObj "list" vs.toArray 0)).get? s1.heap.objs.size=some (seqObj "list" vs.toArray 0):=zaK _ rfl;have F:∀k∈a,Hf b (cQ (s1.heap.push (seqObj "list" vs.toArray 0)) s1.heap.objs.size vs) k:=λk u=>by
  obtain⟨⟨k1,k2,as,hr⟩,r⟩:=hk k (n.mem_iff.mp u);exact⟨⟨k1,k2,as,qy S (λz=>by injection z with z;exact absurd z (by decide)) (λc o Z e=>Ca Z e) _ k1 (Reads.keeps (λb o e=>zaq _ (kp b o e)) hr)⟩,r⟩
 have O:∀k∈a,∀l∈a,bK k.1 l.1=true:=λk h1 l h2=>hc k (n.mem_iff.mp h1) l (n.mem_iff.mp h2);generalize ab:(PyData.none,(0:Addr))=df;have key:∀(A':yal),A'.units+8<cLine->∀{P:PySem.Fin->yah->Prop}{U:yai->yah->Prop},(∀p:Array Nat,p.Perm (zcO vs.length).toArray->(2<=vs.length->p=Srt.run (λi j=>fJ (a.getD i df).1 (a.getD j df).1) (W.kas_sort vs.length))->P (.done (.ret .none)) {s1 with heap:=sortedHeap (s1.heap.push (seqObj "list" vs.toArray 0)) s1.heap.objs.size vs (p.toList.map λi=>vs.getD i Value.none).toArray})->
   yar (model prog w) A' (Builtin.«list.sort» ⟨[.ref s1.heap.objs.size],[]⟩) P U {s1 with heap:=s1.heap.push (seqObj "list" vs.toArray 0)}:=λA' hA P U hP=>by
  refine yw (s:={s1 with heap:=s1.heap.push (seqObj "list" vs.toArray 0)}) _ S (by lia) (λh2=>⟨tuples' true,λQ' hQ'=>?_,?_⟩) hP
  ·obtain⟨fs,f1,f2,f3⟩:=vz F;rw[t] at f1;cases b<;>exact W.kat_kind (T:=.type (tyB _)) f1 (by lia) (λv hv A2 Q2 E2 s2 _ q=>wpAny_typeOf (f3 v hv s2) q) (by decide) hQ'
  ·intro i j C G hj hC;have e:∀i (G:i<a.length),a.getD i df=a[i]:=λi G=>by simp[zcS,G]
   rw[e i (by lia),e j (by lia)] at hC;have:=J9 (prog:=prog) (w:=w) (A:=A') (s:={s1 with heap:=cQ (s1.heap.push (seqObj "list" vs.toArray 0)) s1.heap.objs.size vs}) F O (by lia) i j C (by lia) (by lia) hC;rw[t] at this;exact this
 refine yaa (yad (wpAny_call_entry slot_list_sort ⟨_,S,rfl⟩ entry_list_sort (key _ ?_ λp hp I=>⟨_,rfl,?_⟩) (args_list_sort _)))
 ·show A.units+1+1+8<cLine;lia
 ·obtain⟨c,Y⟩:=sortedHeap_at (out:=(p.toList.map λi=>vs.getD i Value.none).toArray) S;have L:p.toList.Perm (zcO a.length):=by have:=Array.perm_iff_toList_perm.mp hp;rw[H] at this;simpa using this
  have X:∀i∈p.toList,i<a.length:=λi G=>zcb.mp (L.mem_iff.mp G);have eo:(p.toList.map λi=>vs.getD i Value.none)=(p.toList.map λi=>a.getD i df).map λk=>Value.ref k.2:=by
   rw[zcv];refine zaF λi G=>?_;have:=X i G;rw[<-t];simp[zcS,this]
  refine yab ⟨_,rfl,h s1 _ (p.toList.map λi=>a.getD i df) c hR kp (λb o e=>?_) (by rw[<-eo];exact Y) ?_ ?_⟩
  ·have lb:=zcH e;show(sortedHeap _ _ _ _).get? b=some o;rw[sortedHeap_old (zcx lb) (by rw[size_push'];exact zbh lb)];exact zaq _ e
  ·refine(L.map _).trans ?_;have:(zcO a.length).map (λi=>a.getD i df)=a:=by
    refine zbx (by simp) λi h1 h2=>?_;simp[zcS,zak h2]
   rw[this];exact n
  ·exact HB (λk u=>(F k u).1.1) O hp H I
theorem uD{d:Addr}{es:Array yav}(x:A.handled=none)(lo:(d==yas)=false)(G:iG s.heap d es ep)(a:es.toList.map (·.key)=ks.map λk=>.ref k.2)(v:∀k∈ks,t8 s.heap k)(y:∀k∈ks,∀l∈ks,bK k.1 l.1=true)(j:ks.length<64)(q:A.units+20<cLine)(h:∀(h1 h2:Heap)(tk:Nat)(out:List (yam×Addr))(c:Nat),(∀b o,s.heap.get? b=some o->h1.get? b=some o)->(∀b o,h1.get? b=some o->h2.get? b=some o)->h2.get? h1.objs.size=some (seqObj "list" (out.map λk=>Value.ref k.2).toArray c)->out.Perm ks->Q (.ref h1.objs.size) {s with heap:=h2,toks:=tk}):
  yar (model prog w) A (call (.builtin "sorted") [.ref d]) Q E s:=by
 have t:es.size=ks.length:=by have:=congrArg zcJ a;simpa using this
 refine gR (R:=λm=>∃h1 tk,m={s with heap:=h1,toks:=tk}) x (λk h=>(v k h).g) y j q (λi F=>pA lo i G (by rw[yaf];lia) λh1 tk kp=>?_) λm h2 out c C k1 n g u _=>?_
 ·rw[a];exact F _ ks kp ⟨h1,tk,rfl⟩ (.refl _)
 ·obtain⟨h1,tk,rfl⟩:=C;exact h h1 h2 tk out c k1 n g u
end M6
namespace L2
open PySem PySem.Spec PyProof.Rows M6
def lO(W:yak)(a:Addr)(i:List (yam×Addr)):Heap->Prop:=λh=>(a==yas)=false/\∃o j l,h.get? a=some o/\o.ExactDict/\o.data=Data.dict j l/\
 j.toList=i.map (λx=>({hash:=bq W x.1,key:=.ref x.2,val:=.bool true}:yav))/\(i.map (·.1)).Nodup
theorem lO.at{W:yak}{i:List (yam×Addr)}(x:lO W a i h)(e:∀o,h.get? a=some o->h'.get? a=some o):lO W a i h':=by
 obtain⟨z,o,j,l,h1,r⟩:=x;exact⟨z,o,j,l,e o h1,r⟩
theorem lO.ok{W:yak}{i:List (yam×Addr)}(x:lO W a i h):bg P w H h a (.ext (lO W a i)):=by
 obtain⟨z,o,j,l,h1,r⟩:=id x;exact⟨x,⟨o,h1⟩,λh1 h2 y e=>y.at e⟩
theorem j9{W:yak}{b:Addr}{l:List (yam×Addr)}(x:bg P w H h a (.ext (lO W b l))):b=a:=by
 obtain⟨y,⟨o,e⟩,m⟩:=x;apply Classical.byContradiction;intro i;obtain⟨z,v,I,L,h1,h2,G,r⟩:=id y;have s:(h.update b λ_=>{cls:=.none}).get? a=some o:=(zar _ _ i).trans e;have q:(h.update b λ_=>{cls:=.none}).get? b=some {cls:=.none}:=zax (λ_=>{cls:=.none}) h1 rfl;obtain⟨_,C,t,u,k1,F,n,_⟩:=m h (h.update b λ_=>{cls:=.none}) y λE j=>by rw[e] at j;cases j;exact s
 rw[q] at k1;cases k1;cases n
noncomputable def yb(a:List (yam×Addr))(d:yam)(b:Addr):List (yam×Addr):=if(a.any λx=>decide (x.1=d))=true then a else a++[(d,b)]
theorem uW(a:List (yam×Addr))(d:yam)(b:Addr):storedH (a.map λx=>(x.1,x.2,Value.bool true)) d b (.bool true)=(yb a d b).map λx=>(x.1,x.2,Value.bool true):=by
 have e:(atKey (a.map λx=>(x.1,x.2,Value.bool true)) d).isSome=(a.any λx=>decide (x.1=d)):=by
  unfold atKey;rw[zbo]
  induction a with
  |nil=>rfl
  |cons x a ih=>
   rw[zcj,zbO,zck];by_cases h:x.1=d
   ·simp[h]
   ·simp only[h,decide_false,Bool.false_or];exact ih
 unfold storedH yb;rw[e];by_cases h:(a.any λx=>decide (x.1=d))=true
 ·rw[yIp h,yIp h,zcv];refine zaF λx _=>?_;simp only[Function.comp,putAt];split<;>rfl
 ·rw[yIn h,yIn h,zbS];rfl
section
variable {σ:St}
def pR(K:yaI)(H:Hp)(a:List (yam×Addr)):Prop:=∀x∈a,bJ x.1=true/\x.1.depth<=6/\cN K H x.1 (.ref x.2)
theorem Inv.key(I:Inv X pins σ H s){d:yam}{b:Addr}(h1:bJ d=true)(h2:d.depth<=6)(a:cN X.K H d (.ref b)):isKey s.heap d b:=
 ⟨h1,h2,I.reads d (.ref b) (.ref b) a rfl⟩
theorem B5{b:Addr}{i:List (yam×Addr)}{d:yam}{Q:Unit->yah->Prop}(hu:A.units+20<cLine)(I:Inv X pins σ H s)(e:H a=some (.ext (lO X.w a i)))(hk:pR X.K H i)(h1:bJ d=true)(h2:d.depth<=6)(h3:cN X.K H d (.ref b))(hl:i.length<1000)(h:∀s',Inv X pins σ (upd H a (.ext (lO X.w a (yb i d b)))) s'->Q () s'):yar (model X.prog X.w) A (setItem (.ref a) (.ref b) (.bool true)) Q E s:=by
 obtain⟨⟨z,o,es,ep,Y,U,hd,m,Z⟩,_,_⟩:=(show bg X.prog X.w H s.heap a (.ext (lO X.w a i)) from I.hok a _ e)
 have dd:Heap.DictOfH (eY X.prog X.w) s.heap a (i.map λx=>(x.1,x.2,Value.bool true)):=by
  refine⟨o,es,ep,Y,U,hd,?_,λx l=>?_,?_⟩
  ·rw[m,zcv];rfl
  ·obtain⟨y,S,rfl⟩:=zcw.mp l;obtain⟨k1,P,O⟩:=hk y S;exact I.key k1 P O
  ·rw[zcv];exact Z
 refine wpAny_setItem_heap (knd:=eY X.prog X.w) (hsz:=by rw[zbK,yaf];lia) (show A.units+1+10<cLine by lia) (I.key h1 h2 h3) dd λh' j W=>h _ ?_;rw[uW] at j;obtain⟨q,n,t,v,G,F,C,_,u⟩:=j;have L:lO X.w a (yb i d b) h':=⟨z,q,n,t,v,G,F,by rw[C,zcv];rfl,by rw[zcv] at u;exact u⟩
 exact tG I (by rw[e];exact True.intro) W ⟨q,v⟩ L.ok
end
def Du(W:yak):TE:=λ_ H Q=>∀p,H p=none->Q (.ref p) (upd H p (.ext (lO W p [])))
def K4(K:yaI)(W:yak)(n ty m:TE):TS:=λD h H=>m h H λv q=>n h q λx o=>ty h o λy j=>∃(a l b:Addr)(i:List (yam×Addr))(d:yam),v=.bl true/\x=.ref a/\y=.ref b/\j a=some (.ext (lO W l i))/\
 pR K j i/\bJ d=true/\d.depth<=6/\cN K j d (.ref b)/\i.length<1000/\(l=a->D.nx h (upd j a (.ext (lO W a (yb i d b)))))
def EK(K:yaI)(W:yak):List V->Hp->VK->Prop:=λvs H Q=>∃(a i:Addr)(h:List (yam×Addr)),vs=[.ref a]/\H a=some (.ext (lO W i h))/\pR K H h/\(∀k∈h,∃p r,k.1=PyData.tuple (.int p::r))/\(∀k∈h,∀l∈h,bK k.1 l.1=true)/\h.length<64/\
 ∀(p:Addr)(out:List (yam×Addr)),H p=none->out.Perm h->Q (.ref p) (upd H p (.lst (out.map λk=>V.ref k.2)))
theorem ef{α:Type}(f:α->Addr):∀l:List α,Vals (l.map λx=>V.ref (f x)) (l.map λx=>Value.ref (f x))
 |[]=>.nil
 |x::l=>.cons rfl (ef f l)
section
variable {o i:Expr}{td ty tv:TE}
theorem fQ:PE X (.Dict [] [] pos) (Du X.w):=λj s l H Q I h=>
 wpAny_Dict_empty ⟨.ref s.heap.objs.size,_,I.laid (a:=s.heap.objs.size) (o:=.ext (lO X.w s.heap.objs.size [])) (t':=s.toks) (λ_ _ q=>zaq _ q) (zcK _) (lO.ok ⟨beq_eq_false_iff_ne.mpr (Ne.symm (zcx I.big)),_,#[],0,zaK _ rfl,⟨rfl,rfl,rfl⟩,rfl,rfl,List.nodup_nil⟩),rfl,h _ (I.hok.fresh (zcK _))⟩
theorem gi(hu:X.A.units+20<cLine)(ho:PE X o td)(hi:PE X i ty)(hv:PE X value tv)(hs:yat value (some (.Subscript o i pos')) pos.line X.env=pure false):
  PS X (.Assign [.Subscript o i pos'] value pos) (K4 X.K X.w td ty tv):=by
 intro j s l H D I h;refine wpAny_Assign_Subscript (bT (hv j s l H _ I h) λr G q=>?_) hs;obtain⟨v,H1,I1,P,Q⟩:=q;refine bT (ho j G l H1 _ I1 Q) λu F n=>?_;obtain⟨x,H2,I2,O,q2⟩:=n;refine bT (hi j F l H2 _ I2 q2) λZ E m=>?_;obtain⟨y,H3,t,L,a,a',b,C,d,ev,ex,ey,e,k1,Y,W,U,S,q3⟩:=m;subst ev ex ey;obtain rfl:u=Value.ref a:=O;obtain rfl:Z=Value.ref b:=L;obtain rfl:r=Value.bool true:=P;obtain rfl:=j9 (show bg X.prog X.w H3 E.heap a (.ext (lO X.w a' C)) from t.hok a _ e);exact B5 hu t e k1 Y W U S λs4 I4=>⟨l,_,I4,q3 rfl⟩
theorem yO{k:Nat}(x:aV k X.A):bX X (.builtin "sorted") (EK X.K X.w):=by
 intro j s F H xs us Q I r h;obtain⟨a,a',G,rfl,e,W,Z,Y,U,q⟩:=h;obtain⟨u,rfl,ru⟩:=vals1 r;cases ru;have t:=(show bg X.prog X.w H s.heap a (.ext (lO X.w a' G)) from I.hok a _ e)
 obtain rfl:=j9 t;obtain⟨⟨z,o,es,ep,S,P,hd,n,hn⟩,_,_⟩:=t;refine uD x.hd z ⟨o,S,P,hd⟩ (by rw[n,zcv];rfl) (λy v=>?_) Y U (by have:=x.units;lia) λh1 h2 tk out c m l g C=>?_
 ·obtain⟨k1,O,L⟩:=W y v;exact⟨I.key k1 O L,Z y v⟩
 ·have E:Inv X j F H {s with heap:=h1,toks:=tk}:=I.kept (t':=tk) m;refine⟨.ref h1.objs.size,_,E.laid (a:=h1.objs.size) (t':=tk) (o:=.lst (out.map λk=>V.ref k.2)) l (zcK _) ⟨by rw[zbK,C.length_eq,yaf];lia,_,c,ef (λk=>k.2) out,g⟩,rfl,q _ out (E.hok.fresh (zcK _)) C⟩
end
end L2
namespace M6
open PySem PySem.Spec PyProof.Rows
theorem vB{es:Array yav}{h:Array yai}(a:ItemsOf (λi v=>∃e,es[i]? =some e/\v=e.key) h es.size):h.toList=es.toList.map (·.key):=by
 refine List.ext_getElem? λi=>?_;rw[zaw,zba,zaw];cases z:h[i]? with
 |some v=>
  obtain⟨e,j,rfl⟩:=a.2 i v z;rw[j];rfl
 |none=>
  have:es.size<=i:=by rw[<-a.1];exact zac.mp z
  rw[zap this];rfl
theorem uC{d:Addr}{es:Array yav}{ns:List Int}(t:A.handled=none)(lo:(d==yas)=false)(u:iG s.heap d es ep)(i:IntsAre (es.toList.map (·.key)) ns)(v:es.size<64)(h:∀(h1 h2:Heap)(tk:Nat)(out:List yai)(a:List Int)(c:Nat),(∀b o,s.heap.get? b=some o->h1.get? b=some o)->(∀b o,h1.get? b=some o->h2.get? b=some o)->h2.get? h1.objs.size=some (seqObj "list" out.toArray c)->IntsAre out a->a.Perm ns->a.Pairwise (· <=·)->Q (.ref h1.objs.size) {s with heap:=h2,toks:=tk}):
  yar (model prog w) A (call (.builtin "sorted") [.ref d]) Q E s:=by
 refine zaj kind_sorted plain_sorted entry_sorted (args_sorted1 _) ?_;unfold Builtin.«sorted»;refine yaa (m:=checkCount "sorted" 1 1 _) (yab ?_);refine yaa (pA lo ?_ u (by rw[yaf];lia) λh1 tk kp=>?_)
 ·exact t
 have j:(es.toList.map (·.key)).length=es.size:=by rw[zbK,zaJ]
 generalize (es.toList.map (·.key))=vs at i j;refine yaa (wpAny_newList ?_ (by first|(rw[yaf];lia)|(rw[zaY,yaf];lia)));have n:(h1.push (seqObj "list" vs.toArray 0)).get? h1.objs.size=some (seqObj "list" vs.toArray 0):=zaK _ rfl;refine yaa (yad (wpAny_call_entry slot_list_sort ⟨_,n,rfl⟩ entry_list_sort (list_sort_tree n i (by lia) λout a C y x=>⟨_,rfl,?_⟩) (args_list_sort _)));obtain⟨c,l⟩:=sortedHeap_at (out:=out) n;refine yab ⟨_,rfl,h h1 _ tk out.toList a c kp (λb o e=>?_) (by rw[zaC];exact l) C y x⟩;have q:=zcH e;show(sortedHeap _ _ _ _).get? b=some o;rw[sortedHeap_old (zcx q) (by rw[size_push'];exact zbh q)];exact zaq _ e
end M6
namespace L2
open PySem PySem.Spec PyProof.Rows M6
theorem NS{k:Key}(h:oR k u=true):RelV (kV k) u:=by
 rcases bL h with⟨i,t,rfl,rfl⟩|⟨x,t,rfl,rfl⟩
 ·exact⟨t,rfl⟩
 ·exact⟨t,rfl⟩
theorem vA{prog:yaj}{w:yak}:∀{kvs:List (Key×V)}{vs:List (Key×yai)}{es:List yav},KV kvs vs->Pairs (bN prog w) es vs->Vals (kvs.map λp=>kV p.1) (es.map (·.key))
 |[],_,es,h1,h2=>by cases h1;cases h2;exact .nil
 |p::kvs,_,es,h1,h2=>by
  cases h1 with
  |cons r t=>
   cases h2 with
   |cons g1 g2 g3=>
    refine .cons ?_ (vA t g3);show RelV (kV p.1) _;rw[r.1];exact NS g1
theorem vE:∀{ns:List Int}{us:List yai},Vals (ns.map V.int) us->IntsAre us ns
 |[],us,h=>by cases h;exact .nil
 |n::ns,us,h=>by
  cases h with
  |cons r t=>
   obtain⟨tk,rfl⟩:=r;exact .cons n tk (vE t)
def MS:List V->Hp->VK->Prop:=λi H Q=>∃(a:Addr)(h:List (Key×V)),i=[.ref a]/\H a=some (.dK h)/\∀p,H p=none->Q (.ref p) (upd H p (.lst (h.map λx=>kV x.1)))
def MQ:List V->Hp->VK->Prop:=λj H Q=>∃(a:Addr)(i:List (Key×V))(ns:List Int),j=[.ref a]/\H a=some (.dK i)/\(i.map λx=>kV x.1)=ns.map V.int/\ns.length<64/\∀p (h:List Int),H p=none->h.Perm ns->h.Pairwise (· <=·)->Q (.ref p) (upd H p (.lst (h.map V.int)))
def MT(i:Bool):R2:=λy x H Q=>∃a h k,x=.ref a/\y=kV k/\H a=some (.dK h)/\Q (.bl (i != (gP h k).isSome)) H
theorem x6{j:St}{kvs:List (Key×V)}(I:Inv X pins j H s)(e:H a=some (.dK kvs)):(a==yas)=false/\kvs.length<=yag/\∃es ep,iG s.heap a es ep/\Vals (kvs.map λx=>kV x.1) (es.toList.map (·.key)):=by
 obtain⟨z,hd,vs,i,o,es,ep,n,l,h,t,m,q⟩:=Lo I.hok e;exact⟨hd,z,es,ep,⟨o,n,l,h⟩,vA i m⟩
theorem yR{k:Nat}(v:aV k X.A):bX X (.type "list") MS:=by
 intro m s F H G L Q I r h;obtain⟨a,i,rfl,e,q⟩:=h;obtain⟨u,rfl,ru⟩:=vals1 r;cases ru;obtain⟨lo,hz,t,P,C,n⟩:=x6 I e;have y:t.size=i.length:=by have:=n.length;simpa using this.symm
 refine W.kdl_call (L3 lo) v.hd C (by rw[y];exact hz) λO tk l c kp g j=>?_;have E:l.toList=t.toList.map (·.key):=vB j;refine⟨.ref s.heap.objs.size,_,I.laid (a:=s.heap.objs.size) (t':=tk) (o:=.lst (i.map λx=>kV x.1)) kp (zcK _) ⟨by rw[zbK];exact hz,l.toList,c,by rw[E];exact n,by rw[zaC];exact g⟩,rfl,q _ (I.hok.fresh (zcK _))⟩
theorem yP{k:Nat}(E:aV k X.A):bX X (.builtin "sorted") MQ:=by
 intro i s y H S U Q I r h;obtain⟨a,C,ns,rfl,e,F,t,q⟩:=h;obtain⟨u,rfl,ru⟩:=vals1 r;cases ru;obtain⟨lo,hz,L,Y,G,n⟩:=x6 I e;rw[F] at n;have W:L.size=ns.length:=by have:=n.length;simpa using this.symm
 refine uC E.hd lo G (vE n) (by lia) λh1 h2 tk out j c m l g P v O=>?_;have x:Inv X i y H {s with heap:=h1,toks:=tk}:=I.kept (t':=tk) m;refine⟨.ref h1.objs.size,_,x.laid (a:=h1.objs.size) (t':=tk) (o:=.lst (j.map V.int)) l (zcK _) ⟨by rw[zbK,v.length_eq,yaf];lia,out,c,k8 P,g⟩,rfl,q _ j (x.hok.fresh (zcK _)) v O⟩
theorem Nk(n:X.A.units+1<cLine):fE X (yan .In) (MT false):=by
 intro j s t H y x v u Q I l m h;obtain⟨a,i,k,rfl,rfl,e,q⟩:=h;obtain rfl:u=Value.ref a:=m;exact Tu n I (qi.k e) l λC o=>⟨.bl (gP i k).isSome,H,o,rfl,by simpa using q⟩
theorem BW(n:X.A.units+1<cLine):fE X (yan .NotIn) (MT true):=by
 intro j s t H y x v u Q I l m h;obtain⟨a,i,k,rfl,rfl,e,q⟩:=h;obtain rfl:u=Value.ref a:=m;exact JH n I (qi.k e) l λC o=>⟨.bl (!(gP i k).isSome),H,o,rfl,by simpa using q⟩
end L2
namespace M6
open PySem PySem.Spec PyProof.Rows
theorem B9:typeLookup (.type "list") (Str.ofString "keys")=pure none:=by rw[typeLookup_type];kernel_rfl
theorem Cf{n:Array yai}{k:Nat}{Q:Option yai->yah->Prop}(m:s.heap.get? a=some {cls:=.type "list",data:=.seq n k})(H:A.handled=none)(h:∀(h':Heap)(tk:Nat),(∀b o,s.heap.get? b=some o->h'.get? b=some o)->Q none {s with heap:=h',toks:=tk}):yar (model prog w) A (getAttr? (.ref a) (Str.ofString "keys")) Q E s:=by
 have v:=sub_AttributeError;have S:=PySem.F.slot_list_getattribute.lookup;have P:=PySem.F.slot_list_getattribute.bind (Value.ref a);have L:=am_list_getattr_none;have I:=B9;obtain⟨q,g,d,tk,os⟩:=s;dsimp only at h m⊢;have O:Shared.TypeIs ⟨q,g,d,tk,os⟩ (.ref a) "list":=⟨_,m,rfl⟩
 unfold getAttr? getAttrBy? getAttrBy getAttrByItsOwn callGetattribute boundAndCalled;generalize G:@PySem.call=C
 wp_walk
 subst G;refine call_meets PySem.F.slot_list_getattribute (s:=⟨q,g,d,tk+1,os⟩) ⟨_,m,rfl⟩ am_entry_list_getattribute (PySem.F.args_list_getattribute_2 (Value.ref a) (Value.str (Str.ofString "keys") tk)) (meets_getattribute_miss_list a n k #[] (Str.ofString "keys") tk I (by decide+kernel)) ⟨m,H,λh' i e j=>?_⟩;obtain⟨t,u,y⟩:=j.there;have l:Shared.TypeIs ⟨h',g,d,i,os⟩ (.ref e) "AttributeError":=⟨_,y,rfl⟩
 have x:=j.keeps;show yar (model prog w) A (getattributeRaised (Value.ref a) (Value.str (Str.ofString "keys") tk) (Value.type "list") (.ref e) none false false) _ _ _;unfold getattributeRaised;refine yaa (wpAny_isInstance l v ?_);rw[yIp rfl];refine yaa (wpAny_of_eq L ?_);show yar (model prog w) A (do let _ <-throw (Value.ref e);_) _ _ _;refine yaa (wpAny_throw ?_);show yar (model prog w) A (do
       let __do_lift <-isInstance (Value.ref e) (Value.type "AttributeError")
       if __do_lift=true then pure none else throw (Value.ref e)) Q E _
 refine yaa (wpAny_isInstance l v ?_);rw[yIp rfl];exact yab (h h' i x)
theorem qU:entryFor table "dict.update.loop"=some Builtin.«dict.update.loop»:=entryFor_of_tree (by kernel_rfl)
theorem i6:plainId "dict.update.loop"=true:=by decide+kernel
noncomputable def bU{K:Type}[DecidableEq K](ps:List (K×yai)):List (K×yai):=ps.foldl (λa p=>stored a p.1 p.2) []
section
variable {K:Type}[DecidableEq K]{knd:KeyKind prog w K}
def jF(knd:KeyKind prog w K)(h:Heap)(v:yai)(p:K×yai):Prop:=∃t a o n,v=.ref t/\h.get? t=some o/\o.cls=.type "tuple"/\o.data=.seq #[a,p.2] n/\knd.is p.1 a=true
theorem jF.at{v:yai}{p:K×yai}(x:jF knd h v p)(e:∀b o,o.cls=.type "tuple"->h.get? b=some o->h'.get? b=some o):jF knd h' v p:=by
 obtain⟨t,i,o,n,h1,h2,a,j⟩:=x;exact⟨t,i,o,n,h1,e t o a h2,a,j⟩
theorem nA{d:Addr}{kvs:List (K×yai)}(x:Heap.DictOf knd h d kvs)(e:∀o,h.get? d=some o->h'.get? d=some o):Heap.DictOf knd h' d kvs:=by
 obtain⟨o,a,i,h1,r⟩:=x;exact⟨o,a,i,e o h1,r⟩
theorem xo(kvs:List (K×yai))(k:K)(v:yai):(stored kvs k v).length<=kvs.length+1:=by
 unfold stored;split
 ·rw[zbK];lia
 ·rw[zaM];exact zcK _
theorem nP(ps:List (K×yai))(p:K×yai):bU (ps++[p])=stored (bU ps) p.1 p.2:=by
 unfold bU;rw[List.foldl_append];rfl
theorem pV(ps:List (K×yai)):(bU ps).length<=ps.length:=by
 have:∀(l h:List (K×yai)),(l.foldl (λh p=>stored h p.1 p.2) h).length<=h.length+l.length:=by
  intro l
  induction l with
  |nil=>intro h;simp
  |cons a r ih=>intro h;rw[zbQ,zbq];have:=ih (stored h a.1 a.2);have:=xo h a.1 a.2;lia
 have:=this ps [];simpa[bU] using this
theorem Cc{d:Addr}{ps:List (K×yai)}{R:Result->yah->Prop}{St:Nat->Heap->Prop}(W:Walks prog w A.in1 I [I,l] [I] its.size (λi v=>its[i]? =some v) St)(hSt:∀i h,St i h->∀o,h.get? I=some o->o.cls≠ .type "tuple")(u:d≠I)(Y:d≠l)(G:its.size=ps.length)(hn:ps.length<=1000):
  ∀(k i:Nat)(s:yah),its.size - i=k->i<=its.size->St i s.heap->Heap.DictOf knd s.heap d (bU (ps.take i))->(∀(i:Nat)(v:yai)(p:K×yai),its[i]? =some v->ps[i]? =some p->jF knd s.heap v p)->
   (∀(h':Heap)(tk:Nat),Heap.DictOf knd h' d (bU ps)->(∀b o,b≠d->b≠I->s.heap.get? b=some o->h'.get? b=some o)->R (.ok (.ret .none)) {s with heap:=h',toks:=tk})->
   codeAny (model prog w) A (.builtin "dict.update.loop" ⟨[.ref d,.ref I,rawInt i,.none],[]⟩) R s:=by
 intro k
 induction k with
 |zero=>
  intro i s hk hi a P hp hR;obtain rfl:i=its.size:=by lia
  refine codeAny_builtin qU ?_;rw[Around.under_plainId i6 _];show yar _ A.in1 (pyNext (.ref I) >>= _) _ _ s;refine yaa (W.done s _ _ a λh' tk x=>?_);rw[G,zbv] at P;refine yaa (yab ?_);exact yab (hR h' tk (nA P λo e=>x d o (by simpa using u) e) λb o h1 h2 e=>x b o (by simpa using h2) e)
 |succ k ih=>
  intro i s hk hi a P hp hR;have F:i<its.size:=by lia
  refine codeAny_builtin qU ?_;rw[Around.under_plainId i6 _];show yar _ A.in1 (pyNext (.ref I) >>= _) _ _ s;refine yaa (W.item i s _ _ F a λv h' tk hP y x=>?_);have C:ps[i]? =some ps[i]:=zak (by lia);have E:∀(i:Nat)(v:yai)(p:K×yai),its[i]? =some v->ps[i]? =some p->jF knd h' v p:=λj v p h1 h2=>(hp j v p h1 h2).at λb o q e=>x b o (by
   intro z;simp only[zaO] at z;subst z;exact hSt i _ a o e q) e
  obtain⟨t,ku,o,m,rfl,ho,q,hd,X⟩:=E i v _ hP C;have H:Heap.DictOf knd h' d (bU (ps.take i)):=nA P λo e=>x d o (by simpa using u) e;dsimp only;refine yaa (yad ?_);refine yaa (wpAny_tryCatch ?_);unfold Builtin.Dict.pairItems;refine yaa (wpAny_typeOf (T:="tuple") ⟨o,ho,q⟩ ?_);rw[yIp (by decide)];refine yaa (wpAny_seqItems ho hd (yab ?_));have h2:=pV (ps.take i);rw[zbr] at h2;refine yad (wpAny_dictSet_pairs X H (λn L hs=>?_) (by rw[yaf];lia));have e9:∀b o,b≠d->h'.get? b=some o->n.get? b=some o:=λb o O e=>(hs.2 b O).trans e;refine yab ⟨plainId_quiet i6 _,?_⟩;rw[show((i:Int)+1)=((i+1:Nat):Int) by lia];refine ih (i+1) {s with heap:=n,toks:=tk+1} (by lia) F (W.frame _ h' n y λb O o e=>e9 b o ?_ e) ?_ (λj v p h1 h2=>(E j v p h1 h2).at λb o q e=>e9 b o ?_ e) λh3 Q hD3 S=>?_
  ·simp only[zci,zbA,or_false] at O;rcases O with rfl|rfl
   ·exact Ne.symm u
   ·exact Ne.symm Y
  ·rw[List.take_succ,C];show Heap.DictOf knd n d (bU (ps.take i++[ps[i]]));rw[nP];exact L
  ·intro z;subst z;obtain⟨od,_,_,U,Z,_⟩:=H;rw[U] at e;cases e;rw[Z.1] at q;injection q with q;exact absurd q (by decide)
  ·exact hR h3 Q hD3 λb o h1 h2 e=>S b o h1 h2 (e9 b o h1 (x b o (by simpa using h2) e))
theorem yS{ps:List (K×yai)}(U:A.handled=none){c:Nat}(S:s.heap.get? l=some {cls:=.type "list",data:=.seq its c})(x:its.size=ps.length)(X:∀(i:Nat)(v:yai)(p:K×yai),its[i]? =some v->ps[i]? =some p->jF knd s.heap v p)(Z:ps.length<=1000)(h:∀(h':Heap)(tk:Nat),Heap.DictOf knd h' s.heap.objs.size (bU ps)->(∀b o,s.heap.get? b=some o->h'.get? b=some o)->Q (.ref s.heap.objs.size) {s with heap:=h',toks:=tk}):
  yar (model prog w) A (call (.type "dict") [.ref l]) Q E s:=by
 refine callType_codes PySem.F.kt_called_dict (PySem.F.kt_typeCall_dict_1 (.ref l)) PySem.F.entry_dict_init (kt_code_dict_new (.ref l) (Q₁:=λu j=>u=.ref s.heap.objs.size/\j={s with heap:=s.heap.push {cls:=.type "dict",data:=.dict #[]}}) ⟨rfl,rfl⟩) λobj j z=>?_;obtain⟨rfl,rfl⟩:=z;have a:Heap.DictOf knd (s.heap.push {cls:=Value.type "dict",data:=Data.dict #[]}) s.heap.objs.size []:=Heap.DictOf.new s.heap;have n:(s.heap.push {cls:=Value.type "dict",data:=Data.dict #[]}).get? l=some {cls:=.type "list",data:=.seq its c}:=zaq _ S;refine⟨Heap.DictOf.typeIs a,PySem.F.args_dict_init_2 _ _,?_⟩;unfold Builtin.«dict.__init__»;refine yaa (yaa (wpAny_notOrdered_dict (Heap.DictOf.typeIs a) (yab ?_)));show yar _ _ (Builtin.Dict.updateFrom "dict.__init__" s.heap.objs.size (.ref l) [] .none) _ _ _;unfold Builtin.Dict.updateFrom;refine yaa (wpAny_typeOf (T:="list") ⟨_,n,rfl⟩ ?_);rw[yIp (by decide)];refine yaa (Cf n U λh1 W m=>?_);rw[yIp (by decide)];refine yaa (wpAny_rule ?_);have y:h1.IsList l its:=⟨_,m _ _ n,rfl,c,rfl⟩
 refine yaa (wpAny_pyIter_list y ?_);have C:Heap.DictOf knd h1 s.heap.objs.size []:=nA a λo e=>m _ _ e;refine yab ⟨plainId_quiet i6 _,?_⟩;have G:s.heap.objs.size<h1.objs.size:=by obtain⟨o,_,_,Y,_⟩:=C;exact zcH Y
 have O:l<s.heap.objs.size:=zcH S;have q:∀b o,s.heap.get? b=some o->h1.get? b=some o:=λb o e=>m b o (zaq _ e);refine Cc (ps:=ps) (Walks.list (A:=A.in1.in1) U h1.objs.size l (zcx (zcB O G)) its) (λi h z o e=>?_) (zcx G) (zcA O) x Z its.size 0 _ rfl (zcL _) ?_ ?_ ?_ λh' tk L H=>⟨rfl,h h' tk L λb o e=>?_⟩
 ·obtain⟨o',t,I,_⟩:=z.1;rw[e] at t;cases t;rw[I];intro z;injection z with z;exact absurd z (by decide)
 ·exact⟨⟨_,zaK _ rfl,rfl,rfl⟩,y.at λo e=>zaq _ e⟩
 ·exact nA C λo e=>zaq _ e
 ·exact λi v p h2 h3=>(X i v p h2 h3).at λb o _ e=>zaq _ (q b o e)
 ·have P:=zcH e;exact H b o (zcx P) (zcx (zcB P G)) (zaq _ (q b o e))
end
end M6
namespace L2
open PySem PySem.Spec PyProof.Rows M6
noncomputable def putAll(kvs:List (Key×V)):List (Key×V):=kvs.foldl (λa p=>putK a p.1 p.2) []
theorem nZ:∀{kvs:List (Key×V)}{vs:List (Key×yai)},KV kvs vs->∀{a:List (Key×V)}{b:List (Key×yai)},KV a b->KV (kvs.foldl (λi p=>putK i p.1 p.2) a) (vs.foldl (λi p=>stored i p.1 p.2) b)
 |[],_,h,a,b,g=>by cases h;exact g
 |p::kvs,_,h,a,b,g=>by
  cases h with
  |@cons _ q _ vs r t=>
   show KV (kvs.foldl _ (putK a p.1 p.2)) (vs.foldl _ (stored b q.1 q.2));rw[<-r.1];exact nZ t (g.put p.1 r.2)
theorem x9(kvs:List (Key×V)):(putAll kvs).length<=kvs.length:=by
 have:∀(l h:List (Key×V)),(l.foldl (λh p=>putK h p.1 p.2) h).length<=h.length+l.length:=by
  intro l
  induction l with
  |nil=>intro h;simp
  |cons a r ih=>intro h;rw[zbQ,zbq];have:=ih (putK h a.1 a.2);have:=ir h a.1 a.2;lia
 have:=this kvs [];simpa[putAll] using this
def Pb(K:yaI)(H:Hp)(ts:List Addr)(kvs:List (Key×V)):Prop:=Paired (λt (p:Key×V)=>dI K H t [kV p.1,p.2]) ts kvs
def MV(K:yaI):List V->Hp->VK->Prop:=λj H Q=>∃(a:Addr)(i:List Addr)(h:List (Key×V)),j=[.ref a]/\H a=some (.lst (i.map V.ref))/\Pb K H i h/\h.length<=1000/\∀p,H p=none->Q (.ref p) (upd H p (.dK (putAll h)))
theorem qx:∀{ts:List Addr}{us:List yai},Vals (ts.map V.ref) us->us=ts.map Value.ref
 |[],us,h=>by cases h;rfl
 |t::ts,us,h=>by
  cases h with
  |cons r g=>
   obtain rfl:_=Value.ref t:=r;rw[qx g];rfl
theorem EV{j:List (Addr×Obj)}{x:St}{H:Hp}{s:yah}(I:Inv X j x H s):∀{ts:List Addr}{kvs:List (Key×V)},Pb X.K H ts kvs->∃ps:List (Key×yai),KV kvs ps/\ps.length=ts.length/\∀(i:Nat)(v:yai)(p:Key×yai),(ts.map Value.ref)[i]? =some v->ps[i]? =some p->jF (bN X.prog X.w) s.heap v p
 |[],_,h=>by cases h;exact⟨[],.nil,rfl,λi v p h=>by simp at h⟩
 |t::ts,_,h=>by
  cases h with
  |@cons _ q _ kvs r g=>
   obtain⟨ps,h1,h2,F⟩:=EV I g;obtain⟨y,a,⟨o,C,E,n,hd⟩,_⟩:=I.tuple r;cases a with
   |@cons _ ku _ its' g1 a=>
    cases a with
    |@cons _ u _ its'' g2 a=>
     cases a;refine⟨(q.1,u)::ps,.cons ⟨rfl,g2⟩ h1,by simp[h2],λi v p m l=>?_⟩;cases i with
     |zero=>
      simp only[zcj,List.getElem?_cons_zero,zcN.injEq] at m l;subst m;subst l;exact⟨t,ku,o,n,rfl,C,E,hd,qP g1⟩
     |succ i=>
      simp only[zcj,zam] at m l;exact F i v p m l
theorem yT{k:Nat}(E:aV k X.A):bX X (.type "dict") (MV X.K):=by
 intro m s O H P S Q I r h;obtain⟨a,x,j,rfl,e,F,W,q⟩:=h;obtain⟨u,rfl,ru⟩:=vals1 r;cases ru;obtain⟨hz,its,c,y,g⟩:=(show bg X.prog X.w H s.heap a (.lst (x.map V.ref)) from I.hok a _ e)
 have t:=qx y;obtain⟨ps,n,C,p3⟩:=EV I F;have U:=Paired.length n;refine yS (knd:=bN X.prog X.w) (its:=its.toArray) (ps:=ps) E.hd g (by rw[zaY,t,zbK];exact C.symm) (λi v p h1 h2=>p3 i v p (by rw[<-t];simpa using h1) h2) (by lia) λG tk L kp=>?_;have l:G.DictOf (bN X.prog X.w) s.heap.objs.size (bU ps):=L;refine⟨.ref s.heap.objs.size,_,I.laid (a:=s.heap.objs.size) (t':=tk) (o:=.dK (putAll j)) kp (zcK _) ⟨by have:=x9 j;rw[yaf];lia,beq_eq_false_iff_ne.mpr (Ne.symm (zcx I.big)),_,nZ n .nil,l⟩,rfl,q _ (I.hok.fresh (zcK _))⟩
end L2
namespace M
open PySem PySem.Spec PyProof.Rows L2 M6
noncomputable def keyOf:D->Option Key
 |.int i=>some (.inl i)
 |.str x=>some (.inr x)
 |_=>none
noncomputable def kD:Key->D
 |.inl i=>.int i
 |.inr x=>.str x
noncomputable def kh(ks:List Key)(k:Key):Bool:=ks.any λj=>decide (j=k)
theorem sf{w:Wd}{d:D}{k:Key}(h:Rep K w d v)(e:keyOf d=some k):v=kV k:=by
 cases d<;>simp only[keyOf] at e<;>cases e
 ·simpa[Rep,kV] using h
 ·simpa[Rep,kV] using h
theorem HW{w:Wd}{d:D}{k:Key}(h:Rep K w d v)(e:keyOf (aT S d)=some k):v=kV k:=by
 cases z:aT S d<;>rw[z] at e<;>simp only[keyOf] at e<;>cases e
 ·exact cz h z
 ·exact bM h z
theorem NT{w:Wd}(k:Key):Rep K w (kD k) (kV k):=by cases k<;>simp[kD,kV,Rep]
theorem Av{w:Wd}:∀(kvs:List (Key×V)),aq K w ((kvs.map (·.1)).map kD) (kvs.map λx=>kV x.1)
 |[]=>.nil
 |p::r=>.cons (NT p.1) (Av r)
def tW:AE:=λ_ S Q=>Q (.new (.dct [] [])) S
theorem Ip:∀a H Q,aS K tW a H Q->Dv a H Q:=by
 rintro a H Q ⟨w,i,S,j,ok,env,q,bk⟩ p h;exact bk (.new (.dct [] [])) S _ w _ .refl (ok.alloc h) (ok.fresh h ⟨[],rfl,rfl,.nil⟩) q
def gA(a b:AE):AE:=λh S Q=>a h S λn o=>b h o λm l=>∃i j k d,aT l n.d=.dct i j/\keyOf m.d=some k/\ki i j k=some d/\Q (.dat d) l
theorem Iq{a b:AE}:∀n H Q,aS K (gA a b) n H Q->KL (aS K a) (aS K b) n H Q:=by
 rintro n H Q ⟨w,t,S,Qa,ok,env,q,bk⟩;refine⟨w,t,S,_,ok,env,q,.go λY O W C H1 m s i E=>?_⟩;refine⟨C,t,O,_,s,env.le m,E,.go λX S2 U P H2 l j h o=>?_⟩;obtain⟨Z,ds,k,d,y,x,u,q2⟩:=o;obtain⟨a,F,rfl,h1,rfl,G⟩:=ff j (i.le l) y;obtain⟨v,L,I⟩:=Az G u;rw[sf h x];refine⟨a,v,rfl,?_,bk.dat (m.trans l) j I q2⟩;rw[<-L];exact qi.k h1
def pJ(a b c:AE):AS:=λD h S=>c h S λm t=>a h t λq s=>b h s λo l=>∃n j i k,q.d=.loc n/\keyOf o.d=some k/\l[n]? =some (some (.dct j i))/\i.length<1000/\D.nx h (l.set n (some (pq j i k m.d)))
theorem Im{a b c:AE}:∀D u H,gM K (pJ a b c) D u H->K6 (aS K a) (aS K b) (aS K c) D u H:=by
 rintro D u H ⟨w,v,S,Da,ok,env,q,bk⟩;refine⟨w,v,S,_,ok,env,q,.go λr3 S1 v3 U H1 j E m W=>?_⟩;refine⟨U,v,S1,_,E,env.le j,W,.go λr1 Z v1 Q H2 i C l q2=>?_⟩;refine⟨Q,v,Z,_,C,(env.le j).le i,q2,.go λr2 S3 v2 P H3 h s o x=>?_⟩;obtain⟨n,ks,Y,k,O,L,G,hl,q3⟩:=x;rw[O] at l;obtain⟨a,F,rfl,X,h1,rfl,I⟩:=Oi s (l.le h) G;rw[sf o L];have t:F.length=Y.length:=by have:=I.length;rw[zbK] at this;exact this
 refine⟨a,_,rfl,Hj.k h1 (by rw[t,yaf];lia),?_⟩;have y:=s.put G X (uV (k:=k) (m.le (i.trans h)) I);exact bk.nx v _ u P _ ((j.trans i).trans h) y (((env.le j).le i).le h) q3
def zg(a:Bool):A2:=λx y S Q=>match aT S y with
 |.dct ks _=>∃k,keyOf (aT S x)=some k/\Q (.dat (.bl (a != kh ks k))) S
 |_=>False
theorem Lq:∀x y H Q,vS K (zg neg) x y H Q->MT neg x y H Q:=by
 intro x y H Q h;obtain⟨w,d,e,S,s,ok,m,l,q,bk⟩:=h;unfold zg at q;cases z:aT S e<;>rw[z] at q<;>first|exact q.elim|skip
 obtain⟨k,j,q⟩:=q;obtain⟨a,i,rfl,h1,rfl,o⟩:=ff ok l z;refine⟨a,i,k,rfl,HW m j,h1,bk.dat .refl ok .bl ?_⟩;have n:kh (i.map (·.1)) k=(gP i k).isSome:=by
  unfold kh;rw[zcu];exact nK k i
 rw[<-n];exact q
def ze:AN:=λi S Q=>∃d a h,i=[d]/\aT S d=.dct a h/\Q (.new (.lst (a.map kD))) S
def OU:AN:=λi S Q=>∃d h,∃ns:List Int,i=[d]/\aT S d=.dct (ns.map Sum.inl) h/\ns.length<64/\∀a:List Int,a.Perm ns->a.Pairwise (· <=·)->Q (.new (.lst (a.map D.int))) S
noncomputable def vN(a:List Key×List D)(p:Key×D):List Key×List D:=if kh a.1 p.1=true then(a.1,(a.1.zip a.2).map λx=>if x.1=p.1 then p.2 else x.2) else(a.1++[p.1],a.2++[p.2])
noncomputable def mV(ps:List (Key×D)):List Key×List D:=ps.foldl vN ([],[])
def O4:AN:=λh S Q=>∃d,∃a:List (Key×D),h=[d]/\aT S d=.lst (a.map λp=>.tup [kD p.1,p.2])/\a.length<=1000/\Q (.new (.dct (mV a).1 (mV a).2)) S
theorem tH(a:List Key×List D)(p:Key×D):pq a.1 a.2 p.1 p.2=.dct (vN a p).1 (vN a p).2:=by
 unfold pq vN kh;split<;>rfl
theorem vP{w:Wd}:∀{ps:List (Key×D)}{kvs:List (Key×V)},Paired (λ(p:Key×D)(q:Key×V)=>p.1=q.1/\Rep K w p.2 q.2) ps kvs->∀{a:List Key×List D}{b:List (Key×V)},b.map (·.1)=a.1->aq K w a.2 (b.map (·.2))->
  (kvs.foldl (λi p=>putK i p.1 p.2) b).map (·.1)=(ps.foldl vN a).1/\aq K w (ps.foldl vN a).2 ((kvs.foldl (λi p=>putK i p.1 p.2) b).map (·.2))
 |[],_,h,a,b,g1,g2=>by cases h;exact⟨g1,g2⟩
 |p::ps,_,h,a,b,g1,g2=>by
  cases h with
  |@cons _ q _ kvs r t=>
   have j:=uV (K:=K) (k:=p.1) r.2 g2;rw[g1] at j;rw[show pq a.1 a.2 p.1 p.2=_ from tH a p] at j;obtain⟨m,l,o,n⟩:=j;injection l with l;subst l;rw[r.1] at o n;exact vP t o n
theorem qG{w:Wd}{H:Hp}{S:aN}(ok:Ok K w H S):∀{ps:List (Key×D)}{a:List V},aq K w (ps.map λp=>D.tup [kD p.1,p.2]) a->∃ts kvs,a=ts.map V.ref/\Pb K H ts kvs/\Paired (λ(p:Key×D)(q:Key×V)=>p.1=q.1/\Rep K w p.2 q.2) ps kvs
 |[],a,h=>⟨[],[],by simpa[aq] using h,.nil,.nil⟩
 |p::ps,a,h=>by
  simp only[zcj,aq] at h;obtain⟨x,r,rfl,h1,h2⟩:=h;obtain⟨ts,kvs,rfl,s,o⟩:=qG ok h2;simp only[Rep] at h1;obtain⟨t,v,rfl,n,i⟩:=h1;simp only[aq] at i;obtain⟨l,C,rfl,k1,j,y,rfl,m,rfl⟩:=i;have u:l=kV p.1:=sf k1 (by cases p.1<;>rfl);subst u;exact⟨t::ts,(p.1,j)::kvs,rfl,.cons (dI.same ok.base n) s,.cons ⟨rfl,m⟩ o⟩
section
variable {o i:Expr}
theorem fR:GE X (.Dict [] [] pos) tW:=⟨mE L2.fR Ip⟩
theorem c9(a:X.A.units+1<cLine)(j:GE X o ta)(hi:GE X i tb)(h:Pd i):GE X (.Subscript o i pos) (gA ta tb):=⟨mE (L2.IF a j.p hi.p h) Iq⟩
theorem gW{a:AE}(j:X.A.units+1<cLine)(m:GE X o ta)(hi:GE X i tb)(h:GE X value a)(l:yat value (some (.Subscript o i pos')) pos.line X.env=pure false):GS X (.Assign [.Subscript o i pos'] value pos) (pJ ta tb a):=
 ⟨mS (L2.ID j m.p hi.p h.p l) Im⟩
theorem QU{k:Nat}(a:aV k X.A):mH X (yan .In) (zg false):=⟨m2 (Nk (dW a)) Lq⟩
theorem u9{k:Nat}(a:aV k X.A):mH X (yan .NotIn) (zg true):=⟨m2 (BW (dW a)) Lq⟩
theorem sD{k:Nat}(n:aV k X.A):rK X (.type "list") ze:=⟨mC (yR n) λs H Q h=>by
 obtain⟨w,y,S,C,ok,rep,⟨d,t,x,rfl,z,q⟩,bk⟩:=h;obtain⟨v,rfl,m⟩:=eS rep;obtain⟨a,j,rfl,h1,rfl,u⟩:=ff ok m z;exact⟨a,j,rfl,h1,λp l=>bk (.new (.lst _)) S _ w _ .refl (ok.alloc l) (ok.fresh l ⟨_,rfl,Av j⟩) q⟩⟩
theorem Ai{k:Nat}(s:aV k X.A):rK X (.builtin "sorted") OU:=⟨mC (yP s) λC H Q h=>by
 obtain⟨w,G,S,I,ok,rep,⟨d,F,ns,rfl,z,t,q⟩,bk⟩:=h;obtain⟨v,rfl,n⟩:=eS rep;obtain⟨a,j,rfl,h1,h2,E⟩:=ff ok n z;refine⟨a,j,ns,rfl,h1,?_,t,λp l m y u=>bk (.new (.lst _)) S _ w _ .refl (ok.alloc m) (ok.fresh m ⟨_,rfl,eE l⟩) (q l y u)⟩;have:(j.map λx=>kV x.1)=(j.map (·.1)).map kV:=by rw[zcv];rfl
 rw[this,h2,zcv];rfl⟩
theorem sF{k:Nat}(y:aV k X.A):rK X (.type "dict") O4:=⟨mC (yT y) λt H Q h=>by
 obtain⟨w,I,S,L,ok,rep,⟨d,l,rfl,z,G,q⟩,bk⟩:=h;obtain⟨v,rfl,x⟩:=eS rep;obtain⟨a,t,rfl,h1,h2⟩:=br ok x z;obtain⟨u,j,rfl,C,s⟩:=qG ok h2;have n:=Paired.length s;obtain⟨F,E⟩:=vP s (a:=([],[])) (b:=[]) rfl .nil;exact⟨a,u,j,rfl,h1,C,by lia,λp m=>bk (.new (.dct (mV l).1 (mV l).2)) S _ w _ .refl (ok.alloc m) (ok.fresh m ⟨_,rfl,F,E⟩) q⟩⟩
end
def nF(W:yak)(ks:List D):Addr->List Addr->Heap->Prop:=λa bs=>lO W a ((ks.map py).zip bs)
noncomputable def nO(W:yak)(ks:List D):MO:=.Hy (nF W ks) ks
def cX(d:D):Prop:=bY d=true/\bJ (py d)=true/\(py d).depth<=6/\∃a,d=.tup a
noncomputable def putN(ks:List D)(k:D):List D:=if(ks.any λj=>decide (py j=py k))=true then ks else ks++[k]
theorem oY{w:Wd}{d:D}(ok:Ok K w H S)(h:Rep K w d v)(g:cX d):∃b,v=.ref b/\cN K H (py d) (.ref b):=by
 obtain⟨a,l,j,m,rfl⟩:=g;have h2:=h;simp only[Rep] at h2;obtain⟨b,i,rfl,_⟩:=h2;have:=zN ok h (by simpa[aT] using a);exact⟨b,rfl,by simpa[aT] using this⟩
theorem fS{w:Wd}{H:Hp}{S:aN}(ok:Ok K w H S):∀{ks:List D}{bs:List Addr},aq K w ks (bs.map V.ref)->(∀k∈ks,cX k)->pR K H ((ks.map py).zip bs)
 |[],bs,_,_=>λx i=>by simp at i
 |k::ks,[],h,_=>by simp only[zct,aq] at h;obtain⟨_,_,z,_⟩:=h;cases z
 |k::ks,b::bs,h,g=>by
  simp only[zcj,aq] at h;obtain⟨x,r,e,h1,h2⟩:=h;injection e with e1 e2;subst e1;subst e2;intro y a;rw[zcj,zaN] at a;rcases zci.mp a with rfl|a
  ·obtain⟨l,e,hd⟩:=oY ok h1 (g k (by simp));cases e;exact⟨(g k (by simp)).2.1,(g k (by simp)).2.2.1,hd⟩
  ·exact fS ok h2 (λk j=>g k (zay _ j)) y a
def tV(W:yak):AE:=λ_ S Q=>Q (.new (nO W [])) S
theorem Io{W:yak}:∀a H Q,aS K (tV W) a H Q->Du W a H Q:=by
 rintro a H Q ⟨w,i,S,j,ok,env,q,bk⟩ p h;exact bk (.new (nO W [])) S _ w _ .refl (ok.alloc h) (ok.fresh h ⟨p,[],rfl,.nil⟩) q
def wo(W:yak)(a b c:AE):AS:=λD h S=>c h S λm s=>a h s λo q=>b h q λj l=>∃n i,m.d=.bl true/\o.d=.loc n/\l[n]? =some (some (nO W i))/\cX j.d/\(∀k∈i,cX k)/\i.length<1000/\D.nx h (l.set n (some (nO W (putN i j.d))))
theorem ES{ks:List D}{bs:List Addr}{k:D}{b:Addr}(h:ks.length=bs.length):∃a,yb ((ks.map py).zip bs) (py k) b=((putN ks k).map py).zip a/\(a=bs/\putN ks k=ks∨a=bs++[b]/\putN ks k=ks++[k]):=by
 have e:(((ks.map py).zip bs).any λx=>decide (x.1=py k))=(ks.any λj=>decide (py j=py k)):=by
  have:((ks.map py).zip bs).map (·.1)=ks.map py:=zbB (by rw[zbK];lia);have h1:(((ks.map py).zip bs).any λx=>decide (x.1=py k))=((((ks.map py).zip bs).map (·.1)).any λd=>decide (d=py k)):=by rw[zcu];rfl
  rw[h1,this,zcu];rfl
 unfold yb putN;rw[e];by_cases i:(ks.any λj=>decide (py j=py k))=true
 ·rw[yIp i,yIp i];exact⟨bs,rfl,.inl ⟨rfl,rfl⟩⟩
 ·rw[yIn i,yIn i];refine⟨bs++[b],?_,.inr ⟨rfl,rfl⟩⟩;rw[zbS,List.zip_append (by rw[zbK];exact h)];rfl
theorem Mn{W:yak}{a b c:AE}:∀D v H,gM K (wo W a b c) D v H->K4 K W (aS K a) (aS K b) (aS K c) D v H:=by
 rintro D v H ⟨w,x,S,Da,ok,env,q,bk⟩;refine⟨w,x,S,_,ok,env,q,.go λr3 S1 v3 w1 H1 j G s q1=>?_⟩;refine⟨w1,x,S1,_,G,env.le j,q1,.go λr1 S2 v1 w2 H2 o F h q2=>?_⟩;refine⟨w2,x,S2,_,F,(env.le j).le o,q2,.go λE S3 v2 Z H3 m i l C=>?_⟩;obtain⟨n,P,Y,X,O,I,g2,hl,q3⟩:=C;rw[X] at h;have h:=h.le m;simp only[Rep] at h;obtain⟨a,Q,rfl⟩:=h;obtain⟨a1,u,k1,k2,k3,U,bs,rfl,y⟩:=i.live n _ O;rw[Q] at k1;cases k1;obtain⟨b,rfl,hb⟩:=oY i l I;have t:P.length=bs.length:=by have:=y.length;rw[zbK] at this;exact this.symm
 refine⟨a,U,b,_,py E.d,?_,rfl,rfl,k3,fS i y g2,I.2.1,I.2.2.1,hb,?_,λe=>?_⟩
 ·rw[gU s Y]
 ·rw[zbU,zbK];lia
 ·subst e;obtain⟨L,e1,e2⟩:=ES (k:=E.d) (b:=b) t;rw[e1];refine bk.nx x _ v Z _ ((j.trans o).trans m) (i.put O Q (o':=nO W (putN P E.d)) ⟨U,L,rfl,?_⟩) (((env.le j).le o).le m) q3;rcases e2 with⟨rfl,e⟩|⟨rfl,e⟩
  ·rw[e];exact y
  ·rw[e,zbS];exact y.snoc l
def OT(W:yak):AN:=λi S Q=>∃n a,i=[.loc n]/\S[n]? =some (some (nO W a))/\(∀k∈a,cX k/\∃p r,py k=PyData.tuple (.int p::r))/\(∀k∈a,∀l∈a,bK (py k) (py l)=true)/\a.length<64/\∀h:List D,h.Perm a->Q (.new (.lst h)) S
theorem m6{w:Wd}:∀{ks:List D}{bs:List Addr},aq K w ks (bs.map V.ref)->∀x∈ks.zip bs,Rep K w x.1 (.ref x.2)
 |[],_,_,x,a=>by simp at a
 |_::_,[],_,x,a=>by simp at a
 |k::ks,b::bs,h,x,a=>by
  simp only[zcj,aq] at h;obtain⟨y,r,e,h1,h2⟩:=h;injection e with e1 e2;subst e1;subst e2;rw[zaN] at a;rcases zci.mp a with rfl|a
  ·exact h1
  ·exact m6 h2 x a
theorem dF{w:Wd}:∀{o:List (D×Addr)},(∀x∈o,Rep K w x.1 (.ref x.2))->aq K w (o.map (·.1)) (o.map λx=>V.ref x.2)
 |[],_=>.nil
 |x::o,h=>.cons (h x (by simp)) (dF λy a=>h y (zay _ a))
section
variable {o i:Expr}
theorem fQ:GE X (.Dict [] [] pos) (tV X.w):=⟨mE L2.fQ Io⟩
theorem gi{k:Nat}(l:aV k X.A){a:AE}(m:GE X o ta)(hi:GE X i tb)(h:GE X value a)(j:yat value (some (.Subscript o i pos')) pos.line X.env=pure false):GS X (.Assign [.Subscript o i pos'] value pos) (wo X.w ta tb a):=
 ⟨mS (L2.gi (by have:=l.units;lia) m.p hi.p h.p j) Mn⟩
theorem IY{k:Nat}(Z:aV k X.A):rK X (.builtin "sorted") (OT X.w):=⟨mC (yO Z) λxs H Q h=>by
 obtain⟨w,ds,S,Qa,ok,rep,⟨n,s,rfl,z,P,g2,hl,q⟩,bk⟩:=h;obtain⟨v,rfl,G⟩:=eS rep;simp only[Rep] at G;obtain⟨a,h0,rfl⟩:=G;obtain⟨a1,u,k1,k2,U,a',bs,rfl,E⟩:=ok.live n _ z;rw[h0] at k1;cases k1;have O:s.length=bs.length:=by have:=E.length;rw[zbK] at this;exact this.symm
 have C:∀x∈(s.map py).zip bs,∃k∈s,x.1=py k:=λx l=>by
  have:=(zbN l).1;obtain⟨k,m,e⟩:=zcw.mp this;exact⟨k,m,e.symm⟩
 refine⟨a,a',_,rfl,U,fS ok E (λk m=>(P k m).1),λx l=>?_,λx l y Y=>?_,by rw[zbU,zbK];lia,λp out L j=>?_⟩
 ·obtain⟨k,m,e⟩:=C x l;rw[e];exact(P k m).2
 ·obtain⟨k,m,e⟩:=C x l;obtain⟨W,F,e'⟩:=C y Y;rw[e,e'];exact g2 k m W F
 ·have ez:(s.map py).zip bs=(s.zip bs).map λx=>(py x.1,x.2):=by rw[List.zip_map_left];rfl
  rw[ez] at j;obtain⟨t,I,rfl⟩:=cK j;have e2:(zcT (λk:yam×Addr=>V.ref k.2) (t.map λx=>(py x.1,x.2)))=t.map λx=>V.ref x.2:=by rw[zcv];rfl
  rw[e2];refine bk (.new (.lst (t.map (·.1)))) S _ w _ .refl (ok.alloc L) (ok.fresh L ⟨_,rfl,dF λx l=>m6 E x (I.mem_iff.mp l)⟩) (q _ ?_);have:=I.map (·.1);rw[zbB (by lia)] at this;exact this⟩
end
theorem Dh{u:HO}(h:H a=some u):upd H a u=H:=by
 funext b;by_cases i:b=a
 ·subst i;rw[bG,h]
 ·rw[aP i]
inductive C3(p:Nat)(ks:List Key):List D->aN->List D->aN->Prop
 |nil {ds:List D}{S:aN}:C3 p ks ds S ds S
 |step {ds ds' es:List D}{S S':aN}{m:Nat} (h:S[m]? =some (some (.lst es))) (hm:m≠p) (t:C3 p ks (ds.map (sb m (.lst es))) ((S.set m none).set p (some (.dct ks (ds.map (sb m (.lst es)))))) ds' S'):C3 p ks ds S ds' S'
theorem Jy{p:Nat}{ks:List Key}{n:List D}{C:aN}(h:C3 p ks ds S n C):∀{w:Wd}{H:Hp},S[p]? =some (some (.dct ks ds))->Ok K w H S->∃F,w.le F/\Ok K F H C:=by
 induction h with
 |nil=>exact λ_ ok=>⟨_,.refl,ok⟩
 |@step ds n es S C m hS hm t ih=>
  intro w H o ok;obtain⟨E,i,s,f⟩:=Rk ok hS;have P:p<S.length:=by
   rcases zcC p S.length with z|z
   ·exact z
   ·rw[zat z] at o;cases o
  have y:(S.set m none)[p]? =some (some (.dct ks ds)):=by rw[zaA hm];exact o
  obtain⟨a,u,k1,Q,O,l,rfl,L,k6⟩:=ok.live p _ o;have x:E.r p=some a:=i.r _ _ k1;have I:lX K E (.dct ks (ds.map (sb m (.lst es)))) (.dK l):=⟨l,rfl,L,xC i f k6⟩
  have j:=s.put y x I;rw[Dh O] at j;obtain⟨G,v,q⟩:=ih (by rw[zbd,yIp rfl,yIp (by simpa using P)]) j;exact⟨G,i.trans v,q⟩
def Gu(a:AE):AE:=λn S Q=>a n S λr m=>∃p i j h l,r=.dat (.loc p)/\m[p]? =some (some (.dct i j))/\C3 p i j m h l/\Q (.dat (.loc p)) l
theorem My{a:AE}:∀j H Q,aS K (Gu a) j H Q->aS K a j H Q:=by
 rintro j H Q ⟨w,s,S,P,ok,env,q,bk⟩;refine⟨w,s,S,_,ok,env,q,λr O v t U o n h l=>?_⟩;obtain⟨p,G,I,E,L,C,y,x,u⟩:=l;subst C;have h:Rep K t (.loc p) v:=h;obtain⟨F,i,m⟩:=Jy x y n;exact bk.dat (o.trans i) m (h.le i) u
theorem Tp{t:AE}(h:GE X e t):GE X e (Gu t):=⟨mE h.p My⟩
end M
namespace M7
open PySem PySem.Spec PyProof.Rows M5
def mY(a:Array Nat):Prop:=∀i j,i<j->(h:j<a.size)->(l:i<a.size)->a[i]<a[j]
theorem pG{a:Array Nat}(l:mY a)(j:Nat):∀(f lo hi:Nat),hi - lo<=f->lo<=hi->hi<=a.size->(∀i (h:i<a.size),i<lo->a[i]<j)->(∀i (h:i<a.size),hi<=i->j<=a[i])->
  SetTable.below.go a j f lo hi<=a.size/\(∀i (h:i<a.size),i<SetTable.below.go a j f lo hi->a[i]<j)/\∀i (h:i<a.size),SetTable.below.go a j f lo hi<=i->j<=a[i]
 |0,lo,hi,h1,h2,h3,h4,h5=>by
  rw[SetTable.below.go.eq_1];have:hi=lo:=by lia
  subst this;exact⟨h3,h4,h5⟩
 |f+1,lo,hi,h1,h2,h3,h4,h5=>by
  rw[SetTable.below.go.eq_2];by_cases q:lo<hi
  ·rw[yIp q];dsimp only;have m:(lo+hi) / 2<a.size:=by lia
   have s:a.getD ((lo+hi) / 2) j=a[(lo+hi) / 2]:=by simp[zcQ,m]
   rw[s];by_cases o:a[(lo+hi) / 2]<j
   ·rw[yIp o];refine pG l j f _ hi (by lia) (by lia) h3 (λi h n=>?_) h5;rcases zcC i ((lo+hi) / 2) with z|z
    ·have:=l i _ z m h;lia
    ·obtain rfl:i=(lo+hi) / 2:=by lia
     exact o
   ·rw[yIn o];refine pG l j f lo _ (by lia) (by lia) (by lia) h4 (λi h n=>?_);rcases zcC ((lo+hi) / 2) i with z|z
    ·have:=l _ i z h m;lia
    ·obtain rfl:i=(lo+hi) / 2:=by lia
     lia
  ·rw[yIn q];have:hi=lo:=by lia
   subst this;exact⟨h3,h4,h5⟩
theorem iA{a:Array Nat}(l:mY a)(j:Nat):SetTable.below a j<=a.size/\(∀i (h:i<a.size),i<SetTable.below a j->a[i]<j)/\∀i (h:i<a.size),SetTable.below a j<=i->j<=a[i]:=
 pG l j a.size 0 a.size (by lia) (zcL _) (zcK _) (λi h z=>absurd z (zbW _)) (λi h z=>by lia)
theorem yX{a:Array Nat}(h:mY a)(hi:i<a.size):SetTable.below a (a[i]+1)=i+1:=by
 obtain⟨h1,h2,l⟩:=iA h (a[i]+1);have m:i<SetTable.below a (a[i]+1):=by
  rcases zcC i (SetTable.below a (a[i]+1)) with z|z
  ·exact z
  ·have:=l i hi z;lia
 rcases zcC (i+1) (SetTable.below a (a[i]+1)) with z|z
 ·have j:i+1<a.size:=by lia
  have:=h2 (i+1) j z;have:=h i (i+1) (by lia) j hi;lia
 ·lia
theorem yW{a:Array Nat}(h:mY a):SetTable.below a 0=0:=by
 obtain⟨h1,h2,i⟩:=iA h 0;rcases Nat.eq_zero_or_pos (SetTable.below a 0) with z|z
 ·exact z
 ·have:=h2 0 (by lia) z;lia
theorem fN{n:Array Nat}:mY n↔n.toList.Pairwise (· < ·):=by
 rw[zah];constructor
 ·intro h i j m l a;have:=h i j a (by simpa using l) (by simpa using m);simpa using this
 ·intro h i j a l m;have:=h i j (by simpa using m) (by simpa using l) a;simpa using this
theorem uO{h:Array Nat}(o:mY h)(v:(h[SetTable.below h j]? ==some j)=false):mY (SetTable.insertAt h (SetTable.below h j) j):=by
 obtain⟨h1,h2,y⟩:=iA o j;rw[fN] at o⊢;have e:(SetTable.insertAt h (SetTable.below h j) j).toList=h.toList.take (SetTable.below h j)++[j]++h.toList.drop (SetTable.below h j):=by
  unfold SetTable.insertAt;simp[Array.toList_extract];exact List.take_of_length_le (by simp)
 rw[e];generalize SetTable.below h j=p at*;have u:∀x∈h.toList.take p,x<j:=λx l=>by
  obtain⟨i,s,rfl⟩:=zaG l;rw[zbr] at s;have:=h2 i (by simp at s;lia) (by lia);simpa using this
 have hd:∀x∈h.toList.drop p,j<x:=λx l=>by
  obtain⟨i,s,rfl⟩:=zaG l;rw[zbs] at s;have q:p+i<h.size:=by simp at s;lia
  have H:=y (p+i) q (by lia);have C:(h.toList.drop p)[i]=h[p+i]:=by simp
  rw[C];have m:p<h.size:=by lia
  have G:h[p]≠j:=λz=>by
   rw[zai m,z] at v;simp at v
  rcases Nat.eq_zero_or_pos i with rfl|z
  ·have:h[p+0]=h[p]:=rfl;lia
  ·have F:=y p m (zcK _);have E:=fN.mpr o p (p+i) (by lia) q m;lia
 rw[List.pairwise_append,List.pairwise_append];refine⟨⟨o.sublist (List.take_sublist ..),by simp,λa n b t=>?_⟩,o.sublist (List.drop_sublist ..),λa n b t=>?_⟩
 ·rw[zaO.mp t];exact u a n
 ·rcases zbJ.mp n with n|n
  ·exact zcB (u a n) (hd b t)
  ·rw[zaO.mp n];exact hd b t
theorem nv{α:Type}(f:Nat->Option α):∀l:List Nat,(zcT (λx=>x.1) (List.filterMap (λj=>Option.map (λx=>(j,x)) (f j)) l)).Sublist l
 |[]=>.slnil
 |a::l=>by
  rw[zaD];cases f a with
  |none=>exact .cons a (nv f l)
  |some x=>exact .cons₂ a (nv f l)
def qg(t:SetTable):Prop:=t.dummies=#[]/\(t.plain=true->mY t.place)
theorem gq(t:SetTable)(n:Nat):qg (t.standIn n):=⟨rfl,λz=>by cases z⟩
theorem Ja(h:qg t):qg (t.orStandIn n):=by
 unfold SetTable.orStandIn;split
 ·exact h
 ·exact gq t n
theorem B4{mask finger moves:Nat}{led plain:Bool}{a:Array Int}{o:Array Nat}(h:SetTable.laid mask finger moves led plain a=some (t,o)):qg t:=by
 unfold SetTable.laid at h;cases i:SetTable.layClean mask a with
 |none=>rw[i] at h;cases h
 |some ow=>
  rw[i] at h;have h:some _=some _:=h;injection h with h;injection h with h1 h2;subst h1;refine⟨rfl,λ_=>?_⟩;rw[fN];exact List.Pairwise.sublist (nv _ _) List.pairwise_lt_range
theorem ym:qg (relayAll t es n).2.1:=by
 unfold relayAll;split
 ·rename_i i a h;dsimp only;split
  ·exact B4 h
  ·exact gq _ _
 ·exact gq _ _
theorem n9{t:SetTable}(hd:t.dummies=#[]){hashAt:Nat->Int}{h:Int}:∀(f:Nat)(p:SetTable.Probe){j:Nat}{dm:Option Nat},p.dummy=none->SetTable.probe.go t hashAt h f p=some (.empty j dm)->dm=none/\(t.place[SetTable.below t.place j]? ==some j)=false
 |0,p,j,dm,_,e=>by rw[SetTable.probe.go.eq_1] at e;cases e
 |f+1,p,j,dm,hp,e=>by
  rw[SetTable.probe.go.eq_2] at e;have i:∀q,t.slot q=if(t.place[SetTable.below t.place q]? ==some q)=true then .live (SetTable.below t.place q) else .empty:=λq=>by
   unfold SetTable.slot;dsimp only;rw[hd];have:SetTable.has #[] q=false:=by unfold SetTable.has;rfl
   rw[this];rfl
  have Dc:(t.advance p).dummy=none:=by
   unfold SetTable.advance;split
   ·exact hp
   ·exact hp
  rw[i] at e;by_cases a:(t.place[SetTable.below t.place p.j]? ==some p.j)=true
  ·rw[yIp a] at e;dsimp only at e;split at e
   ·cases e
   ·exact n9 hd f _ Dc e
  ·rw[yIn a] at e;dsimp only at e;injection e with e;injection e with e1 e2;subst e1;exact⟨by rw[<-e2];exact hp,by simpa using a⟩
theorem Fb{h:Int}{x:yai}(i:qg t):qg (layNew t es h x).2.1:=by
 unfold layNew;split
 ·rename_i slot wd a;dsimp only;refine Ja ?_;unfold SetTable.freeSlot at a;split at a
  ·rename_i j dm m;injection a with a;injection a with l e2;obtain⟨rfl,h2⟩:=n9 i.1 _ _ rfl m;have l:j=slot:=l;subst l;have n:SetTable.has t.dummies j=false:=by rw[i.1];unfold SetTable.has;rfl
   refine⟨?_,λz=>?_⟩
   ·show(if SetTable.has t.dummies j=true then _ else t.dummies)=#[];rw[yIn (by rw[n];decide)];exact i.1
   ·exact uO (i.2 z) h2
  ·cases a
 ·exact gq _ _
noncomputable def intOf:yai->Int
 |.int i _=>i
 |_=>0
def T5(prog:yaj)(w:yak)(o:Obj)(S:List Int):Prop:=
 ∃a h t,o.ExactSet/\o.data=.set a h t/\ElemsOf (PySem.intKind prog w) a.toList/\(a.toList.map λe=>intOf e.2).Perm S/\t.fits a.size=true/\t.led=(!w.params.followText "set-order")/\qg t
def gH(prog:yaj)(w:yak)(h:Heap)(a:Addr)(S:List Int):Prop:=∃o,h.get? a=some o/\T5 prog w o S
noncomputable def lV(S:List Int)(x:Int):List Int:=if x∈S then S else S++[x]
theorem Js(x:Int)(t:Tok):(PySem.intKind prog w).is x (.int x t)=true:=by
 show Value.isInt x (.int x t)=true;simp[Value.isInt]
theorem sW{x:Int}{v:yai}(h:(PySem.intKind prog w).is x v=true):intOf v=x:=by
 obtain⟨t,rfl⟩:=Value.isInt_shape h;rfl
theorem add_int{S:List Int}{x:Int}{tk:Tok}{Q:Bool->yah->Prop}(hS:gH prog w s.heap a S)(hn:S.length+1<4096)(h:∀b h',Heap.SameBut a s.heap h'->gH prog w h' a (lV S x)->Q b {s with heap:=h'}):
  yar (model prog w) A (setAddHashed a (.int x tk) ((PySem.intKind prog w).hash x)) Q E s:=by
 obtain⟨o,ho,es,ep,t,P,hd,v,hp,hf,u,hpl⟩:=hS;have ab:es.size=S.length:=by rw[<-hp.length_eq,zbK,zaJ]
 have hb:es.size<scanBound:=by show es.size<4096;lia
 unfold setAddHashed;unfold setAddHashedIn;refine yad (yaa (wpAny_setState_of ho hd hf ?_));dsimp only;rw[byScan_of (x:=.int x tk) rfl hb v,yIp rfl];unfold setAddByScan;refine yaa (yaa (wpAny_rule (yaa (wpAny_setScan_of (k:=x) (Js x tk) ho hd hf v ?_))));cases hr:List.findIdx? (λe=>(PySem.intKind prog w).is x e.2) es.toList with
 |some j=>
  obtain⟨hj,hpj,_⟩:=List.findIdx?_eq_some_iff_getElem.mp hr;have W:x∈S:=hp.mem_iff.mp (zcw.mpr ⟨_,zby hj,sW hpj⟩);dsimp only;refine yab (yab ?_);have q:=h false s.heap (Heap.SameBut.refl a s.heap) (by
   unfold lV;rw[yIp W];exact⟨o,ho,es,ep,t,P,hd,v,hp,hf,u,hpl⟩)
  exact q
 |none=>
  have W:x ∉ S:=λW=>by
   obtain⟨e,he,z⟩:=zcw.mp (hp.mem_iff.mpr W);obtain⟨⟨k,hk,_⟩,_⟩:=v e he;rw[sW hk] at z;subst z;have:=List.findIdx?_eq_none_iff.mp hr e he;rw[hk] at this;cases this
  dsimp only;have n:=layNew_perm t es ((PySem.intKind prog w).hash x) (.int x tk);have F:=layNew_fits t es ((PySem.intKind prog w).hash x) (.int x tk);have y:=Fb (es:=es) (h:=(PySem.intKind prog w).hash x) (x:=.int x tk) hpl;have C:=vv t es ((PySem.intKind prog w).hash x) (.int x tk);generalize layNew t es ((PySem.intKind prog w).hash x) (.int x tk)=L at n F C y⊢;obtain⟨i,t1,wd,gv⟩:=L;dsimp only at n F C y⊢;rw[zbl] at n;have H:ElemsOf (PySem.intKind prog w) i.toList:=(v.push (Js x tk) rfl).perm n;have I:(i.toList.map λe=>intOf e.2).Perm (S++[x]):=by
   refine(n.map _).trans ?_;rw[zbS];exact hp.append_right [x]
  have G:i.size=S.length+1:=by rw[<-zaJ,<-zbK (f:=λe:Int×yai=>intOf e.2),I.length_eq,zaM];rfl
  have gw:∀(b:Bool){m:yah}{Q':Unit->yah->Prop},Q' () m->yar (model prog w) A (match b with|true=>rule "set.scan.the-table-gave-way"|false=>pure ()) Q' E m:=by
   intro b m Q' q;cases b
   ·exact yab q
   ·exact wpAny_rule q
  refine yaa (gw _ ?_);have fin:∀(l:SetTable),l.fits i.size=true->l.led=t.led->qg l->yar (model prog w) A (do
    storeSet a i l
    if(!wd&&l.tooFull)=true then do
      (match(relayAll l i (SetTable.grown i.size)).2.2 with|true=>rule "set.scan.the-table-gave-way"|false=>pure ())
      storeSet a (relayAll l i (SetTable.grown i.size)).1 (relayAll l i (SetTable.grown i.size)).2.1
      pure (some true)
     else pure (some true)) (λr s'=>r=some true/\Q true s') E s:=by
   intro l f2 l2 p2;refine yaa (wpAny_storeSet_of ho hd ?_ (by rw[G,yaf];lia));have O:=jH i l ho hd;have X:=Heap.SameBut.update s.heap a (Obj.putSet i l);split
   ·have Y:=relayAll_perm l i (SetTable.grown i.size);have rf:=relayAll_fits l i (SetTable.grown i.size);have rk:=pX l i (SetTable.grown i.size);have rn:qg (relayAll l i (SetTable.grown i.size)).2.1:=ym;generalize relayAll l i (SetTable.grown i.size)=Rl at Y rf rk rn⊢;obtain⟨U,t3,g2⟩:=Rl;dsimp only at Y rf rk rn⊢;have Z:U.size=i.size:=by rw[<-zaJ,Y.length_eq,zaJ]
    refine yaa (gw _ ?_);refine yaa (wpAny_storeSet_of O rfl ?_ (by rw[Z,G,yaf];lia));refine yab ⟨rfl,h true _ (X.trans (Heap.SameBut.update _ a _)) ⟨_,jH U t3 O rfl,U,_,t3,P,rfl,H.perm Y,?_,rf,rk.1.trans (l2.trans u),rn⟩⟩
    ·unfold lV;rw[yIn W];exact(Y.map _).trans I
   ·refine yab ⟨rfl,h true _ X ⟨_,O,i,_,l,P,rfl,H,?_,f2,l2.trans u,p2⟩⟩;unfold lV;rw[yIn W];exact I
  cases hpt:t1.plain with
  |true=>
   rw[yIp rfl];refine yaa ?_;rw[hashByValue_scannable 8 (x:=.int x tk) rfl];refine yab ?_;refine yac (fin _ ?_ ?_ ?_) ?_ (λ_ _ z=>z)
   ·rw[yIp (by simp[plainKind])];exact F
   ·rw[yIp (by simp[plainKind])];exact C.1
   ·rw[yIp (by simp[plainKind])];exact y
   ·rintro r s' ⟨rfl,q⟩;exact yab q
  |false=>
   rw[yIn (by decide)];refine yaa (yab ?_);refine yac (fin _ ?_ ?_ ?_) ?_ (λ_ _ z=>z)
   ·rw[yIp rfl];exact F
   ·rw[yIp rfl];exact C.1
   ·rw[yIp rfl];exact y
   ·rintro r s' ⟨rfl,q⟩;exact yab q
noncomputable def allI(val:Nat->Int):Nat->List Int
 |0=>[]
 |i+1=>lV (allI val i) (val i)
theorem wj(S:List Int)(x:Int):(lV S x).length<=S.length+1:=by
 unfold lV;split
 ·lia
 ·rw[zaM];exact zcK _
theorem iC(val:Nat->Int):∀i,(allI val i).length<=i
 |0=>zcK _
 |i+1=>zcy (wj ..) (Nat.succ_le_succ (iC val i))
theorem gH.keep{S:List Int}(x:gH prog w h a S)(e:∀o,h.get? a=some o->h'.get? a=some o):gH prog w h' a S:=
 by obtain⟨o,i,r⟩:=x;exact⟨o,e o i,r⟩
section
variable {R:Result->yah->Prop}{wr:List Addr}{P:Nat->yai->Prop}{St:Nat->yah->Prop}
theorem Fo(W:WalksS prog w A.in1 I fp wr G n P St)(a:Addr)(X:a ∉ fp)(val:Nat->Int)(l:∀i v,P i v->∃t,v=.int (val i) t)(hn:n<4000):
  ∀(k i:Nat)(s:yah),n - i=k->i<=n->St i s->gH prog w s.heap a (allI val i)->
   (∀s',Moved (a::wr) G s s'->gH prog w s'.heap a (allI val n)->R (.ok (.ret .none)) s')->
   codeAny (model prog w) A (.builtin "set.update.loop" ⟨[.ref a,.ref I],[]⟩) R s:=by
 have C:a ∉ wr:=λz=>X (W.sub _ z);have j:∀b∈wr,b∈a::wr:=λb z=>zay _ z;intro k
 induction k with
 |zero=>
  intro i s Y Z h S U;obtain rfl:i=n:=by lia
  refine codeAny_builtin PyProof.Rows.F.entry_set_update_loop ?_;rw[Around.under_plainId PyProof.Rows.F.plain_set_update_loop _];show yar _ A.in1 (pyNext (.ref I) >>= _) _ _ s;refine yaa (W.done s _ _ h λs' x=>?_);exact yab (U s' (x.mono j) (S.keep λo e=>x.heap a o C e))
 |succ k ih=>
  intro i s Y Z h S U;have y:i<n:=by lia
  refine codeAny_builtin PyProof.Rows.F.entry_set_update_loop ?_;rw[Around.under_plainId PyProof.Rows.F.plain_set_update_loop _];show yar _ A.in1 (pyNext (.ref I) >>= _) _ _ s;refine yaa (W.item i s _ _ y h λv s' hP m x=>?_);obtain⟨t,rfl⟩:=l i v hP;have Q:gH prog w s'.heap a (allI val i):=S.keep λo e=>x.heap a o C e;show yar _ A.in1 (holding [Value.int (val i) t] (setAdd a (.int (val i) t)) >>= _) _ _ s';refine yaa (yad ?_);unfold setAdd;refine yad (yaa ((PySem.intKind prog w).pyHash (k:=val i) (Js _ _) ?_));have:=iC val i;refine add_int (s:={s' with toks:=s'.toks+1}) Q (by lia) λb h' q O=>?_;refine yab ⟨plainId_quiet PyProof.Rows.F.plain_set_update_loop _,ih (i+1) _ (by lia) y (W.frame _ s' _ _ m (zcM _) λb L o e=>?_) O λH u E=>?_⟩
  ·rw[q.2 b λz:b=a=>X (z▸L)];exact e
  ·refine U H (Moved.trans W.gtrans ((x.mono j).then_heap (zcM _) λb o L e=>?_) u) E;rw[q.2 b λz:b=a=>L (z▸zaL)];exact e
end
theorem rM(e:h.get? a=some (bh (!w.params.followText "set-order"))):gH prog w h a []:=
 ⟨_,e,#[],0,_,⟨rfl,rfl,rfl⟩,rfl,λe m=>by simp at m,.nil,rfl,rfl,rfl,λ_=>λi j _ l _=>absurd l (by simp[SetTable.fresh])⟩
theorem rq{T:String}{ob:Obj}{Z:Heap->Prop}(Y:s.TypeIs (.ref l) T)(h1:isSubtype (.type T) (.type "set")=pure false)(h2:isSubtype (.type T) (.type "frozenset")=pure false)(h3:(Value.type T==Value.type "dict")=false)(it:∀{A':yal}{s':yah}{Q':yai->yah->Prop}{E':yai->yah->Prop},(∀b o,s.heap.get? b=some o->s'.heap.get? b=some o)->Q' (.ref s'.heap.objs.size) {s' with heap:=s'.heap.push ob}->yar (model prog w) A' (pyIter (.ref l)) Q' E' s')(C:ob.isFreed=false)(lp:∀(I:Addr)(h0:Heap){R:Result->yah->Prop},(∀b o,s.heap.get? b=some o->h0.get? b=some o)->h0.get? s.heap.objs.size=some (bh (!w.params.followText "set-order"))->h0.get? I=some ob->l≠I->s.heap.objs.size ∉ [I,l]->(∀(h':Heap)(tk:Nat),Z h'->(∀b o,b ∉ [s.heap.objs.size,I]->h0.get? b=some o->h'.get? b=some o)->R (.ok (.ret .none)) {s with heap:=h',toks:=tk})->codeAny (model prog w) A.in1.in1 (.builtin "set.update.loop" ⟨[.ref s.heap.objs.size,.ref I],[]⟩) R {s with heap:=h0})(h:∀(h':Heap)(tk:Nat),Z h'->(∀b o,b<s.heap.objs.size->s.heap.get? b=some o->h'.get? b=some o)->Q (.ref s.heap.objs.size) {s with heap:=h',toks:=tk}):
  yar (model prog w) A (call (.type "set") [.ref l]) Q E s:=by
 obtain⟨c,tl,W⟩:=PySem.F.called_set.mro;have L:=PySem.F.called_set.made;have U:=PySem.F.called_set.sub;have g1:=PySem.F.called_set.notType;have g2:=PySem.F.called_set.canCreate;have hct:=PySem.F.typeCall_set_1 (.ref l);refine yaH (codeAny_of_tree ?_);show yar _ _ (callAny (.type "set") _) _ _ _;refine yab ⟨Code.quiet_builtin _ (by decide+kernel),codeAny_builtin PySem.F.entry_type_call ?_⟩;rw[Around.under_plain (weight_type_call_type "set" [.ref l] []) rfl]
 repeat (any_goals (first|assumption|wp_step))
 generalize m:(!w.params.followText "set-order")=led;refine yax (HS (.ref l) (E:=E) (Q₁:=λu j=>u=.ref s.heap.objs.size/\j={s with heap:=s.heap.push (bh led)}) ⟨rfl,by rw[m]⟩) λr j y=>?_;cases r with
 |error e=>exact y
 |ok fl=>
  cases fl with
  |ret u=>
   obtain⟨rfl,rfl⟩:=y;have gS:(s.heap.push (bh led)).get? s.heap.objs.size=some (bh led):=zaK _ rfl;have tS:Shared.TypeIs {s with heap:=s.heap.push (bh led)} (.ref s.heap.objs.size) "set":=⟨_,gS,rfl⟩
   have hli:=PySem.F.called_set.init.lookup;have hbi:=PySem.F.called_set.init.bind (.ref s.heap.objs.size)
   repeat (any_goals (first|assumption|wp_step))
   refine yax (codeAny_call_builtin (R:=wants (λr i=>r=.none/\∃h' tk,i={s with heap:=h',toks:=tk}/\Z h'/\(∀b o,b<s.heap.objs.size->s.heap.get? b=some o->h'.get? b=some o)) E) PySem.F.called_set.init.plain PySem.F.entry_set_init (check_set_init_1 tS ?_)) λt i a=>?_
   ·have n:l<s.heap.objs.size:=by obtain⟨o,G,_⟩:=Y;exact zcH G
    have kp:∀b o,s.heap.get? b=some o->(s.heap.push (bh led)).get? b=some o:=λb o e=>zaq _ e;have tl1:Shared.TypeIs {s with heap:=s.heap.push (bh led)} (.ref l) T:=by obtain⟨o,G,z⟩:=Y;exact⟨o,kp _ _ G,z⟩
    unfold Builtin.«set.__init__» noKeywords Builtin.Frozenset.updateFrom;generalize S:pyIter=PI
    wp_walk
    subst S;refine it kp ?_;have sz:(s.heap.push (bh led)).objs.size=s.heap.objs.size+1:=zch ..;have v:∀b o,s.heap.get? b=some o->((s.heap.push (bh led)).push ob).get? b=some o:=λb o e=>zaq _ (kp b o e);have H:l≠(s.heap.push (bh led)).objs.size:=by rw[sz];exact zcx (zbh n)
    have P:s.heap.objs.size ∉ [(s.heap.push (bh led)).objs.size,l]:=by
     rw[sz];simp only[zci,zbA,or_false];rintro(z|z)
     ·exact absurd z (by lia)
     ·rw[z] at n;exact zcn _ n
    refine yaa (wpAny_runValue ?_);refine lp _ _ v (by rw[m];exact zaq _ gS) (zaK _ C) H P λh' x q hm=>?_
    ·refine yab (yab ⟨rfl,h',x,rfl,q,λb o X e=>hm b o ?_ (v b o e)⟩);rw[sz];simp only[zci,zbA,or_false];rintro(z|z)
     ·exact zcx X z
     ·exact zcx (zbh X) z
   ·cases t with
    |error e=>exact a
    |ok fl₂=>
     cases fl₂ with
     |ret r=>
      obtain⟨rfl,h',tk,rfl,q,O⟩:=a
      repeat (any_goals (first|assumption|wp_step))
      exact h _ _ q O
     |_=>exact a.elim
  |_=>exact y.elim
theorem rj{T:String}{ob:Obj}{P:Nat->yai->Prop}{St:Addr->Nat->Heap->Prop}{val:Nat->Int}(L:A.handled=none)(S:s.TypeIs (.ref l) T)(h1:isSubtype (.type T) (.type "set")=pure false)(h2:isSubtype (.type T) (.type "frozenset")=pure false)(X:(Value.type T==Value.type "dict")=false)(it:∀{A':yal}{s':yah}{G:yai->yah->Prop}{E':yai->yah->Prop},(∀b o,s.heap.get? b=some o->s'.heap.get? b=some o)->G (.ref s'.heap.objs.size) {s' with heap:=s'.heap.push ob}->yar (model prog w) A' (pyIter (.ref l)) G E' s')(x:ob.isFreed=false)(W:∀{A':yal}(I:Addr),A'.handled=none->l≠I->Walks prog w A' I [I,l] [I] n P (St I))(q:∀I h',(∀b o,s.heap.get? b=some o->h'.get? b=some o)->h'.get? I=some ob->St I 0 h')(a:∀i v,P i v->∃t,v=.int (val i) t)(H:n<4000)(h:∀(h':Heap)(tk:Nat),gH prog w h' s.heap.objs.size (allI val n)->(∀b o,b<s.heap.objs.size->s.heap.get? b=some o->h'.get? b=some o)->Q (.ref s.heap.objs.size) {s with heap:=h',toks:=tk}):
  yar (model prog w) A (call (.type "set") [.ref l]) Q E s:=by
 refine rq (Z:=λh'=>gH prog w h' s.heap.objs.size (allI val n)) S h1 h2 X it x (λI Y R kp gS gI y C U=>?_) h;refine Fo (W (A':=A.in1.in1.in1) I L y).toS s.heap.objs.size C val a H (n - 0) 0 _ rfl (zcL _) (q I Y kp gI) (rM gS) λs' j F=>?_;obtain⟨h',g',d',m,u⟩:=s';obtain rfl:g'=s.gens:=j.gens;obtain rfl:d'=s.drawn:=j.drawn;obtain rfl:u=s.os:=j.os;exact U h' m F λb o O e=>j.heap b o O e
theorem nS{ss:List Int}(y:A.handled=none)(j:s.heap.IsTuple l its)(m:IntsAre its.toList ss)(u:ss.length<4000)(h:∀(h':Heap)(tk:Nat),gH prog w h' s.heap.objs.size (allI (λi=>ss.getD i 0) ss.length)->(∀b o,b<s.heap.objs.size->s.heap.get? b=some o->h'.get? b=some o)->Q (.ref s.heap.objs.size) {s with heap:=h',toks:=tk}):
  yar (model prog w) A (call (.type "set") [.ref l]) Q E s:=by
 have el:its.size=ss.length:=by rw[<-zaJ,m.length]
 rw[<-el] at h;refine rj (T:="tuple") (St:=λI i h=>h.IsTupleIter I l i/\h.IsTuple l its) (ob:={cls:=.type "tuple_iterator",data:=.fields #[.ref l,.int 0 0]}) (P:=λi v=>its[i]? =some v) y j.typeIs M5.F.sub_tuple_set M5.F.sub_tuple_frozenset (by decide) (λkp q=>wpAny_pyIter_tuple (j.at (kp l)) q) rfl (λI h1 h2=>Walks.tuple h1 I l h2 its)
  (λI h' kp e=>⟨⟨_,e,rfl,rfl⟩,j.at (kp l)⟩) ?_ (by lia) h
 intro i v a;rw[<-zaw] at a;clear h;revert i;generalize its.toList=vs at m;clear el u
 induction m with
 |nil=>intro i a;simp at a
 |cons x t r ih=>
  intro i a;cases i with
  |zero=>simp at a;exact⟨t,by rw[<-a];rfl⟩
  |succ i=>
   rw[zam] at a;obtain⟨n,e⟩:=ih i a;exact⟨n,e⟩
theorem qt{ss:List Int}(y:A.handled=none)(j:s.heap.IsList l its)(m:IntsAre its.toList ss)(u:ss.length<4000)(h:∀(h':Heap)(tk:Nat),gH prog w h' s.heap.objs.size (allI (λi=>ss.getD i 0) ss.length)->(∀b o,b<s.heap.objs.size->s.heap.get? b=some o->h'.get? b=some o)->Q (.ref s.heap.objs.size) {s with heap:=h',toks:=tk}):
  yar (model prog w) A (call (.type "set") [.ref l]) Q E s:=by
 have el:its.size=ss.length:=by rw[<-zaJ,m.length]
 rw[<-el] at h;refine rj (T:="list") (St:=λI i h=>h.IsListIter I l i/\h.IsList l its) (ob:={cls:=.type "list_iterator",data:=.fields #[.ref l,.int 0 0]}) (P:=λi v=>its[i]? =some v) y j.typeIs PySem.F.sub_list_set PySem.F.sub_list_frozenset (by decide) (λkp q=>wpAny_pyIter_list (j.at (kp l)) q) rfl (λI h1 h2=>Walks.list h1 I l h2 its)
  (λI h' kp e=>⟨⟨_,e,rfl,rfl⟩,j.at (kp l)⟩) ?_ (by lia) h
 intro i v a;rw[<-zaw] at a;clear h;revert i;generalize its.toList=vs at m;clear el u
 induction m with
 |nil=>intro i a;simp at a
 |cons x t r ih=>
  intro i a;cases i with
  |zero=>simp at a;exact⟨t,by rw[<-a];rfl⟩
  |succ i=>
   rw[zam] at a;obtain⟨n,e⟩:=ih i a;exact⟨n,e⟩
theorem Fe{S:List Int}{x y:Int}:y∈lV S x↔y∈S∨y=x:=by
 unfold lV;split
 ·exact⟨.inl,λz=>z.elim id λe=>e▸‹_›⟩
 ·simp
theorem yj{S:List Int}{x:Int}(h:S.Nodup):(lV S x).Nodup:=by
 unfold lV;split
 ·exact h
 ·rw[zbf];refine⟨h,by simp,λa j b i=>?_⟩;simp only[zaO] at i;subst i;intro e;subst e;exact absurd j ‹_›
theorem oG(val:Nat->Int):∀n,(allI val n).Nodup
 |0=>List.nodup_nil
 |n+1=>yj (oG val n)
theorem vm(val:Nat->Int)(y:Int):∀n,y∈allI val n↔∃i,i<n/\val i=y
 |0=>by simp[allI]
 |n+1=>by
  show y∈lV _ _↔_;rw[Fe,vm val y n];constructor
  ·rintro(⟨i,h,e⟩|e)
   ·exact⟨i,by lia,e⟩
   ·exact⟨n,by lia,e.symm⟩
  ·rintro⟨i,h,e⟩;rcases zcC i n with z|z
   ·exact .inl ⟨i,z,e⟩
   ·obtain rfl:i=n:=by lia
    exact .inr e.symm
theorem lQ(ss:List Int)(y:Int):y∈allI (λi=>ss.getD i 0) ss.length↔y∈ss:=by
 rw[vm];constructor
 ·rintro⟨i,h,e⟩;have:ss.getD i 0=ss[i]:=by simp[h]
  rw[this] at e;exact e▸zby h
 ·intro h;obtain⟨i,h1,e⟩:=zaG h;exact⟨i,h1,by simp[h1,e]⟩
theorem Ld{sl:Nat}{Q:Option (yai×Nat)->yah->Prop}(q:w.params.followText "set-order"=false)(u:wX s.heap a es ep t)(n:t.fits es.size=true)(h1:(!t.plain&&decide (es.size> 1))=false)(m:t.led=true)(h:Q (match es[SetTable.below t.place sl]?,t.place[SetTable.below t.place sl]? with|some (_,x),some j=>some (x,j+1)|_,_=>none) s):yar (model prog w) A (setNext a sl i ep) Q E s:=by
 obtain⟨o,l,v,hd⟩:=u;unfold setNext;refine yaa (wpAny_setState_of l hd n ?_);dsimp only;refine yaa (gz ?_);rw[yIn (by rw[q];decide)];rw[yIn (by
  show¬((!t.plain&&decide (es.size> 1))=true);rw[h1];decide)]
 refine yaa ?_;show yar _ _ (if(!t.led&& !es.isEmpty)=true then unsupported "set:maker-not-led" else pure ()) _ _ _;rw[yIn (by rw[m];simp)];refine yab (yab ?_);exact h
def T4(vs:List yai)(S:List Int):Prop:=(∀v∈vs,∃x t,v=.int x t)/\(vs.map intOf).Perm S
theorem Jt{l:List (Int×yai)}{S:List Int}(a:ElemsOf (PySem.intKind prog w) es.toList)(j:(es.toList.map λe=>intOf e.2).Perm S)(h:l.Perm es.toList):T4 (l.map (·.2)) S:=by
 refine⟨λv i=>?_,?_⟩
 ·obtain⟨e,n,rfl⟩:=zcw.mp i;obtain⟨⟨k,m,_⟩,_⟩:=a e (h.mem_iff.mp n);obtain⟨t,z⟩:=Value.isInt_shape m;exact⟨k,t,z⟩
 ·rw[zcv];exact(h.map _).trans j
def zl(w:yak)(h:Heap)(a:Addr)(es:Array (Int×yai))(ep:Nat)(t:SetTable):Prop:=
 ∃o,h.get? a=some o/\o.ExactSet/\o.data=.set es ep t/\t.fits es.size=true/\t.led=(!w.params.followText "set-order")/\(t.plain=true->mY t.place)
theorem zl.keep{w:yak}(x:zl w h a es ep t)(e:∀o,h.get? a=some o->h'.get? a=some o):zl w h' a es ep t:=
 by obtain⟨o,i,r⟩:=x;exact⟨o,e o i,r⟩
theorem Fx(hS:zl w s.heap a es ep t)(hn:es.size<4000)(h:∀(I:Addr)(H:List yai)(fp:List Addr)(St:Nat->Heap->Prop)(h':Heap) d,(∀b o,s.heap.get? b=some o->h'.get? b=some o)->s.heap.objs.size<=I->(∀b∈fp,b=a∨s.heap.objs.size<=b)->(∀{A':yal},A'.handled=none->Walks prog w A' I fp [I] H.length (λi v=>H[i]? =some v) St)->St 0 h'->H.Perm (es.toList.map (·.2))->Q (.ref I) {s with heap:=h',drawn:=d}):
  yar (model prog w) A (pyIter (.ref a)) Q E s:=by
 obtain⟨o,C,G,hd,n,y,hpl⟩:=hS;have sa:wX s.heap a es ep t:=⟨o,C,G.1,hd⟩
 have la:a<s.heap.objs.size:=zcH C;refine wpAny_pyIter_slot sa.typeIs M5.F.nR (wpAny_call_entry M5.F.nR sa.typeIs M5.F.vI ?_ (M5.F.za _));unfold Builtin.«frozenset.__iter__»;refine yaa (wpAny_of_eq (a:=a) rfl ?_);refine yaa (yaa (wpAny_setEntries_of C hd n (yab ?_)));refine yaa ?_;unfold setDrawn;refine yaa (wpAny_setState_of C hd n ?_);dsimp only;refine yaa (gz ?_);refine yab ?_;cases Y:w.params.followText "set-order" with
 |true=>
  rw[yIn (by simp)];refine yaa (yab ?_);refine yaa (wpAny_setEpoch_of C hd n ?_);refine yaa (yae ?_);have P:=zaq (Pp (rawInt 0) 0 a es.size ep) C;have S:jh (s.heap.push (Pp (rawInt 0) 0 a es.size ep)) s.heap.objs.size (rawInt 0) 0 a es.size ep:=⟨_,zaK _ rfl,rfl,rfl⟩
  refine yab ⟨_,rfl,"set_iterator",_,⟨_,zaK _ rfl,rfl⟩,M5.F.slot_next.lookup,?_⟩;have U:=qC (w.params.setOrder a ep) es;refine h s.heap.objs.size ((pickOrder (w.params.setOrder a ep) es).toList.map (·.2)) [s.heap.objs.size,a] _ _ s.drawn (λb o e=>zaq _ e) (zcK _) (λb z=>?_)
   (λ{A'} X=>Dg (sl:=λ_=>0) (ep:=ep) (es:=es) (t:=t) X (zcx la) n (by rw[zbK,U.length_eq,zaJ]) ?_ ?_) ⟨S,_,P,G.1,hd⟩ (U.map _)
  ·simp only[zci,zbA,or_false] at z;rcases z with rfl|rfl
   ·exact .inr (zcK _)
   ·exact .inl rfl
  ·intro i x u A' s' Q' E' m q;refine Le Y m n ?_;rw[zba,zaw] at u;cases hy:(pickOrder (w.params.setOrder a ep) es)[i]? with
   |none=>rw[hy] at u;cases u
   |some e=>rw[hy] at u;injection u with u;subst u;exact q
  ·intro A' s' Q' E' m q;refine Le Y m n ?_;rw[zap (by rw[zbK,zaJ];exact zcK _)];exact q
 |false=>
  rw[Y] at y;have O:t.place.size=es.size:=by
   simp only[SetTable.fits,zbG,beq_iff_eq] at n;exact n.1
  by_cases hz:(!t.plain&&decide (es.size> 1))=false
  ·have hR:mY t.place:=by
    cases W:t.plain with
    |true=>exact hpl W
    |false=>
     rw[W] at hz;have hz:decide (es.size> 1)=false:=hz;have hz:=of_decide_eq_false hz;intro i j hij hj _;lia
   rw[yIn (by
    show¬((!false&&(!t.plain&&decide (es.size> 1)))=true);rw[hz];decide)]
   refine yaa (yab ?_);refine yaa (wpAny_setEpoch_of C hd n ?_);refine yaa (yae ?_);have P:=zaq (Pp (rawInt 0) 0 a es.size ep) C;have S:jh (s.heap.push (Pp (rawInt 0) 0 a es.size ep)) s.heap.objs.size (rawInt 0) 0 a es.size ep:=⟨_,zaK _ rfl,rfl,rfl⟩
   refine yab ⟨_,rfl,"set_iterator",_,⟨_,zaK _ rfl,rfl⟩,M5.F.slot_next.lookup,?_⟩;have Lr:∀i,i<=es.size->SetTable.below t.place (if i=0 then 0 else t.place.getD (i - 1) 0+1)=i:=λi hi=>by
    by_cases h0:i=0
    ·subst h0;rw[yIp rfl];exact yW hR
    ·rw[yIn h0];have h1:i - 1<t.place.size:=by lia
     have Z:t.place.getD (i - 1) 0=t.place[i - 1]:=by simp[zcQ,h1]
     rw[Z,yX hR h1];lia
   refine h s.heap.objs.size (es.toList.map (·.2)) [s.heap.objs.size,a] _ _ s.drawn (λb o e=>zaq _ e) (zcK _) (λb z=>?_)
    (λ{A'} X=>Dg (sl:=λi=>if i=0 then 0 else t.place.getD (i - 1) 0+1) (ep:=ep) (es:=es) (t:=t) X (zcx la) n (by rw[zbK,zaJ]) ?_ ?_) ⟨S,_,P,G.1,hd⟩ (.refl _)
   ·simp only[zci,zbA,or_false] at z;rcases z with rfl|rfl
    ·exact .inr (zcK _)
    ·exact .inl rfl
   ·intro i x u A' s' Q' E' m q;have hi:i<es.size:=by
     have:=(zad.mp u).1;simpa using this
    refine Ld Y m n hz y ?_;rw[zba,zaw,zai hi] at u;injection u with u;subst u;rw[Lr i (by lia),zai hi,zai (by lia:i<t.place.size)];have Z:(if i+1=0 then 0 else t.place.getD (i+1 - 1) 0+1)=t.place[i]'(by lia)+1:=by
     rw[yIn (by lia),Nat.add_sub_cancel];simp[zcQ,(by lia:i<t.place.size)]
    rw[Z] at q;exact q
   ·intro A' s' Q' E' m q;refine Ld Y m n hz y ?_;rw[zbK,zaJ];have en:es[SetTable.below t.place (if es.size=0 then 0 else t.place.getD (es.size - 1) 0+1)]? =none:=by
     rw[Lr es.size (zcK _)];exact zap (zcK _)
    rw[en];exact q
  ·have hz:(!t.plain&&decide (es.size> 1))=true:=by simpa using hz
   rw[yIp (by
    show(!false&&(!t.plain&&decide (es.size> 1)))=true;rw[hz];rfl)]
   refine yaa (we _ _ (by simp) λps d O=>?_);obtain⟨l,Z,e2,e3⟩:=pull es ps O;refine yaa ?_;unfold newTuple;refine yae (s:={s with drawn:=d}) ?_ (by
    have:ps.length=es.size:=by rw[O.length_eq,zbe]
    show(ps.map λ(i:Nat)=>rawInt i).toArray.size<=yag;rw[zaY,zbK,yaf];lia)
   refine yaa (wpAny_setEpoch_of (s:={s with heap:=s.heap.push _,drawn:=d}) (zaq _ C) hd n ?_);refine yaa (yae ?_);generalize L:({cls:=.type "tuple",data:=.seq (ps.map λ(i:Nat)=>rawInt i).toArray}:Obj)=to;have hT1:(s.heap.push to).get? s.heap.objs.size=some to:=zaK _ (by rw[<-L];rfl);have z1:(s.heap.push to).objs.size=s.heap.objs.size+1:=zch ..;have gI:((s.heap.push to).push (Pp (.ref s.heap.objs.size) 0 a es.size ep)).get? (s.heap.push to).objs.size=some (Pp (.ref s.heap.objs.size) 0 a es.size ep):=zaK _ rfl;refine yab ⟨_,rfl,"set_iterator",_,⟨_,gI,rfl⟩,M5.F.slot_next.lookup,?_⟩;refine h (s.heap.push to).objs.size (l.map (·.2)) [(s.heap.push to).objs.size,a,s.heap.objs.size] _ _ d (λb o e=>zaq _ (zaq _ e)) (by rw[z1];exact zcM _) (λb z=>?_)
    (λ{A'} X=>LI (T:=s.heap.objs.size) (ep:=ep) (es:=es) (t:=t) (ps:=ps) X (by rw[z1];exact zcx (zbh la)) (by rw[z1];exact zcx (zbF _)) n (by rw[zbK];exact Z) (λi h1 h2=>?_)) ⟨⟨_,gI,rfl,rfl⟩,⟨_,zaq _ (zaq _ C),G.1,hd⟩,⟨_,zaq _ hT1,by rw[<-L],0,by rw[<-L]⟩⟩ (e2.map _)
   ·rw[z1] at z;simp only[zci,zbA,or_false] at z;rcases z with rfl|rfl|rfl
    ·exact .inr (zcM _)
    ·exact .inl rfl
    ·exact .inr (zcK _)
   ·have h3:i<l.length:=by rw[zbK] at h2;exact h2
    refine⟨l[i].1,?_⟩;rw[e3 i h1 h3,zbz]
theorem intsAre_map:∀(vs:List yai),(∀v∈vs,∃x t,v=.int x t)->IntsAre vs (vs.map intOf)
 |[],_=>.nil
 |v::vs,h=>by
  obtain⟨x,t,rfl⟩:=h v (by simp);exact .cons x t (intsAre_map vs λu a=>h u (zay _ a))
theorem Cn{Q:Bool->yah->Prop}(i:s.TypeIs (.ref a) "set")(h:Q false s):yar (model prog w) A (Builtin.List.listLengthHint (.ref a)) Q E s:=by
 unfold Builtin.List.listLengthHint;refine yaa (wpAny_specialOf i PySem.F.slot_set_len.lookup ?_);dsimp only;rw[show splitId "set.__len__"=some ("set","__len__") by decide+kernel];dsimp only;refine yaa (wpAny_isInstance (b:=true) i sub_set_self ?_);rw[yIn (by decide)];rw[yIp (by decide+kernel)];refine yaa (wpAny_typeOf i ?_);exact yab h
theorem yJ{L:Addr}{R:Result->yah->Prop}(hh:A.handled=none)(Y:zl w s.heap a es ep t)(hn:es.size<4000)(Q:s.heap.get? L=some {cls:=.type "list",data:=.seq #[]})(x:L≠a)(hR:∀s' (h:List yai) n,(∀b o,b≠L->s.heap.get? b=some o->s'.heap.get? b=some o)->s'.gens=s.gens->s'.os=s.os->s'.heap.get? L=some {cls:=.type "list",dict:=none,data:=.seq h.toArray n,slots:=#[]}->h.Perm (es.toList.map (·.2))->R (.ok (.ret (.ref L))) s'):
  yar (model prog w) A.in1 (Builtin.List.listExtendWith (.ref L) (.ref a) (.ref L))
   (λS s'=>match S with|.done f=>R (.ok f) s'|.again n=>n.quiet=true/\codeAny (model prog w) A n R s') (λe s'=>R (.error e) s') s:=by
 have U:s.TypeIs (.ref a) "set":=by obtain⟨o,G,P,_⟩:=Y;exact⟨o,G,P.1⟩
 unfold Builtin.List.listExtendWith;refine yaa (wpAny_typeOf U ?_);have h1:Builtin.List.listSameRef (.ref L) (.ref a)=false:=by simp[Builtin.List.listSameRef,x]
 have h2:(Value.type "set"==Value.type "list")=false:=by decide
 have h3:(Value.type "set"==Value.type "tuple")=false:=by decide
 simp only[h1,h2,h3,zco,zaU,if_false];refine yaa (Fx Y hn λI h fp St y d kp hI O W E tx=>?_);have ll:L<s.heap.objs.size:=zcH Q;have v:L ∉ fp:=λz=>(O L z).elim x λz=>absurd ll (Nat.not_lt.mpr z);have C:Shared.TypeIs {s with heap:=y,drawn:=d} (.ref a) "set":=by obtain⟨o,G,hc⟩:=U;exact⟨o,kp _ _ G,hc⟩
 refine yaa (yad (Cn C ?_));rw[yIp (by rfl)];refine yaa (wpAny_rule ?_);refine yaa ?_;show yar _ A.in1 (updateSeq L (·.push .none) >>= λ_=>updateSeq L (·.pop)) _ _ _;refine yaa (wpAny_updateSeq (s:={s with heap:=y,drawn:=d}) (kp _ _ Q) rfl ?_);have Z:=zax (Obj.mapSeq (·.push Value.none)) (kp _ _ Q) rfl;refine wpAny_updateSeq (hz:=by seq_fits) Z rfl ?_;have g3:=zax (Obj.mapSeq (·.pop)) Z rfl;have q:∀b o,b≠L->y.get? b=some o->((y.update L (Obj.mapSeq (·.push Value.none))).update L (Obj.mapSeq (·.pop))).get? b=some o:=
  λb o m e=>(zar _ _ (Ne.symm m)).trans ((zar _ _ (Ne.symm m)).trans e)
 have X:h.length=es.size:=by rw[tx.length_eq,zbK,zaJ]
 have WS:=(W (A':=A.in1) hh).toS;refine yab ⟨plainId_quiet PySem.F.plain_extend_loop _,codeAny_extend_loopS WS (by rw[yaf];lia) _ v _ h.length 0 _ _ _ rfl (zcL _) (WS.frame 0 {s with heap:=y,drawn:=d} _ s.toks E (zcK _) λb m o e=>q b o (λz=>v (z▸m)) e) g3 (ItemsOf.nil _) λs' j n H u l=>?_⟩;have ea:j=h.toArray:=by
  refine Array.ext (by rw[l.1,zaY]) λi h1 h2=>?_;have z:h[i]? =some j[i]:=l.2 i j[i] (zai h1);have h2:i<h.length:=by simpa using h2
  rw[zak h2] at z;simpa using(zcN.inj z).symm
 rw[ea] at u;refine hR s' h n (λb o m e=>?_) H.gens H.os u tx;refine H.heap b o ?_ (q b o m (kp b o e));simp only[zci,zbA,or_false];rintro(z|z)
 ·exact m z
 ·have:=zcH e;rw[z] at this;exact absurd this (Nat.not_lt.mpr hI)
theorem p9{R:Result->yah->Prop}(q:A.handled=none)(j:zl w s.heap a es ep t)(n:es.size<4000)(u:∀s' (h:List yai) i,(∀b o,s.heap.get? b=some o->s'.heap.get? b=some o)->s'.gens=s.gens->s'.os=s.os->s'.heap.get? s.heap.objs.size=some {cls:=.type "list",dict:=none,data:=.seq h.toArray i,slots:=#[]}->h.Perm (es.toList.map (·.2))->R (.ok (.ret (.ref s.heap.objs.size))) s'):
  codeAny (model prog w) A (.builtin "proto.collect" ⟨[.ref a],[]⟩) R s:=by
 have l:a<s.heap.objs.size:=by obtain⟨o,m,_⟩:=j;exact zcH m
 refine codeAny_builtin entry_proto_collect' ?_;show yar _ _ (do again (.builtin "list.__iadd__" ⟨[<-newList [],.ref a],[]⟩)) _ _ s;refine yaa (wpAny_newList (yab ⟨Code.quiet_builtin _ (by decide+kernel),codeAny_builtin entry_list_iadd' ?_⟩));rw[Around.under_plainId (show plainId "list.__iadd__"=true by decide+kernel) _];show yar _ _ (Builtin.List.listExtendWith (.ref s.heap.objs.size) (.ref a) (.ref s.heap.objs.size)) _ _ {s with heap:=s.heap.push (seqObj "list" #[] 0)};refine yJ (s:={s with heap:=s.heap.push (seqObj "list" #[] 0)}) ?_ (j.keep λo e=>zaq _ e) n (zaK _ rfl) (zcA l) λs' h i kp x v g tx=>?_
 ·exact q
 ·exact u s' h i (λb o e=>kp b o (zcx (zcH e)) (zaq _ e)) x v g tx
theorem mF{Q:List yai->yah->Prop}(l:A.handled=none)(m:zl w s.heap a es ep t)(j:es.size<4000)(h:∀s' (i:List yai),(∀b o,s.heap.get? b=some o->s'.heap.get? b=some o)->s'.gens=s.gens->s'.os=s.os->s.heap.objs.size<=s'.heap.objs.size->i.Perm (es.toList.map (·.2))->Q i s'):yar (model prog w) A (collect (.ref a)) Q E s:=by
 unfold collect;refine yaa (wpAny_runValue (p9 l m j λs' i u kp q n g tx=>?_));dsimp only;refine yaa (wpAny_load g ?_);exact yab (h s' i kp q n (zcz (zcH g)) tx)
theorem uB{S:List Int}(O:A.handled=none)(W:gH prog w s.heap a S)(hn:S.length<64)(h:∀(p:Addr) s' (out:List yai)(ss:List Int) c,(∀b o,s.heap.get? b=some o->s'.heap.get? b=some o)->s'.gens=s.gens->s'.os=s.os->s.heap.objs.size<=p->s'.heap.get? p=some (seqObj "list" out.toArray c)->IntsAre out ss->ss.Perm S->ss.Pairwise (· <=·)->Q (.ref p) s'):
  yar (model prog w) A (call (.builtin "sorted") [.ref a]) Q E s:=by
 refine zaj kind_sorted plain_sorted entry_sorted (args_sorted1 _) ?_;unfold Builtin.«sorted»;refine yaa (m:=checkCount "sorted" 1 1 _) (yab ?_);obtain⟨o,L,es,ep,t,v,hd,x,G,P,l,u⟩:=W;have I:es.size=S.length:=by rw[<-G.length_eq,zbK,zaJ]
 refine yaa (mF (es:=es) (ep:=ep) (t:=t) ?_ ⟨o,L,v,hd,P,l,u.2⟩ (by lia) λn i kp Y X le tx=>?_)
 ·exact O
 obtain⟨H,j,rfl⟩:=M6.cK tx;have tx:=Jt x G j;clear j;generalize H.map (·.2)=i at*;have hl:i.length=S.length:=by rw[<-tx.2.length_eq,zbK]
 refine yaa (wpAny_newList ?_ (by first|(rw[yaf];lia)|(rw[zaY,yaf];lia)));have y:IntsAre i (i.map intOf):=intsAre_map i tx.1;have C:(n.heap.push (seqObj "list" i.toArray 0)).get? n.heap.objs.size=some (seqObj "list" i.toArray 0):=zaK _ rfl;refine yaa (yad (wpAny_call_entry slot_list_sort ⟨_,C,rfl⟩ entry_list_sort (list_sort_tree C y (by lia) λout q a1 a2 Z=>⟨_,rfl,?_⟩) (args_list_sort _)));obtain⟨c,U⟩:=sortedHeap_at (out:=out) C;refine yab ⟨_,rfl,h n.heap.objs.size _ out.toList q c (λb o e=>?_) Y X le ?_ a1 (a2.trans tx.2) Z⟩
 ·have F:=zcH (kp b o e);show(sortedHeap _ _ _ _).get? b=some o;rw[sortedHeap_old (zcx F) (by rw[size_push'];exact zbh F)];exact zaq _ (kp b o e)
 ·rw[zaC];exact U
end M7
namespace L2
open PySem PySem.Spec PyProof.Rows
def qo(K:yaI)(m:TE):TE:=λj H Q=>m j H λx i=>∃(p:Addr)(h:List Int),x=.ref p/\(dI K i p (h.map V.int)∨cF K i p (h.map V.int))/\h.length<64/\
 ∀(l:Addr)(a:List Int),i l=none->a.Nodup->(∀y,y∈a↔y∈h)->a.Pairwise (· <=·)->Q (.ref l) (upd i l (.lst (a.map V.int)))
section
variable {ta:TE}
theorem gY(hc:X.calm=true)(hg:Gl X "sorted")(hm:X.mg "sorted"=none)(hg2:Gl X "set")(Z:X.mg "set"=none)(he:PE X e ta)(L:notStar e=true:=by rfl):
  PE X (.Call (.Name "sorted" p) [.Call (.Name "set" p2) [e] [] pos2] [] pos) (qo X.K ta):=by
 intro n s σ H Q I h;have hk:=I.ok.hd hc;refine wpAny_Call_Name_kw (cu I hg hm (u:=.builtin "sorted") (by decide+kernel) ?_ (by decide+kernel) (by decide+kernel));refine PyProof.Rows.callWith_builtin1 (E:=X.xe) ?_ (aO [] X.env rfl) rfl;rw[aO [] X.env rfl];refine zaX ?_;refine wpAny_Call_Name_kw (cu I hg2 Z (u:=.type "set") (by decide+kernel) ?_ (by decide+kernel) (by decide+kernel));refine PyProof.Rows.callWith_type1 (E:=X.xe) ?_ (aO [] X.env L) rfl;rw[aO [] X.env L];refine zaX (bT (he n s σ H _ I h) λu j P=>?_);obtain⟨x,H1,O,rx,a,ss,ex,F,hl,q⟩:=P;subst ex;obtain rfl:u=Value.ref a:=rx;refine zbp ?_;have G:∀(m:Heap)(tk:Nat),M7.gH X.prog X.w m j.heap.objs.size (M7.allI (λi=>ss.getD i 0) ss.length)->(∀b o,b<j.heap.objs.size->j.heap.get? b=some o->m.get? b=some o)->
   yar (model X.prog X.w) X.A (call (.builtin "sorted") [.ref j.heap.objs.size]) (EP X n σ Q) X.xe {j with heap:=m,toks:=tk}:=by
  intro m tk v kp;have ac:=M7.iC (λi=>ss.getD i 0) ss.length;refine M7.uB (s:={j with heap:=m,toks:=tk}) hk v (by lia) λl s2 out t c W e1 e2 le g hS Y L=>?_;obtain⟨h2,g2,d2,t2,o2⟩:=s2;obtain rfl:g2=j.gens:=e1;obtain rfl:o2=j.os:=e2;have U:∀b o,j.heap.get? b=some o->h2.get? b=some o:=λb o z=>W b o (kp b o (zcH z) z);have C:j.heap.objs.size<=l:=by
   obtain⟨o,ho,_⟩:=v;exact zcy (zcz (zcH ho)) le
  have ab:t.length<64:=by rw[Y.length_eq];lia
  refine⟨.ref l,_,(O.laid (a:=l) (t':=t2) (o:=.lst (t.map V.int)) U C ⟨by rw[zbK,yaf];lia,out,c,k8 hS,g⟩).Ui d2,rfl,q l t (O.hok.fresh C) (Y.nodup_iff.mpr (M7.oG _ _)) (λy=>(Y.mem_iff).trans (M7.lQ ss y)) L⟩
 rcases F with F|F
 ·obtain⟨its,S,pl,hz⟩:=O.tuple F;refine M7.nS (its:=its.toArray) (ss:=ss) hk pl (by simpa using intsAre_of S) (by lia) λm tk v kp=>?_;exact zbp (G m tk v kp)
 ·obtain⟨its,S,pl,hz⟩:=O.list F;refine M7.qt (its:=its.toArray) (ss:=ss) hk pl.isList (by simpa using intsAre_of S) (by lia) λm tk v kp=>?_;exact zbp (G m tk v kp)
end
end L2
namespace M
open PySem PySem.Spec PyProof.Rows L2
def lW(a:AE):AE:=λl S Q=>a l S λr j=>∃i:List Int,(aT j r.d=.tup (i.map D.int)∨aT j r.d=.lst (i.map D.int))/\i.length<64/\
 ∀h:List Int,h.Nodup->(∀y,y∈h↔y∈i)->h.Pairwise (· <=·)->Q (.new (.lst (h.map D.int))) j
theorem xE{a:AE}:∀o H Q,aS K (lW a) o H Q->qo K (aS K a) o H Q:=by
 rintro o H Q ⟨w,G,S,P,ok,env,q,bk⟩;refine⟨w,G,S,_,ok,env,q,.go λO F L x U m h j s=>?_⟩;obtain⟨y,z,E,C⟩:=s;rcases z with z|z
 ·obtain⟨a,I,rfl,h1,h2⟩:=b5 h j z;rw[eO h2] at h1;exact⟨a,y,rfl,.inl h1,E,λl i n v u t=>bk (.new (.lst _)) F _ x _ m (h.alloc n) (h.fresh n ⟨_,rfl,eE i⟩) (C i v u t)⟩
 ·obtain⟨a,I,rfl,h1,h2⟩:=br h j z;rw[eO h2] at h1;exact⟨a,y,rfl,.inr (cF.of h1),E,λl i n v u t=>bk (.new (.lst _)) F _ x _ m (h.alloc n) (h.fresh n ⟨_,rfl,eE i⟩) (C i v u t)⟩
theorem gY(n:X.calm=true)(l:Gl X "sorted")(j:X.mg "sorted"=none)(h:Gl X "set")(a:X.mg "set"=none)(m:GE X e ta)(i:notStar e=true:=by rfl):
  GE X (.Call (.Name "sorted" p) [.Call (.Name "set" p2) [e] [] pos2] [] pos) (lW ta):=⟨mE (L2.gY n l j h a m.p i) xE⟩
end M
namespace M6
open PySem PySem.Spec PyProof.Rows
theorem qV{I l:Addr}{items:Array yai}{St:Nat->Heap->Prop}(W:Walks prog w A I [I,l] [I] items.size (λi v=>items[i]? =some v) St):∀(k i:Nat){s:yah}{E:yai->yah->Prop}{Q:List yai->yah->Prop},i+k=items.size->St i s.heap->
  (∀(h':Heap)(tk:Nat),St items.size h'->(∀b o,b≠I->s.heap.get? b=some o->h'.get? b=some o)->Q (items.toList.drop i) {s with heap:=h',toks:=tk})->yar (model prog w) A (draw (.ref I) k) Q E s
 |0,i,s,E,Q,hk,hst,h=>by
  rw[draw.eq_def];obtain rfl:i=items.size:=by lia
  have:=h s.heap s.toks hst λb o _ e=>e;rw[List.drop_of_length_le (by simp)] at this;exact yab this
 |k+1,i,s,E,Q,hk,hst,h=>by
  rw[draw.eq_def];have q:i<items.size:=by lia
  refine yaa (W.item i s _ _ q hst λv h' tk x j y=>?_);dsimp only;refine yaa (yad (qV W k (i+1) (s:={s with heap:=h',toks:=tk}) (by lia) j λt m a n=>?_));refine yab ?_;have e:items.toList.drop i=v::items.toList.drop (i+1):=by
   rw[<-List.getElem_cons_drop (by simpa using q)];congr 1;rw[zai q] at x;simpa using x
  have:=h t m a λb o u e=>n b o u (y b o (by simpa using u) e);rw[e] at this;exact this
theorem um{items:Array yai}{Q:List yai->yah->Prop}(x:A.handled=none)(i:s.heap.IsList l items)(h:∀(h':Heap)(tk:Nat),(∀b o,s.heap.get? b=some o->h'.get? b=some o)->Q items.toList {s with heap:=h',toks:=tk}):yar (model prog w) A (unpackItems (.ref l) items.size none) Q E s:=by
 have u:l<s.heap.objs.size:=by obtain⟨o,v,_⟩:=i;exact zcH v
 unfold unpackItems;refine yaa (yaa (wpAny_specialOf i.typeIs slot_list_iter.lookup (yab ?_)));rw[yIn (by decide)];refine yaa (yad (wpAny_pyIter_list i ?_));have W:=Walks.list (prog:=prog) (w:=w) (A:=A) x s.heap.objs.size l (zcx u) items;refine yaa (yad (qV W items.size 0 (by lia) ⟨⟨_,zaK _ rfl,rfl,rfl⟩,i.at λo e=>zaq _ e⟩ λh1 t a n=>?_));rw[List.drop_zero,yIn (by simp)];refine yaa (yad (W.done _ _ _ a λh2 j m=>?_));rw[yIn (by decide)];refine yab (h h2 j λb o e=>?_);have q:=zcx (zcH e);exact m b o (by simpa using q) (n b o q (zaq _ e))
end M6
namespace L2
open PySem PySem.Spec PyProof.Rows M6
def Ll(K:yaI)(n:Nat)(t:Gx):TG:=λv i H Q=>∃a h,v=.ref a/\cF K H a h/\h.length=n/\t h i H Q
theorem sr{es:List Expr}{k:Nat}{t:Gx}(F:X.calm=true)(h:Ly X es t)(C:(assignEach es X.env).length=n:=by rfl)(l:(assignEach es X.env).findIdx? (·.1)=none:=by rfl):PG X (.Tuple es k pos) (Ll X.K n t):=by
 intro i s m H v u Q I r hw;obtain⟨a,q,O,y,E,hw⟩:=hw;subst O;cases r;obtain⟨j,o,x,hz⟩:=I.list y;rw[assign_Tuple];refine yaa (yay ?_);unfold unpack;rw[l];have L:(assignEach es X.env).length=j.toArray.size:=by simp[C,<-E,o.length]
 rw[L];refine yaa (yad (um (I.ok.hd F) x.isList λG tk kp=>?_));have P:Inv X i m H {s with heap:=G,toks:=tk}:=I.kept (t':=tk) kp;exact h i _ m H q _ Q P (by simpa using o) hw
end L2
namespace M
open PySem PySem.Spec PyProof.Rows L2
def Ge(n:Nat)(a:C6):AG:=λd i S Q=>∃h,aT S d=.lst h/\h.length=n/\a h i S Q
theorem Ik{a:C6}:∀v h H Q,vR K (Ge n a) v h H Q->Ll K n (qX K a) v h H Q:=by
 rintro v h H Q ⟨w,d,i,S,o,ok,env,rep,⟨m,z,l,q⟩,bk⟩;obtain⟨b,j,rfl,h1,h2⟩:=br ok rep z;exact⟨b,j,rfl,cF.of h1,by rw[h2.length];exact l,w,m,i,S,o,ok,env,h2,q,bk⟩
section
variable {es:List Expr}
theorem sr{k:Nat}{t:C6}(j:X.calm=true)(h:R1 X es t)(i:(assignEach es X.env).length=n:=by rfl)(a:(assignEach es X.env).findIdx? (·.1)=none:=by rfl):GG X (.Tuple es k pos) (Ge n t):=⟨mG (L2.sr j h.p i a) Ik⟩
end
theorem jY{k:Nat}(D:Def X.prog X.w X.K X.mg X.base k x ps (au X.K sp))(i:aV k X.A)(m:Gl X x)(a:(x==("__debug__":Str))=false:=by decide+kernel):
  GE X (.Call (.Name x p) [] [] pos) (aCall sp jE):=⟨by
 obtain⟨f,fd,F,j,l,n⟩:=D.ex;refine mE (L2.EY F i m j l n .nil Ad a) λs H Q h=>?_;obtain⟨w,t,S,o,ok,env,q,bk⟩:=h;exact⟨w,[],S,o,ok,.nil,q,bk⟩⟩
end M
namespace M
open PySem L2
noncomputable def dc(s sub:Str)(hi:Nat)(p:Array Nat×Nat)(i:Nat):Array Nat×Nat:=
 if(decide (p.1.size<1)&&decide (p.2<=i)&&decide (i+sub.length<=hi)&&Builtin.Str.subAt s sub i)=true then(p.1.push i,i+sub.length) else p
theorem E3(s sub:Str)(hi:Nat):Builtin.Str.occurrences s sub 0 hi 1=((zcO (hi+1)).foldl (dc s sub hi) (#[],0)).1.toList:=by
 unfold Builtin.Str.occurrences;simp only[Std.Legacy.Range.forIn_eq_forIn_range',Std.Legacy.Range.size,Nat.sub_zero,Nat.add_sub_cancel,Nat.div_one,List.range_eq_range'];have e:∀(l:List Nat)(p:Array Nat×Nat),(forIn (m:=Id) l p λi __s=>if(decide (__s.fst.size<1)&&decide (__s.snd<=i)&&decide (i+sub.length<=hi)&&Builtin.Str.subAt s sub i)=true then pure (ForInStep.yield (__s.fst.push i,i+sub.length)) else pure (ForInStep.yield (__s.fst,__s.snd)))=pure (l.foldl (dc s sub hi) p):=by
  intro l
  induction l with
  |nil=>intro p;rfl
  |cons i l ih=>
   intro p;rw[List.forIn_cons,zbQ];unfold dc;split
   ·exact ih _
   ·exact ih _
 rw[e];rfl
theorem u6{s sub:Str}{hi:Nat}:∀(l:List Nat)(p:Array Nat×Nat),1<=p.1.size->l.foldl (dc s sub hi) p=p
 |[],_,_=>rfl
 |i::l,p,h=>by
  rw[zbQ];have e:dc s sub hi p i=p:=by
   unfold dc;rw[yIn];rw[yDf (by lia)];simp
  rw[e];exact u6 l p h
theorem Ag{s sub:Str}{hi:Nat}:∀l:List Nat,(l.foldl (dc s sub hi) (#[],0)).1.isEmpty= !(l.any λi=>decide (i+sub.length<=hi)&&Builtin.Str.subAt s sub i)
 |[]=>rfl
 |i::l=>by
  rw[zbQ,zck];by_cases h:(decide (i+sub.length<=hi)&&Builtin.Str.subAt s sub i)=true
  ·have e:dc s sub hi (#[],0) i=(#[i],i+sub.length):=by
    unfold dc;rw[yIp]
    ·rfl
    ·rw[Bool.and_assoc,h];simp
   rw[e,u6 l _ (by simp),h];rfl
  ·have e:dc s sub hi (#[],0) i=(#[],0):=by
    unfold dc;rw[yIn];rw[Bool.and_assoc];intro a;simp only[zbG] at a;exact h (by simp only[zbG];exact a.2)
   rw[e,Ag l,Bool.eq_false_iff.mpr h,Bool.false_or]
theorem HR(s:Str)(c:Nat):(!(Builtin.Str.occurrences s ⟨#[c]⟩ 0 s.length 1).isEmpty)=decide (c∈s.cps.toList):=by
 rw[E3];have:=Ag (s:=s) (sub:=⟨#[c]⟩) (hi:=s.length) (zcO (s.length+1));rw[show∀a:Array Nat,a.toList.isEmpty=a.isEmpty from λa=>by simp,this,Bool.not_not];rw[zbY,decide_eq_true_iff,zbC];constructor
 ·rintro⟨i,_,h⟩;simp only[zbG,decide_eq_true_eq] at h;obtain⟨h1,h2⟩:=h;have h1:i+1<=s.cps.size:=h1;have h2:s.cps.extract i (i+1)=#[c]:=eq_of_beq h2;have l:=congrArg (λa:Array Nat=>a[0]?) h2;simp[Array.getElem?_extract] at l;exact Array.mem_toList_iff.mpr (Array.mem_of_getElem? l.2)
 ·intro h;obtain⟨i,hi,e⟩:=zaG h;have m:i<s.cps.size:=by simpa using hi
  refine⟨i,by rw[zcb];show i<s.cps.size+1;lia,?_⟩;simp only[zbG,decide_eq_true_eq];refine⟨by show i+1<=s.cps.size;lia,?_⟩;show(s.cps.extract i (i+1)==#[c])=true;rw[beq_iff_eq];refine Array.ext (by simp;lia) λj h1 h2=>?_;have:j=0:=by simp at h2;lia
  subst this;simpa using e
def TM(a:Bool):A2:=λx y S Q=>∃i j,aT S x=.str i/\aT S y=.str j/\Q (.dat (.bl (a != !(Builtin.Str.occurrences j i 0 j.length 1).isEmpty))) S
theorem E5:mH X (yan .NotIn) (TM true):=⟨m2 sA λx y H Q h=>by
 obtain⟨w,d,e,S,o,ok,n,m,⟨i,j,l,a,q⟩,bk⟩:=h;exact⟨i,j,bM n l,bM m a,bk.dat .refl ok .bl (by simpa using q)⟩⟩
end M
namespace M8
open PySem PySem.Spec PyProof.Rows
open PySem.SetTable (Probe bits runEnd leap turns)
theorem S6{α:Type}[DecidableEq α]:∀{l m:List α},l.Nodup->(∀x∈l,x∈m)->l.length<=m.length
 |[],m,_,_=>zcL _
 |a::l,m,hn,hs=>by
  rw[zbM] at hn;have h1:l.length<=(m.erase a).length:=S6 hn.2 λx h=>by
   have:x≠a:=λe=>hn.1 (e▸h);exact(List.mem_erase_of_ne this).mpr (hs x (zay _ h))
  have h2:a∈m:=hs a (by simp);have j:=zal h2;have i:0<m.length:=zao h2;rw[zbq];lia
noncomputable def Dc(m:Nat)(p:Probe):Probe:=
 if p.more> 0 then{p with j:=p.j+1,more:=p.more - 1} else
 {p with j:=(leap m p.i p.perturb).1,more:=runEnd m (leap m p.i p.perturb).1 - (leap m p.i p.perturb).1,i:=(leap m p.i p.perturb).1,perturb:=(leap m p.i p.perturb).2}
theorem Gf(t:SetTable)(p:Probe):t.advance p=Dc t.mask p:=rfl
noncomputable def cS(m:Nat)(q:Nat×Nat):Probe:={j:=q.1,more:=runEnd m q.1 - q.1,i:=q.1,perturb:=q.2,dummy:=none}
noncomputable def ru(m:Nat)(h:Int):Nat->Nat×Nat
 |0=>(bits h % (m+1),bits h)
 |k+1=>leap m (ru m h k).1 (ru m h k).2
noncomputable def road(m:Nat)(h:Int):Nat->Probe
 |0=>cS m (ru m h 0)
 |n+1=>Dc m (road m h n)
noncomputable def nk(m:Nat)(h:Int):Nat->Nat
 |0=>0
 |k+1=>nk m h k+(runEnd m (ru m h k).1 - (ru m h k).1)+1
theorem ML:runEnd m i - i<=9:=by unfold runEnd;split<;>lia
theorem xX:i<=runEnd m i:=by unfold runEnd;split<;>lia
theorem Et(h:i<=m):runEnd m i<=m:=by unfold runEnd;split<;>lia
theorem Ew(m:Nat)(h:Int):∀k,(ru m h k).1<=m
 |0=>zbi (zcP _ (Nat.succ_pos m))
 |k+1=>zbi (zcP _ (Nat.succ_pos m))
theorem Lc(m:Nat)(h:Int):∀k,nk m h k<=10*k
 |0=>zcK _
 |k+1=>by have:=Lc m h k;have:=ML (m:=m) (i:=(ru m h k).1);show nk m h k+_+1<=_;lia
theorem zY(m:Nat)(h:Int):∀k,road m h (nk m h k)=cS m (ru m h k)/\∀c,c<=runEnd m (ru m h k).1 - (ru m h k).1->road m h (nk m h k+c)={cS m (ru m h k) with j:=(ru m h k).1+c,more:=runEnd m (ru m h k).1 - (ru m h k).1 - c}:=by
 have step:∀k,road m h (nk m h k)=cS m (ru m h k)->∀c,c<=runEnd m (ru m h k).1 - (ru m h k).1->road m h (nk m h k+c)={cS m (ru m h k) with j:=(ru m h k).1+c,more:=runEnd m (ru m h k).1 - (ru m h k).1 - c}:=by
  intro k a c
  induction c with
  |zero=>intro _;rw[Nat.add_zero,a];rfl
  |succ c ih=>
   intro i;show Dc m (road m h (nk m h k+c))=_;rw[ih (by lia)];unfold Dc;rw[yIp (by show runEnd m (ru m h k).1 - (ru m h k).1 - c> 0;lia)];dsimp only;rw[Nat.add_assoc,Nat.sub_sub]
 intro k
 induction k with
 |zero=>exact⟨rfl,step 0 rfl⟩
 |succ k ih=>
  have:road m h (nk m h (k+1))=cS m (ru m h (k+1)):=by
   show Dc m (road m h (nk m h k+(runEnd m (ru m h k).1 - (ru m h k).1)))=_;rw[ih.2 _ (zcK _)];unfold Dc;rw[yIn (by show¬runEnd m (ru m h k).1 - (ru m h k).1 - (runEnd m (ru m h k).1 - (ru m h k).1)> 0;lia)];rfl
  exact⟨this,step _ this⟩
theorem nU(m:Nat)(h:Int):∀n,(road m h n).j+(road m h n).more<=m/\(road m h n).dummy=none
 |0=>by
  have h1:=Ew m h 0;have h2:=Et h1;have l:=xX (m:=m) (i:=(ru m h 0).1);refine⟨?_,rfl⟩;show(ru m h 0).1+(runEnd m (ru m h 0).1 - (ru m h 0).1)<=m;lia
 |n+1=>by
  have a:=nU m h n;show(Dc m (road m h n)).j+(Dc m (road m h n)).more<=m/\(Dc m (road m h n)).dummy=none;unfold Dc;split
  ·refine⟨?_,a.2⟩;show(road m h n).j+1+((road m h n).more - 1)<=m;lia
  ·refine⟨?_,a.2⟩;dsimp only;have h1:(leap m (road m h n).i (road m h n).perturb).1<=m:=zbi (zcP _ (Nat.succ_pos m));have h2:=Et h1;have l:=xX (m:=m) (i:=(leap m (road m h n).i (road m h n).perturb).1);lia
noncomputable def Sg(m i:Nat):Nat:=(i*5+1) % (m+1)
noncomputable def it(m:Nat):Nat->Nat->Nat
 |0,i=>i
 |k+1,i=>it m k (Sg m i)
theorem oS(m:Nat):∀a b i,it m (a+b) i=it m b (it m a i)
 |0,b,i=>by rw[Nat.zero_add];rfl
 |a+1,b,i=>by rw[Nat.add_right_comm];exact oS m a b (Sg m i)
noncomputable def QH(m:Nat):Nat->Nat->List Nat
 |0,_=>[]
 |k+1,i=>i::QH m k (Sg m i)
theorem Ae(m:Nat):∀k i j,j∈QH m k i->∃a,a<k/\it m a i=j
 |0,i,j,h=>by simp[QH] at h
 |k+1,i,j,h=>by
  simp only[QH,zci] at h;rcases h with rfl|h
  ·exact⟨0,by lia,rfl⟩
  ·obtain⟨a,h1,h2⟩:=Ae m k _ j h;exact⟨a+1,by lia,h2⟩
noncomputable def full(m:Nat):Bool:=(zcO (m+1)).all (λj=>(QH m (m+1) 0).contains j)&&it m (m+1) 0==0
theorem Rh:full 7=true:=by decide+kernel
theorem Ob:full 31=true:=by decide+kernel
theorem Jx:full 127=true:=by decide+kernel
theorem NX(h:full m=true)(hi:i<=m)(q:j<=m):∃k,k<=m/\it m k i=j:=by
 unfold full at h;rw[zbG,zbu] at h;have g:∀x,x<=m->∃a,a<m+1/\it m a 0=x:=λx t=>Ae m _ _ _ (by
  have:=h.1 x (zcb.mpr (by lia));simpa using this)
 have l:it m (m+1) 0=0:=by simpa using h.2
 obtain⟨a,v,o⟩:=g i hi;obtain⟨b,u,n⟩:=g j q;by_cases s:a<=b
 ·refine⟨b - a,by lia,?_⟩;rw[<-o,<-oS,<-n];congr 1;lia
 ·refine⟨m+1 - a+b,by lia,?_⟩;rw[<-o,<-oS,<-n];have:a+(m+1 - a+b)=m+1+b:=by lia
  rw[this,oS,l]
theorem J5(h:Int):bits h<2 ^ 64:=by
 unfold bits;have h1:=zaS h (show(0:Int)<2 ^ 64 by decide);have h2:=zbX h (show(2 ^ 64:Int)≠0 by decide);have a:(2 ^ 64:Int)=((2 ^ 64:Nat):Int):=by decide
 lia
theorem Eu(m:Nat)(h:Int):∀k,(ru m h k).2=bits h / 32 ^ k
 |0=>by simp[ru]
 |k+1=>by
  show(ru m h k).2 / 32=_;rw[Eu m h k,Nat.div_div_eq_div_mul,Nat.pow_succ]
theorem Ir(m:Nat)(h:Int){k:Nat}(a:13<=k):(ru m h k).2=0:=by
 rw[Eu];refine Nat.div_eq_of_lt (zaR (J5 h) ?_);exact zcy (show 2 ^ 64<=32 ^ 13 by decide) (Nat.pow_le_pow_right (by decide) a)
theorem K7(m:Nat)(h:Int):∀k,(ru m h (13+k)).1=it m k (ru m h 13).1
 |0=>rfl
 |k+1=>by
  have e:(ru m h (13+(k+1))).1=Sg m (ru m h (13+k)).1:=by
   show((ru m h (13+k)).1*5+1+(ru m h (13+k)).2 / 32) % (m+1)=_;rw[Ir m h (by lia)];rfl
  rw[e,K7 m h k,oS m k 1];rfl
theorem Ex(i:full m=true)(h:Int)(a:j<=m):∃k,k<=m+13/\(ru m h k).1=j:=by
 obtain⟨k,h1,h2⟩:=NX i (Ew m h 13) a;exact⟨13+k,by lia,by rw[K7,h2]⟩
theorem Ey(i:full m=true)(h:Int)(a:j<=m):∃n,n<10*turns m/\(road m h n).j=j:=by
 obtain⟨k,h1,h2⟩:=Ex i h a;refine⟨nk m h k,?_,?_⟩
 ·have:=Lc m h k;unfold turns;lia
 ·rw[(zY m h k).1];exact h2
def Way(m:Nat)(occ:Nat->Prop)(h:Int)(j:Nat):Prop:=∃n,(road m h n).j=j/\∀a<n,occ (road m h a).j
theorem Way.mono{occ a:Nat->Prop}{h:Int}(w:Way m occ h j)(g:∀x,occ x->a x):Way m a h j:=by
 obtain⟨n,h1,h2⟩:=w;exact⟨n,h1,λi l=>g _ (h2 i l)⟩
theorem least{P:Nat->Prop}:∀(n:Nat),P n->∃k,k<=n/\P k/\∀i<k,¬P i
 |0,h=>⟨0,zcK _,h,λi j=>absurd j (zbW _)⟩
 |n+1,h=>by
  by_cases g:∃i,i<=n/\P i
  ·obtain⟨i,h1,h2⟩:=g;obtain⟨k,a,b,c⟩:=least i h2;exact⟨k,by lia,b,c⟩
  ·exact⟨n+1,zcK _,h,λi j l=>g ⟨i,by lia,l⟩⟩
theorem yI(u:full m=true)(h:Int){occ:List Nat}(y:occ.length<=m):∃N,N<10*turns m/\(road m h N).j ∉ occ/\∀n<N,(road m h n).j∈occ:=by
 have:∃j,j<=m/\j ∉ occ:=by
  apply Classical.byContradiction;intro o;have h1:=S6 (l:=zcO (m+1)) (m:=occ) List.nodup_range λx q=>by
   have q:=zcb.mp q;apply Classical.byContradiction;intro i;exact o ⟨x,by lia,i⟩
  rw[zbe] at h1;lia
 obtain⟨j,h1,h2⟩:=this;obtain⟨n,C,v⟩:=Ey u h h1;obtain⟨N,a,b,c⟩:=least (P:=λn=>(road m h n).j ∉ occ) n (by rw[v];exact h2);exact⟨N,by lia,b,λs t=>Classical.byContradiction λi=>c s t i⟩
end M8
namespace M8
open PySem PySem.Spec PyProof.Rows M7
open PySem.SetTable (Probe bits runEnd leap turns)
abbrev Ent:=Nat×(Int×yai)
noncomputable def fs(l:List Ent):List Nat:=l.map (·.1)
structure Tab(t:SetTable)(es:Array (Int×yai))(l:List Ent):Prop where
 dm:t.dummies=#[]
 pl:t.place.toList=fs l
 el:es.toList=l.map (·.2)
 up:(fs l).Pairwise (· < ·)
 mm:t.mask=7∨t.mask=31∨t.mask=127
 nf:l.length*5<t.mask*3
 le:∀e∈l,e.1<=t.mask
 way:∀e∈l,Way t.mask (· ∈fs l) e.2.1 e.1
theorem AF(h:m=7∨m=31∨m=127):full m=true:=by
 rcases h with rfl|rfl|rfl
 ·exact Rh
 ·exact Ob
 ·exact Jx
section
variable {l:List Ent}
theorem Tab.rise(T:Tab t es l):mY t.place:=fN.mpr (by rw[T.pl];exact T.up)
theorem Tab.sz(T:Tab t es l):t.place.size=l.length:=by rw[<-zaJ,T.pl];exact zbK ..
theorem Tab.Si(T:Tab t es l):es.size=l.length:=by rw[<-zaJ,T.el,zbK]
theorem Tab.fits(T:Tab t es l):t.fits es.size=true:=by
 have h1:=T.sz;have h2:=T.Si;have a:=T.nf;unfold SetTable.fits SetTable.fill;rw[T.dm,h1,h2];simp;lia
theorem below_at{a:Array Nat}(h:mY a)(hi:i<a.size):SetTable.below a a[i]=i:=by
 obtain⟨h1,h2,j⟩:=iA h a[i];rcases zbj i (SetTable.below a a[i]) with z|z|z
 ·have:=h2 i hi z;lia
 ·exact z.symm
 ·have:=j _ (by lia:SetTable.below a a[i]<a.size) (zcK _);have:=h _ _ z hi (by lia);lia
theorem Tab.live(T:Tab t es l){e:Int×yai}(h:(j,e)∈l):∃i,t.slot j=.live i/\es[i]? =some e/\i<es.size:=by
 obtain⟨i,a,n⟩:=zaG h;have m:i<t.place.size:=by rw[T.sz];exact a
 have q:t.place[i]=j:=by
  have:t.place.toList[i]'(by simpa using m)=(fs l)[i]'(by unfold fs;simpa using a):=by simp only[T.pl]
  rw[Array.getElem_toList] at this;rw[this];unfold fs;rw[zbz,n]
 have s:es[i]? =some e:=by
  rw[<-zaw,T.el,zba,zak a,n];rfl
 have o:=below_at T.rise m;rw[q] at o;refine⟨i,?_,s,by rw[T.Si];exact a⟩;unfold SetTable.slot;dsimp only;rw[o,zai m,q,yIp (by simp)]
theorem Tab.empty(T:Tab t es l)(h:j ∉ fs l):t.slot j=.empty:=by
 unfold SetTable.slot;dsimp only;rw[yIn (λz=>h (by
  have z:t.place[SetTable.below t.place j]? =some j:=by simpa using z
  rw[<-zaw,T.pl] at z;exact zaB z)),T.dm]
 have:SetTable.has #[] j=false:=by unfold SetTable.has;rfl
 rw[this];rfl
theorem ND(h:j∈fs l):∃e,(j,e)∈l:=by
 obtain⟨⟨a,b⟩,h1,h2⟩:=zcw.mp h;have h2:a=j:=h2;subst h2;exact⟨b,h1⟩
theorem Tab.probe(T:Tab t es l){hashAt:Nat->Int}{h:Int}(x:∀i e,es[i]? =some e->hashAt i=e.1){N:Nat}(L:(road t.mask h N).j ∉ fs l)(I:∀n<N,(road t.mask h n).j∈fs l):∀(f n:Nat),n<=N->N - n<f->
  (SetTable.probe.go t hashAt h f (road t.mask h n)=some (.empty (road t.mask h N).j none)/\∀o,n<=o->o<N->∀e,((road t.mask h o).j,e)∈l->e.1≠h)∨
  ∃q e i,n<=q/\q<N/\((road t.mask h q).j,e)∈l/\e.1=h/\t.slot (road t.mask h q).j=.live i/\es[i]? =some e/\SetTable.probe.go t hashAt h f (road t.mask h n)=some (.candidate (road t.mask h q).j i (road t.mask h (q+1)))/\∀o,n<=o->o<q->∀e,((road t.mask h o).j,e)∈l->e.1≠h
 |0,n,h1,h2=>by lia
 |f+1,n,h1,h2=>by
  rw[SetTable.probe.go.eq_2];rcases zcC n N with z|z
  ·obtain⟨e,H⟩:=ND (I n z);obtain⟨i,F,C,Z⟩:=T.live H;rw[F];dsimp only;rw[x i e C];have u:∀s,((road t.mask h n).j,s)∈l->s=e:=λs m=>by
    obtain⟨i',y,G,_⟩:=T.live m;rw[F] at y;injection y with y;subst y;rw[C] at G;exact(zcN.inj G).symm
   by_cases v:e.1=h
   ·refine .inr ⟨n,e,i,zcK _,z,H,v,F,C,?_,λo a b=>by lia⟩;rw[yIp (by simp[v]),Gf];rfl
   ·rw[yIn (by simp[v]),Gf];rcases T.probe x L I f (n+1) (by lia) (by lia) with⟨a,b⟩|⟨q,O,E,a1,Y,X,W,U,S,Q,P⟩
    ·refine .inl ⟨a,λo c d s m=>?_⟩;rcases Nat.eq_or_lt_of_le c with rfl|c
     ·rw[u s m];exact v
     ·exact b o c d s m
    ·refine .inr ⟨q,O,E,by lia,Y,X,W,U,S,Q,λo c d s m=>?_⟩;rcases Nat.eq_or_lt_of_le c with rfl|c
     ·rw[u s m];exact v
     ·exact P o c d s m
  ·obtain rfl:n=N:=by lia
   rw[T.empty L];dsimp only;rw[(nU t.mask h n).2];exact .inl ⟨rfl,λo a b=>by lia⟩
noncomputable def more(l:List Ent)(p:Nat)(e:Ent):List Ent:=l.take p++e::l.drop p
theorem eG(l:List Ent)(p:Nat)(e:Ent):(more l p e).Perm (e::l):=by
 unfold more;refine List.perm_middle.trans ?_;rw[List.take_append_drop]
theorem oV{α:Type}(a:Array α)(p:Nat)(x:α):(SetTable.insertAt a p x).toList=a.toList.take p++x::a.toList.drop p:=by
 unfold SetTable.insertAt;simp[Array.toList_extract];exact List.take_of_length_le (by simp)
theorem ER(T:Tab t es l){h:Int}{x:yai}:(SetTable.insertAt es (t.put j).2 (h,x)).toList=(more l (t.put j).2 (j,(h,x))).map (·.2):=by
 rw[oV,T.el];unfold more;rw[zbS,zcj,zcm,List.map_drop]
theorem Tab.put(T:Tab t es l){h:Int}{x:yai}{N:Nat}(C:(road t.mask h N).j ∉ fs l)(v:∀n<N,(road t.mask h n).j∈fs l)(q:(l.length+1)*5<t.mask*3):
  Tab (t.put (road t.mask h N).j).1 (SetTable.insertAt es (t.put (road t.mask h N).j).2 (h,x)) (more l (t.put (road t.mask h N).j).2 ((road t.mask h N).j,(h,x))):=by
 have F:=nU t.mask h N;generalize E:(road t.mask h N).j=j at*;have u:SetTable.has t.dummies j=false:=by rw[T.dm];unfold SetTable.has;rfl
 have o:(SetTable.insertAt t.place (SetTable.below t.place j) j).toList=fs (more l (SetTable.below t.place j) (j,(h,x))):=by
  rw[oV,T.pl];unfold more fs;rw[zbS,zcj,zcm,List.map_drop]
 have m:∀y,y∈fs l->y∈fs (more l (SetTable.below t.place j) (j,(h,x))):=λy s=>by
  have:=((eG l (SetTable.below t.place j) (j,(h,x))).map (·.1)).mem_iff (a:=y);exact this.mpr (zay _ s)
 refine⟨?_,o,ER T,?_,T.mm,?_,?_,?_⟩
 ·show(if SetTable.has t.dummies j=true then _ else t.dummies)=#[];rw[yIn (by rw[u];decide)];exact T.dm
 ·have:=fN.mp (uO (j:=j) T.rise (by
   cases z:t.place[SetTable.below t.place j]? ==some j with
   |false=>rfl
   |true=>
    have z:t.place[SetTable.below t.place j]? =some j:=by simpa using z
    rw[<-zaw,T.pl] at z;exact absurd (zaB z) C))
  rw[o] at this;exact this
 ·rw[(eG ..).length_eq];exact q
 ·intro e i;rcases zci.mp ((eG ..).mem_iff.mp i) with rfl|i
  ·show j<=t.mask;lia
  ·exact T.le e i
 ·intro e i;rcases zci.mp ((eG ..).mem_iff.mp i) with rfl|i
  ·exact⟨N,E,λn q=>m _ (v n q)⟩
  ·exact(T.way e i).mono m
end
def oA(ow:Array (Option Nat))(j:Nat):Prop:=∃i,ow[j]? =some (some i)
structure Own(m:Nat)(hs:List Int)(ow:Array (Option Nat)):Prop where
 sz:ow.size=m+1
 wy:∀(j i:Nat),ow[j]? =some (some i)->i<hs.length/\Way m (oA ow) (hs.getD i 0) j
 al:∀(i:Nat),i<hs.length->∃j:Nat,ow[j]? =some (some i)
 un:∀(j j' i:Nat),ow[j]? =some (some i)->ow[j']? =some (some i)->j=j'
theorem Jr{ow:Array (Option Nat)}(sz:ow.size=m+1)(l:j<=m):((ow.getD j (some 0)).isNone=true->ow[j]? =some none)/\((ow.getD j (some 0)).isNone=false->oA ow j):=by
 have a:j<ow.size:=by lia
 have h:ow.getD j (some 0)=ow[j]:=by simp[zcQ,a]
 unfold oA;rw[h,zai a];cases ow[j] with
 |none=>exact⟨λ_=>rfl,(λz=>by cases z)⟩
 |some i=>exact⟨(λz=>by cases z),λ_=>⟨i,rfl⟩⟩
theorem AL{m:Nat}{ow:Array (Option Nat)}{h:Int}(sz:ow.size=m+1):∀(f k:Nat),(∃a,k<=a/\a<k+f/\ow[(ru m h a).1]? =some none)->(∀n<nk m h k,oA ow (road m h n).j)->∃j,SetTable.layClean.free m ow f (ru m h k).1 (ru m h k).2=some j/\j<=m/\ow[j]? =some none/\Way m (oA ow) h j
 |0,k,hx,_=>by obtain⟨a,h1,h2,_⟩:=hx;lia
 |f+1,k,hx,hb=>by
  obtain⟨a,h1,h2,v⟩:=hx;rw[SetTable.layClean.free.eq_2];have s:=Ew m h k;have y:=Et s;have E:=xX (m:=m) (i:=(ru m h k).1);have l:=zY m h k;cases o:(zcO (runEnd m (ru m h k).1+1 - (ru m h k).1)).find? (λc=>(ow.getD ((ru m h k).1+c) (some 0)).isNone) with
  |some c=>
   rw[List.find?_range_eq_some] at o;obtain⟨G,x,F⟩:=o;have x:=zcb.mp x;have u:(ru m h k).1+c<=m:=by lia
   refine⟨_,rfl,u,(Jr sz u).1 G,nk m h k+c,?_,λn q=>?_⟩
   ·rw[l.2 c (by lia)]
   ·rcases zcC n (nk m h k) with z|z
    ·exact hb n z
    ·obtain⟨d,rfl⟩:∃d,n=nk m h k+d:=⟨n - nk m h k,by lia⟩
     rw[l.2 d (by lia)];exact(Jr sz (j:=(ru m h k).1+d) (by lia)).2 (by have:=F d (by lia);simpa using this)
  |none=>
   rw[List.find?_range_eq_none] at o;have all:∀d,d<=runEnd m (ru m h k).1 - (ru m h k).1->oA ow ((ru m h k).1+d):=λd hd=>(Jr sz (by lia)).2 (by have:=o d (by lia);simpa using this);have C:k≠a:=λe=>by
    subst e;obtain⟨i,t⟩:=all 0 (by lia);rw[Nat.add_zero,v] at t;cases t
   exact AL sz f (k+1) ⟨a,by lia,by lia,v⟩ λn q=>by
    have q:n<nk m h k+(runEnd m (ru m h k).1 - (ru m h k).1)+1:=q;rcases zcC n (nk m h k) with z|z
    ·exact hb n z
    ·obtain⟨d,rfl⟩:∃d,n=nk m h k+d:=⟨n - nk m h k,by lia⟩
     rw[l.2 d (by lia)];exact all d (by lia)
theorem Own.step{o:List Int}{ow:Array (Option Nat)}(O:Own m o ow)(S:full m=true)(Y:o.length<=m)(h:Int):
  ∃j,SetTable.layClean.free m ow (turns m) (bits h % (m+1)) (bits h)=some j/\Own m (o++[h]) (ow.setIfInBounds j (some o.length)):=by
 have⟨j0,z1,z2⟩:∃j,j<=m/\ow[j]? =some none:=by
  apply Classical.byContradiction;intro G;have C:∀j,j<=m->oA ow j:=λj P=>by
   cases e:ow[j]? with
   |none=>rw[zac] at e;have:=O.sz;lia
   |some x=>
    cases x with
    |none=>exact absurd ⟨j,P,e⟩ G
    |some i=>exact⟨i,e⟩
  let g:Nat->Nat:=λi=>if h:i<o.length then Classical.choose (O.al i h) else 0;have Q:∀i (h:i<o.length),ow[g i]? =some (some i):=λi h=>by
   show ow[if h:i<o.length then Classical.choose (O.al i h) else 0]? =_;rw[dif_pos h];exact Classical.choose_spec (O.al i h)
  have:=S6 (l:=zcO (m+1)) (m:=(zcO o.length).map g) List.nodup_range λx q=>by
   have q:=zcb.mp q;obtain⟨i,s⟩:=C x (by lia);have v:=(O.wy x i s).1;rw[O.un x (g i) i s (Q i v)];exact zcw.mpr ⟨i,zcb.mpr v,rfl⟩
  rw[zbe,zbK,zbe] at this;lia
 obtain⟨k,k1,H⟩:=Ex S h z1;obtain⟨j,X,Z,W,U⟩:=AL (h:=h) O.sz (turns m) 0 ⟨k,zcL _,by unfold turns;lia,by rw[H];exact z2⟩ (λn I=>absurd I (zbW _));refine⟨j,X,?_⟩;have L:j<ow.size:=by rw[O.sz];lia
 have dh:∀x,(ow.setIfInBounds j (some o.length))[x]? =if j=x then some (some o.length) else ow[x]?:=λx=>by
  rw[Array.getElem?_setIfInBounds];by_cases e:j=x
  ·rw[yIp e,yIp e,yIp (by lia)]
  ·rw[yIn e,yIn e]
 have u:∀x,oA ow x->oA (ow.setIfInBounds j (some o.length)) x:=λx ⟨i,s⟩=>by
  unfold oA;rw[dh];by_cases e:j=x
  ·exact⟨_,yIp e⟩
  ·exact⟨i,by rw[yIn e];exact s⟩
 refine⟨by simp[O.sz],λx i s=>?_,λi s=>?_,λx y i q t=>?_⟩
 ·rw[dh] at s;by_cases e:j=x
  ·rw[yIp e] at s;have s:o.length=i:=by injection s with s;injection s
   subst s;subst e;refine⟨by simp,?_⟩;have:(o++[h]).getD o.length 0=h:=by simp
   rw[this];exact U.mono u
  ·rw[yIn e] at s;obtain⟨a,b⟩:=O.wy x i s;refine⟨by rw[zaM];lia,?_⟩;have:(o++[h]).getD i 0=o.getD i 0:=by simp[zae a]
   rw[this];exact b.mono u
 ·rw[zaM] at s;by_cases e:i=o.length
  ·exact⟨j,by rw[dh,yIp rfl,e]⟩
  ·obtain⟨x,q⟩:=O.al i (by have:[h].length=1:=rfl;lia);refine⟨x,?_⟩;rw[dh,yIn (λe=>by rw[<-e,W] at q;cases q)];exact q
 ·rw[dh] at q t;by_cases F:j=x<;>by_cases E:j=y
  ·rw[<-F,E]
  ·rw[yIp F] at q;rw[yIn E] at t;have q:o.length=i:=by injection q with q;injection q
   have:=(O.wy y i t).1;lia
  ·rw[yIn F] at q;rw[yIp E] at t;have t:o.length=i:=by injection t with t;injection t
   have:=(O.wy x i q).1;lia
  ·rw[yIn F] at q;rw[yIn E] at t;exact O.un x y i q t
theorem Ft{m:Nat}(n:full m=true){F:Option (Array (Option Nat)×Nat)->Int->Option (Array (Option Nat)×Nat)}(o:∀ow k h j,SetTable.layClean.free m ow (turns m) (bits h % (m+1)) (bits h)=some j->F (some (ow,k)) h=some (ow.setIfInBounds j (some k),k+1)):
  ∀(rest done:List Int)(ow:Array (Option Nat)),Own m done ow->done.length+rest.length<=m->∃i,rest.foldl F (some (ow,done.length))=some (i,done.length+rest.length)/\Own m (done++rest) i
 |[],done,ow,O,_=>⟨ow,rfl,by rw[zbL];exact O⟩
 |h::rest,done,ow,O,hl=>by
  rw[zbq] at hl;obtain⟨j,s,q⟩:=O.step n (by lia) h;have l:(done++[h]).length=done.length+1:=by simp
  obtain⟨i,a,b⟩:=Ft n o rest (done++[h]) _ q (by lia);refine⟨i,?_,?_⟩
  ·rw[zbQ,o _ _ _ _ s];rw[l] at a;rw[a,zbq];congr 2;lia
  ·rw[zbc] at b;exact b
theorem fH(x:full m=true)(n:Array Int)(v:n.size<=m):∃ow,SetTable.layClean m n=some ow/\Own m n.toList ow:=by
 have y:Own m [] (Array.replicate (m+1) none):=by
  have u:∀j i,¬(Array.replicate (m+1) (none:Option Nat))[j]? =some (some i):=λj i z=>by
   rw[Array.getElem?_replicate] at z;split at z<;>simp at z
  exact⟨by simp,λj i l=>absurd l (u j i),λi l=>by simp at l,λj C i l=>absurd l (u j i)⟩
 unfold SetTable.layClean;rw[<-Array.foldl_toList];generalize q:(λ(t:Option (Array (Option Nat)×Nat))(h:Int)=>(do
  let(owner,k) <-t;let j <-SetTable.layClean.free m owner (turns m) (bits h % (m+1)) (bits h)
  pure (owner.setIfInBounds j (some k),k+1)))=F
 have s:∀ow k h j,SetTable.layClean.free m ow (turns m) (bits h % (m+1)) (bits h)=some j->F (some (ow,k)) h=some (ow.setIfInBounds j (some k),k+1):=λow k h j o=>by
  rw[<-q];show(SetTable.layClean.free m ow (turns m) (bits h % (m+1)) (bits h)).bind _=_;rw[o];rfl
 obtain⟨ow,a,b⟩:=Ft x (λow k h j o=>by
  exact s ow k h j o) n.toList [] _ y (by simpa using v)
 refine⟨ow,?_,b⟩;have a:=congrArg (Option.map (·.1)) a;exact a
theorem EH(Z:SetTable.sizeAbove n - 1=m)(W:m=7∨m=31∨m=127)(hl:es.size*5<m*3):
  ∃t' o u,t.relaid (es.map (·.1)) n=some (t',o)/\Tab t' (o.filterMap (es[·]?)) u/\(u.map (·.2)).Perm es.toList/\t'.led=t.led/\t'.plain=t.plain:=by
 obtain⟨ow,a,O⟩:=fH (AF W) (es.map (·.1)) (by rw[Array.size_map];lia);have C:(es.map (·.1)).toList.length=es.size:=by simp
 generalize E:((zcO (m+1)).filterMap λj=>(ow.getD j none).map (j,·))=live;have mem:∀j i,(j,i)∈live↔ow[j]? =some (some i):=λj i=>by
  rw[<-E,List.mem_filterMap];constructor
  ·rintro⟨x,h1,h2⟩;have h1:=zcb.mp h1;have l:x<ow.size:=by rw[O.sz];exact h1
   have Q:ow.getD x none=ow[x]:=by simp[zcQ,l]
   rw[Q] at h2;cases P:ow[x] with
   |none=>rw[P] at h2;cases h2
   |some y=>
    rw[P] at h2;have h2:some (x,y)=some (j,i):=h2;injection h2 with h2;injection h2 with I h4;subst I;subst h4;rw[zai l,P]
  ·intro h;obtain⟨l,e⟩:=Array.getElem?_eq_some_iff.mp h;refine⟨j,zcb.mpr (by rw[<-O.sz];exact l),?_⟩;have Q:ow.getD j none=ow[j]:=by simp[zcQ,l]
   rw[Q,e];rfl
 have F:∀e∈live,e.2<es.size/\Way m (oA ow) ((es.getD e.2 (0,.none)).1) e.1:=λe s=>by
  obtain⟨h1,h2⟩:=O.wy e.1 e.2 ((mem e.1 e.2).mp s);rw[C] at h1;refine⟨h1,?_⟩;have:(es.map (·.1)).toList.getD e.2 0=(es.getD e.2 (0,.none)).1:=by simp[zcQ,h1]
  rw[this] at h2;exact h2
 have up:(live.map (·.1)).Pairwise (· < ·):=by
  rw[<-E];exact List.Pairwise.sublist (nv _ _) List.pairwise_lt_range
 have nd:(live.map (·.2)).Nodup:=by
  rw[zbg] at up;show(live.map (·.2)).Pairwise (· ≠·);rw[zbg];refine up.imp_of_mem λ{x y} l G hlt e=>?_;have h1:=(mem x.1 x.2).mp l;have h2:=(mem y.1 y.2).mp G;rw[<-e] at h2;have:=O.un _ _ _ h1 h2;lia
 have Y:(live.map (·.2)).Perm (zcO es.size):=by
  rw[List.perm_ext_iff_of_nodup nd List.nodup_range];intro i;rw[zcb,zcw];constructor
  ·rintro⟨e,s,rfl⟩;exact(F e s).1
  ·intro H;obtain⟨j,hj⟩:=O.al i (by rw[C];exact H);exact⟨(j,i),(mem j i).mpr hj,rfl⟩
 generalize v:(live.map λe=>((e.1,es.getD e.2 (0,.none)):Ent))=u;have L:fs u=live.map (·.1):=by rw[<-v];unfold fs;rw[zcv];rfl
 have X:u.map (·.2)=(live.map (·.2)).map λi=>es.getD i (0,.none):=by rw[<-v,zcv,zcv];rfl
 have S:(u.map (·.2)).Perm es.toList:=by
  rw[X];refine(Y.map _).trans ?_;have:(zcO es.size).map (λi=>es.getD i (0,.none))=es.toList:=by
   refine zbx (by simp) λi h1 h2=>?_;have I:i<es.size:=by simpa using h2
   simp[zcQ,I]
  rw[this]
 have fm:∀q:List (Nat×Nat),(∀e∈q,e.2<es.size)->(q.map (·.2)).filterMap (es[·]?)=(q.map (·.2)).map λi=>es.getD i (0,.none):=by
  intro q
  induction q with
  |nil=>intro _;rfl
  |cons e q ih=>
   intro U;have h1:=U e (by simp);simp only[zcj];rw[zaD,zai h1];dsimp only;rw[ih λx l=>U x (zay _ l)];simp[zcQ,h1]
 refine⟨{mask:=m,place:=(live.map (·.1)).toArray,dummies:=#[],finger:=t.finger,led:=t.led,moves:=t.movedTo m,plain:=t.plain},(live.map (·.2)).toArray,u,?_,⟨rfl,?_,?_,?_,W,?_,?_,?_⟩,S,rfl,rfl⟩
 ·unfold SetTable.relaid SetTable.laid;rw[Z,a];show some _=some _;rw[E]
 ·exact L.symm
 ·rw[Array.toList_filterMap,X];exact fm live λe s=>(F e s).1
 ·rw[L];exact up
 ·have:=S.length_eq;rw[zbK] at this;show u.length*5<m*3;have e:u.length=es.size:=this;rw[e];exact hl
 ·intro e s;rw[<-v] at s;obtain⟨x,l,rfl⟩:=zcw.mp s;obtain⟨h1,_⟩:=Array.getElem?_eq_some_iff.mp ((mem x.1 x.2).mp l);have:=O.sz;show x.1<=m;lia
 ·intro e s;rw[<-v] at s;obtain⟨x,l,rfl⟩:=zcw.mp s;refine(F x l).2.mono λy G=>?_;rw[L];obtain⟨i,H⟩:=G;exact zcw.mpr ⟨(y,i),(mem y i).mpr H,rfl⟩
end M8
namespace M8
open PySem PySem.Spec PyProof.Rows M5 M6 M7
open PySem.SetTable (Probe bits runEnd leap turns)
theorem pB:∀(n:Nat)(d:yam){v:yai}{as:List Addr}{A:yal}{E:yai->yah->Prop}{s:yah}{Q:Bool->yah->Prop},d.depth<=n->bJ d=true->Reads s.heap v d as->Q false s->yar (model prog w) A (ofAClassStatement n v) Q E s:=by
 intro n
 induction n with
 |zero=>
  intro d v as A E s Q hd j q h;cases q with
  |int i t=>rw[ofAClassStatement.eq_def];exact yab h
  |str x t=>rw[ofAClassStatement.eq_def];exact yab h
  |tuple ho hc hd' hall=>rw[bB] at hd;lia
  |none=>simp[bJ] at j
  |bool b=>simp[bJ] at j
  |list _ _ _ _=>simp[bJ] at j
  |dict _ _ _ _ _=>simp[bJ] at j
 |succ n ih=>
  intro d v as A E s Q hd j q h;cases q with
  |int i t=>rw[ofAClassStatement.eq_def];exact yab h
  |str x t=>rw[ofAClassStatement.eq_def];exact yab h
  |none=>simp[bJ] at j
  |bool b=>simp[bJ] at j
  |list _ _ _ _=>simp[bJ] at j
  |dict _ _ _ _ _=>simp[bJ] at j
  |@tuple a o vs m xs as ho hc hdat hall=>
   have O:=eB ho hc;have j:ck xs=true:=j;rw[bB] at hd;rw[ofAClassStatement.eq_def];dsimp only;refine yaa (wpAny_typeOf O ?_);dsimp only;refine yaa (yab ?_);rw[yIn (by decide)];refine yaa (wpAny_seqItems ho hdat (yaa ?_));show yar (model prog w) A (forIn vs _ _) _ E s;rw[<-zaV];refine wpAny_forIn_list _ (λrest r F=>r.1=none/\F=s/\∃left C,ReadsAll s.heap rest left C/\∀x∈left,x∈xs) _ ?_ ?_ vs.toList (none,()) ⟨rfl,rfl,xs,_,hall,λ_ u=>u⟩
   ·rintro y rest ⟨G,I⟩ F ⟨q,rfl,left,C,L,l⟩;cases L with
    |@cons _ _ d' ds as1 bs u hrest=>
     have H:d'∈xs:=l d' (by simp);refine yaa (ih d' (as:=as1) (by have:=cB H;lia) (eW j d' H) u ?_);exact yab ⟨rfl,rfl,ds,bs,hrest,λx u=>l x (zay _ u)⟩
   ·rintro⟨G,I⟩ F ⟨q,rfl,_⟩;have q:G=none:=q;subst q;exact yab h
theorem w9:∀(n:Nat)(d:yam){v:yai}{as:List Addr}{A:yal}{E:yai->yah->Prop}{s:yah}{Q:Bool->yah->Prop},d.depth<=n->bJ d=true->Reads s.heap v d as->(∀b,Q b s)->yar (model prog w) A (hashByValue n v) Q E s:=by
 intro n
 induction n with
 |zero=>
  intro d v as A E s Q hd j G h;cases G with
  |int i t=>rw[hashByValue.eq_def];exact yab (h _)
  |str x t=>rw[hashByValue.eq_def];exact yab (h _)
  |tuple ho hc hd' hall=>rw[bB] at hd;lia
  |none=>simp[bJ] at j
  |bool b=>simp[bJ] at j
  |list _ _ _ _=>simp[bJ] at j
  |dict _ _ _ _ _=>simp[bJ] at j
 |succ n ih=>
  intro d v as A E s Q hd j G h;cases G with
  |int i t=>rw[hashByValue.eq_def];exact yab (h _)
  |str x t=>rw[hashByValue.eq_def];exact yab (h _)
  |none=>simp[bJ] at j
  |bool b=>simp[bJ] at j
  |list _ _ _ _=>simp[bJ] at j
  |dict _ _ _ _ _=>simp[bJ] at j
  |@tuple a o vs m xs as ho hc hdat hall=>
   have P:=eB ho hc;have j:ck xs=true:=j;rw[bB] at hd;rw[hashByValue.eq_def];dsimp only;refine yaa (wpAny_specialOf P F.slot_tuple_hash.lookup ?_);refine yaa (wpAny_seqItems ho hdat (yaa ?_));show yar (model prog w) A (forIn vs _ _) _ E s;rw[<-zaV];refine wpAny_forIn_list _ (λrest r C=>C=s/\∃left u,ReadsAll s.heap rest left u/\∀x∈left,x∈xs) _ ?_ ?_ vs.toList (none,()) ⟨rfl,xs,_,hall,λ_ q=>q⟩
   ·rintro y rest ⟨H,L⟩ C ⟨rfl,left,u,O,l⟩;cases O with
    |@cons _ _ d' ds as1 bs q hrest=>
     have I:d'∈xs:=l d' (by simp);refine yaa (ih d' (as:=as1) (by have:=cB I;lia) (eW j d' I) q λb=>?_);cases b
     ·refine yab ?_;exact yab (h _)
     ·exact yab ⟨rfl,ds,bs,hrest,λx q=>l x (zay _ q)⟩
   ·rintro⟨H,L⟩ C ⟨rfl,_⟩;cases H with
    |none=>exact yab (h _)
    |some b=>exact yab (h _)
theorem Cv{d:yam}{b:Addr}{i:List yai}{Q:Bool->yah->Prop}(C:isKey s.heap d b)(x:∀v∈i,∃k a,v=.ref a/\isKey s.heap k a)(h:Q false s):yar (model prog w) A (searchCouldBeSeen (.ref b) i) Q E s:=by
 unfold searchCouldBeSeen;refine yaa ?_;refine wpAny_forIn_list _ (λrest r l=>r=(none,())/\l=s/\∀v∈rest,∃k a,v=.ref a/\isKey s.heap k a) _ ?_ ?_ i (none,()) ⟨rfl,rfl,x⟩
 ·rintro y rest r l ⟨rfl,rfl,m⟩;obtain⟨k,a,rfl,F⟩:=m y (by simp);have j:=λv u=>m v (zay _ u);obtain⟨o,G,bs,n⟩:=C;obtain⟨t,I,H,q⟩:=F;dsimp only;split
  ·exact yab ⟨rfl,rfl,j⟩
  ·refine yaa (jx 8 d (by lia) o n ?_);rw[yIn (by decide)];refine yaa (jx 8 k (by lia) t q ?_);rw[yIn (by decide)];refine yaa (pB 8 d (by lia) o n ?_);rw[yIn (by decide)];refine yaa (pB 8 k (by lia) t q ?_);rw[yIn (by decide)];exact yab ⟨rfl,rfl,j⟩
 ·rintro r l ⟨rfl,rfl,_⟩;exact yab h
noncomputable def mU(w:yak)(k:yam×Addr):Int×yai:=(bq w k.1,.ref k.2)
theorem search{a b:Addr}{o:Obj}{es:Array (Int×yai)}{ep:Nat}{t:SetTable}{l:List Ent}{ks:List (yam×Addr)}{d:yam}{Q:SetFound->yah->Prop}(ho:s.heap.get? a=some o)(hd:o.data=.set es ep t)(T:Tab t es l)(C:es.toList=ks.map (mU w))(U:∀k∈ks,isKey s.heap k.1 k.2)(hb:isKey s.heap d b)(hu:A.units+10<cLine){N:Nat}(hNf:N<10*turns t.mask)(hN:(road t.mask (bq w d) N).j ∉ fs l)(X:∀n<N,(road t.mask (bq w d) n).j∈fs l)(q1:(∃k∈ks,k.1=d)->Q (.there none) s)(q2:(∀k∈ks,k.1≠d)->Q (.free (road t.mask (bq w d) N).j false) s):
  ∀(f n:Nat)(st:Option Probe),st.getD (t.probeStart (bq w d))=road t.mask (bq w d) n->n<=N->N - n<f->(∀u<n,∀k∈ks,((road t.mask (bq w d) u).j,mU w k)∈l->k.1≠d)->
   yar (model prog w) A (setSearchFrom a (.ref b) (bq w d) true f st) Q E s
 |0,n,st,_,_,h,_=>by lia
 |f+1,n,st,hst,hn,hf,hne=>by
  have ent:∀e,e∈l.map (·.2)->∃k∈ks,e=mU w k:=λe m=>by
   rw[<-T.el,C] at m;obtain⟨k,h1,h2⟩:=zcw.mp m;exact⟨k,h1,h2.symm⟩
  unfold setSearchFrom;refine yaa (wpAny_setState_of ho hd T.fits ?_);dsimp only;rw[yIn (by unfold SetTable.gaveWay;rcases T.mm with e|e|e<;>rw[e]<;>decide)];rw[hst];unfold SetTable.probe;generalize hG:SetTable.probe.go t _ (bq w d) (10*turns t.mask) (road t.mask (bq w d) n)=G;rcases T.probe (hashAt:=λi=>(es[i]?.map (·.1)).getD 0) (h:=bq w d) (λi e m=>by show(es[i]?.map (·.1)).getD 0=e.1;rw[m];rfl) hN X (10*turns t.mask) n hn (by lia) with⟨p1,p2⟩|⟨n1,e,i,c1,c2,c3,c4,c5,c6,c7,c8⟩
  ·obtain rfl:some _=G:=p1.symm.trans hG;dsimp only;refine yab (q2 λk P e=>?_);have hm:mU w k∈l.map (·.2):=by rw[<-T.el,C];exact zcw.mpr ⟨k,P,rfl⟩
   obtain⟨⟨j,e'⟩,q,e2⟩:=zcw.mp hm;have e2:e'=mU w k:=e2;subst e2;obtain⟨y,L,I⟩:=T.way _ q;have hh:(mU w k).1=bq w d:=by rw[<-e];rfl
   have L:(road t.mask (bq w d) y).j=j:=by have L:(road t.mask (mU w k).1 y).j=j:=L;rw[hh] at L;exact L
   have I:∀u<y,(road t.mask (bq w d) u).j∈fs l:=λu F=>by have I:(road t.mask (mU w k).1 u).j∈fs l:=I u F;rw[hh] at I;exact I
   rw[<-L] at q;have W:(road t.mask (bq w d) y).j∈fs l:=zcw.mpr ⟨_,q,rfl⟩;have hlt:y<N:=by
    rcases zbj y N with z|z|z
    ·exact z
    ·rw[z] at W;exact absurd W hN
    ·exact absurd (I N z) hN
   rcases zcC y n with z|z
   ·exact hne y z k P q e
   ·exact p2 y z hlt _ q hh
  ·obtain rfl:some _=G:=c7.symm.trans hG;dsimp only;obtain⟨k,k1,rfl⟩:=ent e (zcw.mpr ⟨_,c3,rfl⟩);have N8:∀v∈zcT (λx:Int×yai=>x.2) (Array.filter (λx=>x.1==bq w d) es).toList,∃k a,v=.ref a/\isKey s.heap k a:=λv hv=>by
    obtain⟨e,m,rfl⟩:=zcw.mp hv;rw[Array.toList_filter] at m;have m:=(zbI.mp m).1;rw[C] at m;obtain⟨O,h1,rfl⟩:=zcw.mp m;exact⟨O.1,O.2,rfl,U O h1⟩
   by_cases hl:(!t.led)=true
   case' pos=>(rw[yIp hl];refine yaa (Cv hb N8 ?_);rw[yIn (by decide)])
   case' neg=>rw[yIn hl]
   all_goals
    rw[c6];show yar _ _ (holding [Value.ref k.2] (eqBool (.ref k.2) (.ref b)) >>= _) _ _ _;refine yaa (yad ((eY prog w).eqBool hu (U k k1) hb ?_));refine yaa (wpAny_setState_of ho hd T.fits ?_);by_cases m:k.1=d
    ·rw[yDt m];exact yab (q1 ⟨k,k1,m⟩)
    ·rw[yDf m,yIn (by decide)];have hsm:t.sameMemory t.moves t.mask=some true:=by unfold SetTable.sameMemory;rw[yIp (by simp)]
     dsimp only;rw[hsm];dsimp only;rw[yIp rfl,c5];dsimp only;rw[c6];show yar _ _ (isSame (.ref k.2) (.ref k.2) >>= _) _ _ _;refine yaa (wpAny_isSame_ref_self ?_);refine yaa (yab ?_);rw[yIp rfl];dsimp only;rw[yIn (by decide)];refine search ho hd T C U hb hu hNf hN X q1 q2 f (n1+1) _ rfl (by lia) (by lia) λu F O S H=>?_;rcases zcC u n with z|z
     ·exact hne u z O S H
     ·rcases Nat.eq_or_lt_of_le (zbi F) with z2|z2
      ·subst z2;obtain⟨i',Z,Y,_⟩:=T.live H;rw[c5] at Z;injection Z with Z;subst Z;rw[c6] at Y;have Y:=zcN.inj Y;injection Y with _ j3;injection j3 with j3;have a1:=U k k1;have a2:=U O S;rw[<-j3] at a2;rw[<-(eY prog w).inj a1 a2];exact m
      ·intro e;refine c8 u z z2 _ H ?_;rw[<-e];rfl
def dP(h h':Heap):Prop:=∀c o,o.cls=.type "tuple"->h.get? c=some o->h'.get? c=some o
theorem dP.trans{h1 h2:Heap}(x:dP h h1)(y:dP h1 h2):dP h h2:=λc o e z=>y c o e (x c o e z)
theorem dP.but{b:Addr}{ob:Obj}(i:h.get? b=some ob)(a:ob.cls≠ .type "tuple")(k:∀c o,c≠b->h.get? c=some o->h'.get? c=some o):dP h h':=λc o e z=>
 k c o (λj=>by subst j;rw[i] at z;cases z;exact a e) z
mutual
theorem z5{h h':Heap}(kp:dP h h'):∀(d:yam){v:yai}{as:List Addr},bJ d=true->Reads h v d as->Reads h' v d as
 |.int i,v,as,hk,hr=>by cases hr;exact .int ..
 |.str i,v,as,hk,hr=>by cases hr;exact .str ..
 |.tuple xs,v,as,hk,hr=>by
  cases hr with
  |@tuple a o vs m _ _ ho hc hdat hall=>exact .tuple (kp a o hc ho) hc hdat (uT kp xs hk hall)
 |.none,_,_,h,_=>by simp[bJ] at h
 |.bool _,_,_,h,_=>by simp[bJ] at h
 |.list _,_,_,h,_=>by simp[bJ] at h
 |.dict _,_,_,h,_=>by simp[bJ] at h
theorem uT{h h':Heap}(kp:dP h h'):∀(ds:List yam){vs:List yai}{as:List Addr},ck ds=true->ReadsAll h vs ds as->ReadsAll h' vs ds as
 |[],vs,as,hk,hr=>by cases hr;exact .nil
 |d::ds,vs,as,hk,hr=>by
  simp only[ck,zbG] at hk;cases hr with
  |cons hx hr=>exact .cons (z5 kp d hk.1 hx) (uT kp ds hk.2 hr)
end
theorem qO(kp:dP h h'){d:yam}(x:isKey h d a):isKey h' d a:=by obtain⟨k1,i,l,j⟩:=x;exact⟨k1,i,l,z5 kp d k1 j⟩
def Bw(w:yak)(B:List (yam×Addr))(h:Heap)(a:Addr)(S:List yam):Prop:=
 ∃o j m t l,∃i:List (yam×Addr),h.get? a=some o/\o.ExactSet/\o.data=.set j m t/\Tab t j l/\t.led=(!w.params.followText "set-order")/\j.toList=i.map (mU w)/\(∀k∈i,k∈B/\isKey h k.1 k.2)/\(i.map (·.1)).Perm S
theorem Bw.keep{S:List yam}(x:Bw w B h a S)(e:∀o,h.get? a=some o->h'.get? a=some o)(kp:dP h h'):Bw w B h' a S:=
 by obtain⟨o,E,F,t,l,y,C,v,u,s,q,n,i,m⟩:=x;exact⟨o,E,F,t,l,y,e o C,v,u,s,q,n,λk j=>⟨(i k j).1,qO kp (i k j).2⟩,m⟩
noncomputable def pI(S:List yam)(x:yam):List yam:=if x∈S then S else S++[x]
theorem L5(h:o.ExactSet):o.cls≠ .type "tuple":=by
 rw[h.1];intro z;injection z with z;exact absurd z (by decide)
theorem Qf(j:h.get? a=some o)(i:o.ExactSet)(sb:Heap.SameBut a h h'):dP h h':=
 dP.but j (L5 i) λc o l e=>by rw[sb.2 c l];exact e
theorem qD{es:List (Int×yai)}(h:es.Perm (ks.map (mU w))):∃a:List (yam×Addr),a.Perm ks/\es=a.map (mU w):=cK h
theorem Kc{b:Addr}{S:List yam}{d:yam}{Q:Bool->yah->Prop}(hS:Bw w B s.heap a S)(hbB:(d,b)∈B)(hb:isKey s.heap d b)(hu:A.units+10<cLine)(hn:S.length+1<64)(h:∀r h',Heap.SameBut a s.heap h'->dP s.heap h'->Bw w B h' a (pI S d)->Q r {s with heap:=h'}):
  yar (model prog w) A (setAddHashed a (.ref b) (bq w d)) Q E s:=by
 obtain⟨o,es,ep,t,l,ks,I,y,hd,T,u,G,H,Y⟩:=hS;have hk:∀k∈ks,isKey s.heap k.1 k.2:=λk i=>(H k i).2;have ae:l.length=S.length:=by
  rw[<-Y.length_eq,zbK,<-T.Si,<-zaJ,G,zbK]
 have F:=T.mm;have hnf:=T.nf;obtain⟨N,n1,n2,n3⟩:=yI (AF F) (bq w d) (occ:=fs l) (by unfold fs;rw[zbK];lia);unfold setAddHashed;unfold setAddHashedIn;refine yad (yaa (wpAny_setState_of I hd T.fits ?_));dsimp only;rw[yIn (by unfold byScan;simp[Value.scannable])];refine yaa ?_;unfold setSearch;refine search I hd T G hk hb hu n1 n2 n3 (λhx=>?_) (λhx=>?_) 100000 0 none rfl (zcL _) (by
  have:turns t.mask<=142:=by unfold turns;rcases F with e|e|e<;>lia
  lia) (λn' hn'=>absurd hn' (zbW _))
 ·dsimp only;obtain⟨k,k1,k2⟩:=hx;have hm:d∈S:=Y.mem_iff.mp (zcw.mpr ⟨k,k1,k2⟩);refine yab ?_;have q:=h false s.heap (Heap.SameBut.refl a s.heap) (λc o _ z=>z) (by
   unfold pI;rw[yIp hm];exact⟨o,es,ep,t,l,ks,I,y,hd,T,u,G,H,Y⟩)
  exact q
 ·dsimp only;have hm:d ∉ S:=λz=>by
   obtain⟨k,k1,k2⟩:=zcw.mp (Y.mem_iff.mpr z);exact hx k k1 k2
  have ac:pI S d=S++[d]:=by unfold pI;rw[yIn hm]
  rw[ac] at h;refine yaa (wpAny_setState_of I hd T.fits ?_);dsimp only;have hes:=ER T (j:=(road t.mask (bq w d) N).j) (h:=bq w d) (x:=.ref b);have Tj:=T.put (x:=.ref b) n2 n3;have FE:(SetTable.insertAt es (t.put (road t.mask (bq w d) N).j).2 (bq w d,Value.ref b)).size=l.length+1:=by
   rw[<-zaJ,hes,zbK,(eG ..).length_eq];rfl
  have hpe:(SetTable.insertAt es (t.put (road t.mask (bq w d) N).j).2 (bq w d,Value.ref b)).toList.Perm (((d,b)::ks).map (mU w)):=by
   rw[hes];refine((eG ..).map _).trans ?_;rw[zcj,<-T.el,G];exact .refl _
  have Q8:(t.put (road t.mask (bq w d) N).j).1.place.size=l.length+1:=by
   show(SetTable.insertAt t.place _ _).size=_;rw[<-zaJ,oV,zaM,zbq,zbr,zbs,zaJ,T.sz];have:=(iA T.rise (road t.mask (bq w d) N).j).1;rw[T.sz] at this;lia
  have hdm:(t.put (road t.mask (bq w d) N).j).1.dummies=#[]:=by
   have hh:SetTable.has t.dummies (road t.mask (bq w d) N).j=false:=by rw[T.dm];unfold SetTable.has;rfl
   show(if SetTable.has t.dummies _=true then _ else t.dummies)=#[];rw[yIn (by rw[hh];decide)];exact T.dm
  have Ax:(t.put (road t.mask (bq w d) N).j).1.led=t.led:=rfl;have Q9:(t.put (road t.mask (bq w d) N).j).1.mask=t.mask:=rfl;generalize (t.put (road t.mask (bq w d) N).j)=tp at*;obtain⟨t1,p⟩:=tp;dsimp only at*;generalize hE1:SetTable.insertAt es p (bq w d,Value.ref b)=es1 at*;have X:∀n:SetTable,n.place=t1.place->n.dummies=t1.dummies->n.mask=t1.mask->n.led=t1.led->yar (model prog w) A (do
    storeSet a es1 n
    if(!false&&n.tooFull)=true then do
      setRelay a (SetTable.grown (es.size+1))
      pure true
     else pure true) Q E s:=by
   intro n e1 e2 Z e4;have C:=jH es1 n I hd;have O:=Heap.SameBut.update s.heap a (Obj.putSet es1 n);have U:=Qf I y O;refine yaa (wpAny_storeSet_of I hd ?_ (by rw[FE,yaf];lia));have htf:n.tooFull=decide ((l.length+1)*5≥t.mask*3):=by
    unfold SetTable.tooFull SetTable.fill;rw[e1,e2,Z,Q8,hdm,Q9];simp
   rw[htf];by_cases v:(l.length+1)*5≥t.mask*3
   ·rw[yDt v,yIp (by decide)];have ab:n.fits es1.size=true:=by
     unfold SetTable.fits SetTable.fill;rw[e1,e2,Z,Q8,hdm,Q9,FE];simp;rcases F with e|e|e<;>lia
    have hg:SetTable.grown (es.size+1)=(l.length+1)*4:=by
     unfold SetTable.grown;rw[T.Si,yIn (by lia)]
    obtain⟨m,m1,m2,m3,m4⟩:∃m,SetTable.sizeAbove ((l.length+1)*4) - 1=m/\(m=7∨m=31∨m=127)/\es1.size*5<m*3/\SetTable.sizeAbove ((l.length+1)*4)<=128:=by
     rcases F with e|e|e
     ·have:l.length=4:=by lia
      rw[this];exact⟨31,by decide+kernel,.inr (.inl rfl),by rw[FE,this];decide,by decide+kernel⟩
     ·have:l.length=18:=by lia
      rw[this];exact⟨127,by decide+kernel,.inr (.inr rfl),by rw[FE,this];decide,by decide+kernel⟩
     ·lia
    obtain⟨t3,od,l3,r1,r2,r3,r4,r5⟩:=EH (t:=n) (es:=es1) m1 m2 m3;refine yaa ?_;unfold setRelay;refine yaa (wpAny_setState_of C rfl ab ?_);dsimp only;rw[hg,yIn (by rw[yaf];lia),r1];have Q7:(od.filterMap (es1[·]?)).size=es1.size:=by
     rw[<-zaJ,r2.el,r3.length_eq,zaJ]
    refine yaa ?_;show yar _ _ (if((od.filterMap (es1[·]?)).size != es1.size)=true then _ else _) _ _ _;rw[yIn (by rw[Q7];simp)];refine yab ?_;dsimp only;refine wpAny_storeSet_of C rfl ?_ (by rw[Q7,FE,yaf];lia);refine yab ?_;have sb2:=O.trans (Heap.SameBut.update _ a (Obj.putSet (od.filterMap (es1[·]?)) t3));have P:=Qf I y sb2;obtain⟨W,p1,p2⟩:=qD (w:=w) (ks:=(d,b)::ks) (es:=(od.filterMap (es1[·]?)).toList) (by rw[r2.el];exact r3.trans hpe);refine h true _ sb2 P ⟨_,_,_,t3,l3,W,jH _ t3 C rfl,y,rfl,r2,by rw[r4,e4,Ax,u],p2,λk i=>?_,?_⟩
    ·rcases zci.mp (p1.mem_iff.mp i) with rfl|i
     ·exact⟨hbB,qO P hb⟩
     ·exact⟨(H k i).1,qO P (hk k i)⟩
    ·refine(p1.map _).trans ?_;rw[zcj];refine(Y.cons d).trans ?_;exact List.perm_append_singleton d S |>.symm
   ·rw[yDf v,yIn (by decide)];refine yab ?_;have L:=Tj (by lia);obtain⟨W,p1,p2⟩:=qD hpe;refine h true _ O U ⟨_,_,_,n,_,W,C,y,rfl,⟨by rw[e2];exact L.dm,by rw[e1];exact L.pl,L.el,L.up,by rw[Z];exact L.mm,by rw[Z];exact L.nf,by rw[Z];exact L.le,by rw[Z];exact L.way⟩,by rw[e4,Ax,u],p2,λk i=>?_,?_⟩
    ·rcases zci.mp (p1.mem_iff.mp i) with rfl|i
     ·exact⟨hbB,qO U hb⟩
     ·exact⟨(H k i).1,qO U (hk k i)⟩
    ·refine(p1.map _).trans ?_;rw[zcj];refine(Y.cons d).trans ?_;exact List.perm_append_singleton d S |>.symm
  obtain⟨b1,b2,bs,b3⟩:=hb;cases hpt:t1.plain with
  |true=>
   rw[yIp rfl];refine yaa (w9 8 d (by lia) b1 b3 λr=>?_);cases r
   ·exact X _ rfl rfl rfl rfl
   ·exact X _ rfl rfl rfl rfl
  |false=>
   rw[yIn (by decide)];refine yaa (yab ?_);exact X _ rfl rfl rfl rfl
end M8
namespace M8
open PySem PySem.Spec PyProof.Rows M5 M6 M7
noncomputable def qd(val:Nat->yam):Nat->List yam
 |0=>[]
 |i+1=>pI (qd val i) (val i)
theorem pH(val:Nat->yam):∀i,(qd val i).length<=i
 |0=>zcK _
 |i+1=>by
  have:=pH val i;show(pI _ _).length<=_;unfold pI;split
  ·lia
  ·rw[zaM];show _+1<=_;lia
theorem vj(val:Nat->yam)(y:yam):∀n,y∈qd val n↔∃i,i<n/\val i=y
 |0=>by simp[qd]
 |n+1=>by
  have a:=vj val y n;have j:y∈qd val (n+1)↔y∈qd val n∨y=val n:=by
   show y∈pI _ _↔_;unfold pI;split
   ·exact⟨.inl,λz=>z.elim id λe=>e▸‹_›⟩
   ·simp
  rw[j,a];constructor
  ·rintro(⟨i,h,e⟩|e)
   ·exact⟨i,by lia,e⟩
   ·exact⟨n,by lia,e.symm⟩
  ·rintro⟨i,h,e⟩;rcases zcC i n with z|z
   ·exact .inl ⟨i,z,e⟩
   ·obtain rfl:i=n:=by lia
    exact .inr e.symm
theorem oF(val:Nat->yam):∀n,(qd val n).Nodup
 |0=>List.nodup_nil
 |n+1=>by
  have h:=oF val n;show(pI _ _).Nodup;unfold pI;split
  ·exact h
  ·rename_i i;rw[zbf];refine⟨h,by simp,λa l b j e=>?_⟩;rw[zaO.mp j] at e;exact i (e▸l)
section
variable {R:Result->yah->Prop}{wr:List Addr}{P:Nat->yai->Prop}{St:Nat->yah->Prop}
theorem Fl{h0:Heap}(W:WalksS prog w A.in1 I fp wr G n P St)(a:Addr)(ha:a ∉ fp)(val:Nat->yam×Addr)(t:∀i v,P i v->v=.ref (val i).2)(hB:∀i,i<n->val i∈B)(S:∀i,i<n->isKey h0 (val i).1 (val i).2)(hI:∀i s,St i s->∃o,s.heap.get? I=some o/\o.cls≠ .type "tuple")(hw:∀b∈wr,b=I)(hu:A.units+11<cLine)(hn:n<63):
  ∀(k i:Nat)(s:yah),n - i=k->i<=n->St i s->Bw w B s.heap a (qd (λi=>(val i).1) i)->dP h0 s.heap->
   (∀s',Moved (a::wr) G s s'->dP h0 s'.heap->Bw w B s'.heap a (qd (λi=>(val i).1) n)->R (.ok (.ret .none)) s')->
   codeAny (model prog w) A (.builtin "set.update.loop" ⟨[.ref a,.ref I],[]⟩) R s:=by
 have C:a ∉ wr:=λz=>ha (W.sub _ z);have q:∀b∈wr,b∈a::wr:=λb z=>zay _ z;have kt:∀{i:Nat}{s s':yah},St i s->Moved wr G s s'->dP s.heap s'.heap:=λ{i s s'} h j=>by
  obtain⟨o,ho,hc⟩:=hI _ _ h;exact dP.but ho hc λc o U e=>j.heap c o (λz=>U (hw c z)) e
 intro k
 induction k with
 |zero=>
  intro i s hk hi h hS Y hR;obtain rfl:i=n:=by lia
  refine codeAny_builtin PyProof.Rows.F.entry_set_update_loop ?_;rw[Around.under_plainId PyProof.Rows.F.plain_set_update_loop _];show yar _ A.in1 (pyNext (.ref I) >>= _) _ _ s;refine yaa (W.done s _ _ h λs' j=>?_);have k1:=kt h j;exact yab (hR s' (j.mono q) (Y.trans k1) (hS.keep (λo e=>j.heap a o C e) k1))
 |succ k ih=>
  intro i s hk hi h hS Y hR;have l:i<n:=by lia
  refine codeAny_builtin PyProof.Rows.F.entry_set_update_loop ?_;rw[Around.under_plainId PyProof.Rows.F.plain_set_update_loop _];show yar _ A.in1 (pyNext (.ref I) >>= _) _ _ s;refine yaa (W.item i s _ _ l h λv s' hP u j=>?_);have k1:=kt h j;obtain rfl:=t i v hP;have hS':=hS.keep (λo e=>j.heap a o C e) k1;have H:=Y.trans k1;have m:isKey s'.heap (val i).1 (val i).2:=qO H (S i l);show yar _ A.in1 (holding [Value.ref (val i).2] (setAdd a (.ref (val i).2)) >>= _) _ _ s';refine yaa (yad ?_);unfold setAdd;refine yad (yaa ((eY prog w).pyHash (by show A.units+1+10<cLine;lia) m ?_));have:=pH (λi=>(val i).1) i;refine Kc (s:={s' with toks:=s'.toks+Sj (val i).1}) hS' (hB i l) m (by show A.units+1+10<cLine;lia) (by lia) λb h' x Q Z=>?_;refine yab ⟨plainId_quiet PyProof.Rows.F.plain_set_update_loop _,ih (i+1) _ (by lia) l (W.frame _ s' _ _ u (Nat.le_add_right _ _) λb X o e=>?_) Z (H.trans Q) λO y E L=>?_⟩
  ·rw[x.2 b λz:b=a=>ha (z▸X)];exact e
  ·refine hR O (Moved.trans W.gtrans ((j.mono q).then_heap (Nat.le_add_right _ _) λb o X e=>?_) y) E L;rw[x.2 b λz:b=a=>X (z▸zaL)];exact e
end
theorem C0(e:h.get? a=some (bh (!w.params.followText "set-order"))):Bw w B h a []:=
 ⟨_,#[],0,_,[],[],e,⟨rfl,rfl,rfl⟩,rfl,⟨rfl,rfl,rfl,.nil,.inl rfl,(by show 0*5<7*3;decide),λe i=>by simp at i,λe i=>by simp at i⟩,rfl,rfl,λk j=>by simp at j,.nil⟩
theorem uI{T:String}{ob:Obj}{St:Addr->Nat->Heap->Prop}(hh:A.handled=none)(hT:s.TypeIs (.ref l) T)(h1:isSubtype (.type T) (.type "set")=pure false)(h2:isSubtype (.type T) (.type "frozenset")=pure false)(h3:(Value.type T==Value.type "dict")=false)(it:∀{A':yal}{s':yah}{Y:yai->yah->Prop}{E':yai->yah->Prop},(∀b o,s.heap.get? b=some o->s'.heap.get? b=some o)->Y (.ref s'.heap.objs.size) {s' with heap:=s'.heap.push ob}->yar (model prog w) A' (pyIter (.ref l)) Y E' s')(C:ob.isFreed=false)(W:∀{A':yal}(I:Addr),A'.handled=none->l≠I->Walks prog w A' I [I,l] [I] its.size (λi v=>its[i]? =some v) (St I))(t:∀I h',(∀b o,s.heap.get? b=some o->h'.get? b=some o)->h'.get? I=some ob->St I 0 h')(cG:∀I i h',St I i h'->∃o,h'.get? I=some o/\o.cls≠ .type "tuple")(U:its.toList=ks.map λk=>.ref k.2)(hk:∀k∈ks,isKey s.heap k.1 k.2)(hu:A.units+13<cLine)(hn:ks.length<63)(h:∀(h':Heap)(tk:Nat)(S:List yam),S.Nodup->(∀y,y∈S↔y∈ks.map (·.1))->S.length<63->Bw w ks h' s.heap.objs.size S->(∀b o,b<s.heap.objs.size->s.heap.get? b=some o->h'.get? b=some o)->Q (.ref s.heap.objs.size) {s with heap:=h',toks:=tk}):
  yar (model prog w) A (call (.type "set") [.ref l]) Q E s:=by
 have el:its.size=ks.length:=by rw[<-zaJ,U,zbK]
 have a:∀i (m:i<ks.length),ks.getD i (.none,0)=ks[i]:=λi m=>by simp[zcS,m]
 have X:=pH (λi=>(ks.getD i (.none,0)).1) its.size;refine rq (Z:=λh'=>Bw w ks h' s.heap.objs.size (qd (λi=>(ks.getD i (.none,0)).1) its.size)) hT h1 h2 h3 it C (λI h0 R kp gS gI F L hR=>?_)
  λh' tk hZ kp=>h h' tk _ (oF _ _) (λy=>?_) (by lia) hZ kp
 ·refine Fl (h0:=h0) (B:=ks) (St:=λi s=>St I i s.heap) (P:=λi v=>its[i]? =some v) (W (A':=A.in1.in1.in1) I hh F).toS s.heap.objs.size L (λi=>ks.getD i (.none,0)) (λi v j=>?_) (λi m=>?_) (λi m=>?_) (λi s' x=>cG I i _ x) (λb H=>by simpa using H) (by show A.units+1+1+11<cLine;lia) (by lia) (its.size - 0) 0 _ rfl (zcL _) (t I h0 kp gI) (C0 gS) (λc o _ z=>z) λs' n _ O=>?_
  ·rw[<-zaw,U,zba] at j;cases e:ks[i]? with
   |none=>rw[e] at j;cases j
   |some k=>
    rw[e] at j;have:ks.getD i (.none,0)=k:=by rw[zcS,e];rfl
    rw[this];exact(zcN.inj j).symm
  ·rw[a i (by lia)];exact zby _
  ·rw[a i (by lia)];obtain⟨k1,k2,as,k3⟩:=hk _ (zby (by lia:i<ks.length));exact⟨k1,k2,as,Reads.keeps kp k3⟩
  ·obtain⟨h',g',d',q,u⟩:=s';obtain rfl:g'=s.gens:=n.gens;obtain rfl:d'=s.drawn:=n.drawn;obtain rfl:u=s.os:=n.os;exact hR h' q O λb o H e=>n.heap b o H e
 ·rw[vj,zcw];constructor
  ·rintro⟨i,m,e⟩;rw[a i (by lia)] at e;exact⟨_,zby (by lia),e⟩
  ·rintro⟨k,G,e⟩;obtain⟨i,m,rfl⟩:=zaG G;exact⟨i,by lia,by rw[a i m];exact e⟩
theorem xw(x:A.handled=none)(j:s.heap.IsTuple l its)(m:its.toList=ks.map λk=>.ref k.2)(v:∀k∈ks,isKey s.heap k.1 k.2)(n:A.units+13<cLine)(u:ks.length<63)(h:∀(h':Heap)(tk:Nat)(S:List yam),S.Nodup->(∀y,y∈S↔y∈ks.map (·.1))->S.length<63->Bw w ks h' s.heap.objs.size S->(∀b o,b<s.heap.objs.size->s.heap.get? b=some o->h'.get? b=some o)->Q (.ref s.heap.objs.size) {s with heap:=h',toks:=tk}):
  yar (model prog w) A (call (.type "set") [.ref l]) Q E s:=by
 refine uI (T:="tuple") (ob:={cls:=.type "tuple_iterator",data:=.fields #[.ref l,.int 0 0]}) (St:=λI i h=>h.IsTupleIter I l i/\h.IsTuple l its) x j.typeIs M5.F.sub_tuple_set M5.F.sub_tuple_frozenset (by decide) (λkp q=>wpAny_pyIter_tuple (j.at (kp l)) q) rfl (λI h1 h2=>Walks.tuple h1 I l h2 its) (λI h' kp e=>⟨⟨_,e,rfl,rfl⟩,j.at (kp l)⟩) (λI i h' a=>?_) m v n u h;obtain⟨⟨o,t,C,_⟩,_⟩:=a;exact⟨o,t,by rw[C];intro z;injection z with z;exact absurd z (by decide)⟩
theorem BL(x:A.handled=none)(j:s.heap.IsList l its)(m:its.toList=ks.map λk=>.ref k.2)(v:∀k∈ks,isKey s.heap k.1 k.2)(n:A.units+13<cLine)(u:ks.length<63)(h:∀(h':Heap)(tk:Nat)(S:List yam),S.Nodup->(∀y,y∈S↔y∈ks.map (·.1))->S.length<63->Bw w ks h' s.heap.objs.size S->(∀b o,b<s.heap.objs.size->s.heap.get? b=some o->h'.get? b=some o)->Q (.ref s.heap.objs.size) {s with heap:=h',toks:=tk}):
  yar (model prog w) A (call (.type "set") [.ref l]) Q E s:=by
 refine uI (T:="list") (ob:={cls:=.type "list_iterator",data:=.fields #[.ref l,.int 0 0]}) (St:=λI i h=>h.IsListIter I l i/\h.IsList l its) x j.typeIs PySem.F.sub_list_set PySem.F.sub_list_frozenset (by decide) (λkp q=>wpAny_pyIter_list (j.at (kp l)) q) rfl (λI h1 h2=>Walks.list h1 I l h2 its) (λI h' kp e=>⟨⟨_,e,rfl,rfl⟩,j.at (kp l)⟩) (λI i h' a=>?_) m v n u h;obtain⟨⟨o,t,C,_⟩,_⟩:=a;exact⟨o,t,by rw[C];intro z;injection z with z;exact absurd z (by decide)⟩
theorem uA{S:List yam}(hh:A.handled=none)(hS:Bw w B s.heap a S)(h0:∀d∈S,∃p r,d=.tuple (.int p::r))(hc:∀x∈S,∀y∈S,bK x y=true)(hn:S.length<64)(W:A.units+20<cLine)(h:∀(s1:yah)(h2:Heap)(out:List (yam×Addr))(c:Nat),s1.gens=s.gens->s1.os=s.os->(∀b o,s.heap.get? b=some o->s1.heap.get? b=some o)->(∀b o,s1.heap.get? b=some o->h2.get? b=some o)->h2.get? s1.heap.objs.size=some (seqObj "list" (out.map λk=>Value.ref k.2).toArray c)->(∀k∈out,k∈B)->(out.map (·.1)).Perm S->out.Pairwise (λx y=>fJ y.1 x.1=false)->Q (.ref s1.heap.objs.size) {s1 with heap:=h2}):
  yar (model prog w) A (call (.builtin "sorted") [.ref a]) Q E s:=by
 obtain⟨o,es,ep,t,l,ks,Y,G,hd,T,m,n,q,v⟩:=hS;have C:∀k∈ks,k.1∈S:=λk i=>v.mem_iff.mp (zcw.mpr ⟨k,i,rfl⟩);have H:ks.length=S.length:=by rw[<-v.length_eq,zbK]
 have X:es.size=ks.length:=by rw[<-zaJ,n,zbK]
 refine gR (ks:=ks) (R:=λs1=>s1.gens=s.gens/\s1.os=s.os) hh (λk i=>t8.g ⟨(q k i).2,h0 _ (C k i)⟩) (λk i l Z=>hc _ (C k i) _ (C l Z)) (by lia) W (λF hQ=>mF (es:=es) (ep:=ep) (t:=t) F ⟨o,Y,G,hd,T.fits,m,λ_=>T.rise⟩ (by lia) λs1 O kp e1 e2 le tx=>?_) λs1 h2 out c I k1 U g j u=>?_
 ·have e:es.toList.map (·.2)=ks.map λk=>Value.ref k.2:=by rw[n,zcv];rfl
  rw[e] at tx;obtain⟨P,L,rfl⟩:=cK tx;exact hQ s1 P kp ⟨e1,e2⟩ L
 ·exact h s1 h2 out c I.1 I.2 k1 U g (λk i=>(q k (j.mem_iff.mp i)).1) ((j.map _).trans v) u
end M8
namespace L2
open PySem PySem.Spec PyProof.Rows M6 M8
def ql(K:yaI)(j:TE):TE:=λi H Q=>j i H λx h=>∃(p:Addr)(a:List (yam×Addr)),x=.ref p/\(dI K h p (a.map λk=>V.ref k.2)∨cF K h p (a.map λk=>V.ref k.2))/\pR K h a/\(∀k∈a,∃q r,k.1=.tuple (.int q::r))/\(∀k∈a,∀l∈a,bK k.1 l.1=true)/\a.length<63/\
 ∀(l:Addr)(out:List (yam×Addr)),h l=none->(∀k∈out,k∈a)->(∀y,y∈out.map (·.1)↔y∈a.map (·.1))->(out.map (·.1)).Nodup->out.Pairwise (λx y=>fJ y.1 x.1=false)->Q (.ref l) (upd h l (.lst (out.map λk=>V.ref k.2)))
section
variable {ta:TE}
theorem dB{α:Type}(f:α->Addr):∀{l:List α}{us:List yai},Vals (l.map λx=>V.ref (f x)) us->us=l.map λx=>Value.ref (f x)
 |[],us,h=>by cases h;rfl
 |x::l,us,h=>by
  cases h with
  |cons h1 h2=>cases h1;rw[dB f h2];rfl
theorem fq{k:Nat}(hr:aV k X.A)(hc:X.calm=true)(hg:Gl X "sorted")(hm:X.mg "sorted"=none)(hg2:Gl X "set")(hm2:X.mg "set"=none)(he:PE X e ta)(hs:notStar e=true:=by rfl):
  PE X (.Call (.Name "sorted" p) [.Call (.Name "set" p2) [e] [] pos2] [] pos) (ql X.K ta):=by
 intro m s σ H Q I h;have hk:=I.ok.hd hc;refine wpAny_Call_Name_kw (cu I hg hm (u:=.builtin "sorted") (by decide+kernel) ?_ (by decide+kernel) (by decide+kernel));refine PyProof.Rows.callWith_builtin1 (E:=X.xe) ?_ (aO [] X.env rfl) rfl;rw[aO [] X.env rfl];refine zaX ?_;refine wpAny_Call_Name_kw (cu I hg2 hm2 (u:=.type "set") (by decide+kernel) ?_ (by decide+kernel) (by decide+kernel));refine PyProof.Rows.callWith_type1 (E:=X.xe) ?_ (aO [] X.env hs) rfl;rw[aO [] X.env hs];refine zaX (bT (he m s σ H _ I h) λu i P=>?_);obtain⟨x,H1,L,rx,a,O,ex,F,hkd,h0,hcm,hl,q⟩:=P;subst ex;obtain rfl:u=Value.ref a:=rx;refine zbp ?_;have hun:=hr.units;have ky:∀k∈O,isKey i.heap k.1 k.2:=λk hk1=>by
  obtain⟨k1,Z,k3⟩:=hkd k hk1;exact L.key k1 Z k3
 have go:∀{Q':yai->yah->Prop},(∀(G:Heap)(tk:Nat)(S:List yam),S.Nodup->(∀y,y∈S↔y∈O.map (·.1))->S.length<63->Bw X.w O G i.heap.objs.size S->(∀b o,b<i.heap.objs.size->i.heap.get? b=some o->G.get? b=some o)->Q' (.ref i.heap.objs.size) {i with heap:=G,toks:=tk})->yar (model X.prog X.w) X.A (call (.type "set") [.ref a]) Q' X.xe i:=λq'=>by
  rcases F with F|F
  ·obtain⟨its,U,pl,hz⟩:=L.tuple F;exact xw (its:=its.toArray) hk pl (by simpa using dB (λk:yam×Addr=>k.2) U) ky (by lia) hl q'
  ·obtain⟨its,U,pl,hz⟩:=L.list F;exact BL (its:=its.toArray) hk pl.isList (by simpa using dB (λk:yam×Addr=>k.2) U) ky (by lia) hl q'
 refine go λG tk S n1 n2 n3 tS kp=>?_
 ·refine zbp ?_;have mS:∀d∈S,∃k∈O,k.1=d:=λd hd=>zcw.mp ((n2 d).mp hd);refine uA (s:={i with heap:=G,toks:=tk}) hk tS (λd hd=>?_) (λx hx y hy=>?_) (by lia) (by lia) λs2 h2 out c e1 e2 v Y g hB hp C=>?_
  ·obtain⟨k,k1,rfl⟩:=mS d hd;exact h0 k k1
  ·obtain⟨k,k1,rfl⟩:=mS x hx;obtain⟨k',Z,rfl⟩:=mS y hy;exact hcm k k1 k' Z
  ·obtain⟨j,g2,d2,t2,o2⟩:=s2;obtain rfl:g2=i.gens:=e1;obtain rfl:o2=i.os:=e2;have W:∀b o,i.heap.get? b=some o->h2.get? b=some o:=λb o z=>Y b o (v b o (kp b o (zcH z) z));have n:i.heap.objs.size<=j.objs.size:=by
    obtain⟨o,es,ep,t,l,ks',ho,_⟩:=tS;exact zcz (zcH (v _ _ ho))
   have ab:out.length<64:=by have:=hp.length_eq;rw[zbK] at this;lia
   refine⟨.ref j.objs.size,_,(L.laid (a:=j.objs.size) (t':=t2) (o:=.lst (out.map λk=>V.ref k.2)) W n ⟨by rw[zbK,yaf];lia,_,c,ef (λk=>k.2) out,g⟩).Ui d2,rfl,q _ out (L.hok.fresh n) hB (λy=>(hp.mem_iff).trans (n2 y)) (hp.nodup_iff.mpr n1) C⟩
end
end L2
namespace M
open PySem PySem.Spec PyProof.Rows L2 M6
theorem oh{α a:Type}{f:α->a}{l:List α}:∀{out:List a},(∀y∈out,y∈l.map f)->∃o':List α,(∀x∈o',x∈l)/\out=o'.map f
 |[],_=>⟨[],λ_ h=>by simp at h,rfl⟩
 |y::out,h=>by
  obtain⟨x,j,i⟩:=zcw.mp (h y (by simp));obtain⟨o',n,m⟩:=oh (l:=l) (f:=f) λz hz=>h z (zay _ hz);refine⟨x::o',λz hz=>?_,by rw[zcj,i,<-m]⟩;rcases zci.mp hz with rfl|hz
  ·exact j
  ·exact n z hz
theorem lC{w:Wd}:∀{ks:List D}{a:List V},aq K w ks a->(∀k∈ks,∃es,k=.tup es)->∃bs:List Addr,a=bs.map V.ref
 |[],a,h,_=>by simp only[aq] at h;exact⟨[],h⟩
 |k::ks,a,h,g=>by
  simp only[aq] at h;obtain⟨x,r,rfl,h1,h2⟩:=h;obtain⟨es,rfl⟩:=g k (by simp);simp only[Rep] at h1;obtain⟨b,j,rfl,_⟩:=h1;obtain⟨bs,rfl⟩:=lC h2 λk i=>g k (zay _ i);exact⟨b::bs,rfl⟩
def i9(a:AE):AE:=λm S Q=>a m S λr j=>∃i:List D,(aT j r.d=.tup i∨aT j r.d=.lst i)/\(∀k∈i,cX k/\∃q r,py k=PyData.tuple (.int q::r))/\(∀k∈i,∀l∈i,bK (py k) (py l)=true)/\i.length<63/\
 ∀h:List D,(∀k∈h,k∈i)->(∀y,y∈h.map py↔y∈i.map py)->(h.map py).Nodup->h.Pairwise (λx y=>fJ (py y) (py x)=false)->Q (.new (.lst h)) j
theorem xD{a:AE}:∀E H Q,aS K (i9 a) E H Q->ql K (aS K a) E H Q:=by
 rintro E H Q ⟨w,δ,S,Qa,ok,env,q,bk⟩;refine⟨w,δ,S,_,ok,env,q,.go λr1 S1 v1 P Z I h n F=>?_⟩;obtain⟨i,z,O,g2,hl,q1⟩:=F;obtain⟨a,m,rfl,h1,h2⟩:∃a m,v1=.ref a/\(dI K Z a m∨cF K Z a m)/\aq K P i m:=by
  rcases z with z|z
  ·obtain⟨a,m,e,h1,h2⟩:=b5 h n z;exact⟨a,m,e,.inl h1,h2⟩
  ·obtain⟨a,m,e,h1,h2⟩:=br h n z;exact⟨a,m,e,.inr (cF.of h1),h2⟩
 obtain⟨bs,rfl⟩:=lC h2 λk j=>(O k j).1.2.2.2;have X:i.length=bs.length:=by have:=h2.length;rw[zbK] at this;exact this.symm
 have G:∀x∈(i.map py).zip bs,∃k∈i,x.1=py k:=λx s=>by
  obtain⟨k,j,e⟩:=zcw.mp (zbN s).1;exact⟨k,j,e.symm⟩
 have ez:(i.map py).zip bs=(i.zip bs).map λx=>(py x.1,x.2):=by rw[List.zip_map_left];rfl
 have e1:((i.map py).zip bs).map (λk=>V.ref k.2)=bs.map V.ref:=by
  have:((i.map py).zip bs).map (·.2)=bs:=List.map_snd_zip (by rw[zbK];lia);rw[<-this,zcv,this];rfl
 have e2:((i.map py).zip bs).map (·.1)=i.map py:=zbB (by rw[zbK];lia);refine⟨a,(i.map py).zip bs,rfl,by rw[e1];exact h1,fS h h2 (λk j=>(O k j).1),λx s=>?_,λx s y hy=>?_,by rw[zbU,zbK];lia,λl out W C o v u=>?_⟩
 ·obtain⟨k,j,e⟩:=G x s;rw[e];exact(O k j).2
 ·obtain⟨k,j,e⟩:=G x s;obtain⟨k',L,e'⟩:=G y hy;rw[e,e'];exact g2 k j k' L
 ·rw[ez] at C;obtain⟨t,U,rfl⟩:=oh C;have e3:(zcT (λk:yam×Addr=>V.ref k.2) (t.map λx=>(py x.1,x.2)))=t.map λx=>V.ref x.2:=by rw[zcv];rfl
  have Y:zcT (λx:yam×Addr=>x.1) (t.map λx=>(py x.1,x.2))=(t.map (·.1)).map py:=by rw[zcv,zcv];rfl
  rw[e3];rw[Y] at v;rw[e2,Y] at o;refine bk (.new (.lst (t.map (·.1)))) S1 _ P _ I (h.alloc W) (h.fresh W ⟨_,rfl,dF λx s=>m6 h2 x (U x s)⟩) (q1 _ (λk j=>?_) o v ?_)
  ·obtain⟨x,x1,rfl⟩:=zcw.mp j;exact(zbN (U x x1)).1
  ·rw[zbg] at u⊢;exact u
theorem fq{k:Nat}(j:aV k X.A)(o:X.calm=true)(m:Gl X "sorted")(l:X.mg "sorted"=none)(h:Gl X "set")(a:X.mg "set"=none)(n:GE X e ta)(i:notStar e=true:=by rfl):
  GE X (.Call (.Name "sorted" p) [.Call (.Name "set" p2) [e] [] pos2] [] pos) (i9 ta):=⟨mE (L2.fq j o m l h a n.p i) xD⟩
end M
namespace M9
open PySem PySem.Spec PyProof.Rows
theorem I0{t:Addr}{x:yai}(m:s.heap.IsTupleIter I t i)(q:s.heap.IsTuple t its)(n:its[i]? =some x)(h:∀h',h'.IsTupleIter I t (i+1)->Heap.SameBut I s.heap h'->Q x {s with heap:=h'}):yar (model prog w) A (Builtin.SmallTypes.nextOf (.ref I)) Q E s:=by
 obtain⟨o,a,u,hd⟩:=id m;obtain⟨v,j,_,y,l⟩:=q;unfold Builtin.SmallTypes.nextOf;refine yaa (wpAny_callSpecial?_slot (name:=Str.ofString "__next__") m.typeIs F.slot_tuple_iterator_next (wpAny_call_entry F.slot_tuple_iterator_next m.typeIs F.entry_tuple_iterator_next ?_ (F.args_tuple_iterator_next_1 _)));show yar _ _ (field (.ref I) 0 >>= _) _ _ s;refine yaa (wpAny_field a hd (x:=.ref t) rfl ?_);rw[yIn (by simp:¬((Value.ref t==Value.none)=true))];show yar _ _ (field (.ref I) 1 >>= _) _ _ s;refine yaa (wpAny_field a hd (x:=.int i 0) rfl (yaa (wpAny_seqItems j l ?_)));simp only[zbk,n];refine yaa (wpAny_setField a hd (by simp) (yab ⟨x,rfl,yab (h _ ⟨_,zax _ a (Obj.isFreed_of_fields (Obj.data_mapFields hd _)),(Obj.cls_mapFields ..).trans u,by rw[Obj.data_mapFields hd];simp[rawInt]⟩ (Heap.SameBut.update ..))⟩))
structure ZAt(h:Heap)(z TI TO i1 i2 l1 l2:Addr)(f:yai)(k:Nat):Prop where
 hz:IsZip h z TI TO f
 hTI:IsPair h TI (.ref i1) (.ref i2)
 hTO:∃a b,IsPair h TO a b
 h1:h.IsTupleIter i1 l1 k
 h2:h.IsTupleIter i2 l2 k
noncomputable abbrev Py(l:Addr):Obj:={cls:=.type "tuple_iterator",data:=.fields #[.ref l,.int 0 0]}
noncomputable abbrev Uc(a b:yai):Obj:={cls:=.type "tuple",data:=.seq #[a,b]}
noncomputable abbrev zO(a b:Addr):Obj:={cls:=.type "zip",data:=.fields #[.none,.bool false,.bool false,.ref a,.ref b]}
noncomputable abbrev q2(h:Heap)(i a:Addr):Heap:=(h.push (Py i)).push (Py a)
noncomputable abbrev q3(h:Heap)(a i:Addr):Heap:=(q2 h a i).push (Uc (.ref h.objs.size) (.ref (h.push (Py a)).objs.size))
noncomputable abbrev q4(h:Heap)(i a:Addr):Heap:=(q3 h i a).push (Uc .none .none)
noncomputable abbrev q5(h:Heap)(i a:Addr):Heap:=(q4 h i a).push (zO (q2 h i a).objs.size (q3 h i a).objs.size)
end M9
namespace M12
open PySem PySem.Spec PyProof.Rows M9
noncomputable abbrev ad(h:Heap)(i:Nat):Addr:=(h.objs.size+i:Nat)
noncomputable abbrev BF(a b c:yai):Obj:={cls:=.type "tuple",data:=.seq #[a,b,c]}
noncomputable abbrev Ho(a:Heap)(i h:yai):Obj:={cls:=.type "zip",data:=.fields #[i,h,.bool false,.ref (ad a 3),.ref (ad a 4)]}
structure Zs(hb h0 h:Heap)(m:Nat)(os:List Obj):Prop where
 b:∀c o,hb.get? c=some o->h.get? c=some o
 c:∀(i:Nat) o,os[i]? =some o->h.get? (ad hb i)=some o
 f:∀(c:Nat) o,hb.objs.size+os.length<=c->h0.get? c=some o->h.get? c=some o
 z:h.objs.size=m
section
variable {hb h0:Heap}{m' k:Nat}{o0:Obj}
theorem Zs.put(Z:Zs hb h0 h m os)(hi:os[i]? =some o0)(S:Heap.SameBut (ad hb i) h h')(e:h'.get? (ad hb i)=some o):Zs hb h0 h' m (os.set i o):=by
 have n:=(zad.mp hi).1;refine⟨λc a q=>S.extBut _ _ (zcx (zaR (zcH q) (Nat.le_add_right _ _))) (Z.b c a q),λj a q=>?_,λc a l q=>?_,S.1.trans Z.z⟩
 ·rw[zbd] at q;split at q
  ·next h=>subst h;cases q;exact e
  ·next h=>exact S.extBut _ _ (λe=>h (zaI e).symm) (Z.c j a q)
 ·rw[zbT] at l;exact S.extBut _ _ (zcA (zaR (Nat.add_lt_add_left n _) l)) (Z.f c a l q)
theorem Zs.to(Z:Zs hb h0 h m os)(k:∀c o,h.get? c=some o->h'.get? c=some o)(e:h'.objs.size=m'):Zs hb h' h' m' os:=
 ⟨λc o q=>k c o (Z.b c o q),λi o q=>k _ o (Z.c i o q),λ_ _ _ q=>q,e⟩
theorem Zs.upd(Z:Zs hb h h m os)(f:Obj->Obj)(a:os.length<=i):Zs hb (h.update (ad hb i) f) (h.update (ad hb i) f) m os:=
 have S:=Heap.SameBut.update h (ad hb i) f
 ⟨λb o e=>S.extBut _ _ (zcx (zaR (zcH e) (Nat.le_add_right _ _))) (Z.b b o e),λj o e=>S.extBut _ _ (λl=>Nat.not_le.mpr (zaI l▸(zad.mp e).1) a) (Z.c j o e),λ_ _ _ e=>e,S.1.trans Z.z⟩
def R0(b:Bool)(o:Obj)(l:Addr)(k:Nat):Prop:=o.cls=.type (if b then "list_iterator" else "tuple_iterator")/\o.data=.fields #[.ref l,.int k 0]
def Sq(b:Bool)(h:Heap)(l:Addr)(a:Array yai):Prop:=if b then h.IsList l a else h.IsTuple l a
def ZZ(hb h0 h:Heap)(m:Nat)(q o n:Addr)(k:Nat)(l:Obj):Prop:=
 ∃o0 j i a b c,R0 true o0 q k/\R0 false j o k/\R0 true i n k/\Zs hb h0 h m [o0,j,i,BF (.ref (ad hb 0)) (.ref (ad hb 1)) (.ref (ad hb 2)),BF a b c,l]
variable {l1 l2 l3:Addr}{xs ys zs:Array yai}{x y v f0 f1 a b c:yai}
theorem nx{b:Bool}(Z:Zs hb h0 s.heap m os)(j:os[i]? =some o)(I:R0 b o l k)(M:Sq b hb l xs)(q:xs[k]? =some x)(h:∀h' o',R0 b o' l (k+1)->Zs hb h0 h' m (os.set i o')->Q x {s with heap:=h'}):yar (model prog w) A (Builtin.SmallTypes.nextOf (.ref (ad hb i))) Q E s:=by
 cases b
 ·refine I0 ⟨o,Z.c i o j,I⟩ (Heap.IsTuple.at M λo e=>Z.b _ o e) q λh' J S=>?_;obtain⟨o',e,n⟩:=J;exact h h' o' n (Z.put j S e)
 ·refine wpAny_nextOf_list_item ⟨o,Z.c i o j,I⟩ (Heap.IsList.at M λo e=>Z.b _ o e) q λh' J S=>?_;obtain⟨o',e,n⟩:=J;exact h h' o' n (Z.put j S e)
theorem rN{k:Nat}{Q:Unit->yah->Prop}(Z:Zs hb h0 s.heap m os)(i:os[4]? =some (BF a b c))(h:∀h',Zs hb h0 h' m (os.set 4 {cls:=.type "tuple",data:=.seq ((#[a,b,c]:Array yai).setIfInBounds k x)})->Q () {s with heap:=h'}):
  yar (model prog w) A (updateSeq (ad hb 4) (·.setIfInBounds k x)) Q E s:=by
 have j:=Z.c 4 _ i;refine wpAny_updateSeq j rfl (h _ (Z.put i (Heap.SameBut.update ..) ?_));rw[zax _ j rfl];simp[Obj.mapSeq]
theorem m8{Q:Unit->yah->Prop}(Z:Zs hb h0 s.heap m os)(i:os[5]? =some (Ho hb f0 f1))(j:k<5)(h:∀h',Zs hb h0 h' m (os.set 5 {cls:=.type "zip",data:=.fields ((#[f0,f1,.bool false,.ref (ad hb 3),.ref (ad hb 4)]:Array yai).setIfInBounds k x)})->Q () {s with heap:=h'}):
  yar (model prog w) A (setField (.ref (ad hb 5)) k x) Q E s:=
 wpAny_setField_rec (Z.c 5 _ i) j λh' e S=>h h' (Z.put i S e)
def Fr(hb h:Heap)(f0 f1:yai):Prop:=∃(T:Nat)(i:Obj)(f:Bool),f0=rawInt T/\f1=.bool f/\h.get? T=some i/\hb.objs.size+6<T
theorem BV{T:Nat}{f:Bool}{Q:Bool->yah->Prop}(Z:Zs hb h0 s.heap m os)(i:os[5]? =some (Ho hb (rawInt T) (.bool f)))(j:s.heap.get? T=some o)(h:∀g,Zs hb h0 g m (os.set 5 (Ho hb (rawInt T) (.bool true)))->Q false {s with heap:=g}):yar (model prog w) A (Builtin.SmallTypes.ownedTupleIsFree (.ref (ad hb 5))) Q E s:=by
 have hz:=Z.c 5 _ i;unfold Builtin.SmallTypes.ownedTupleIsFree;refine yaa (wpAny_field hz rfl (x:=rawInt T) rfl ?_);show yar _ _ (loadIfAlive ((T:Int).toNat) >>= _) _ _ _;rw[zbk];refine yaa (PySem.W.kdx_alive j ?_);simp only[Option.isNone_some,zaU,if_false];refine yaa (wpAny_field hz rfl (x:=.bool f) rfl ?_);cases f with
 |true=>
  rw[yIn (show¬((Value.bool true != Value.bool true)=true) from zaT)];exact yab (h _ (Z.put i (Heap.SameBut.refl _ _) hz))
 |false=>
  rw[yIp (show(Value.bool false != Value.bool true)=true from rfl)];exact yaa (m8 Z i (by decide) λg Z=>yab (h g Z))
theorem Dd{Q:Option yai->yah->Prop}(M1:Sq true hb l1 xs)(M2:Sq false hb l2 ys)(M3:Sq true hb l3 zs)(Z:ZZ hb s.heap s.heap m l1 l2 l3 k (Ho hb f0 f1))(hf:(f0=.none/\f1=.bool false)∨Fr hb s.heap f0 f1)(hs:hb.objs.size+6<m)(i:(∃x y v,xs[k]? =some x/\ys[k]? =some y/\zs[k]? =some v/\∀h' W U,ZZ hb h' h' (m+1) l1 l2 l3 (k+1) (Ho hb W U)->Fr hb h' W U->h'.get? m=some (BF x y v)->(∀(c:Nat) o,hb.objs.size+6<=c->s.heap.get? c=some o->h'.get? c=some o)->Q (some (.ref m)) {s with heap:=h'})∨(xs[k]? =none/\f0≠ .none/\A.handled=none/\∀h',(∀c o,hb.get? c=some o->h'.get? c=some o)->(∀(c:Nat) o,hb.objs.size+6<=c->s.heap.get? c=some o->h'.get? c=some o)->Q none {s with heap:=h'})):
  yar (model prog w) A (pyNext (.ref (ad hb 5))) Q E s:=by
 obtain⟨o0,H,G,a,b,c,l,u,t,Z⟩:=Z;have hz:=Z.c 5 _ rfl;have O:s.TypeIs (.ref (ad hb 5)) "zip":=⟨_,hz,rfl⟩
 unfold pyNext;refine yaa (wpAny_attempt (wpAny_callSpecial?_slot (name:=Str.ofString "__next__") O F.slot_zip_next (wpAny_call_entry F.slot_zip_next O F.entry_zip_next ?_ (F.args_zip_next_1 _))));show yar _ _ (field (.ref (ad hb 5)) 2 >>= _) _ _ _;refine yaa (wpAny_field hz rfl (x:=.bool false) rfl ?_);show yar _ _ (field (.ref (ad hb 5)) 3 >>= _) _ _ _;refine yaa (wpAny_field hz rfl (x:=.ref (ad hb 3)) rfl (yaa (wpAny_seqItems (Z.c 3 _ rfl) rfl ?_)));show yar _ _ (Builtin.SmallTypes.ownedTupleIsFree (.ref (ad hb 5)) >>= _) _ _ _;rcases hf with⟨rfl,rfl⟩|⟨T,oT,f,rfl,rfl,O,L⟩
 ·refine yaa ?_;unfold Builtin.SmallTypes.ownedTupleIsFree;refine yaa (wpAny_field hz rfl (x:=.none) rfl (yab ?_));rcases i with⟨x,y,v,I,X,Y,P⟩|⟨_,h,_⟩
  ·simp only[if_true];refine yaa (wpAny_rule (yaa (wpAny_field hz rfl (x:=.ref (ad hb 4)) rfl (yaa (m8 Z rfl (by decide) λg1 Z=>?_)))));refine yaa ?_;simp only[List.zipIdx_cons,List.zipIdx_nil,List.forIn_cons,List.forIn_nil];refine yaa (yaa (yaB ?_));show yar _ _ (Builtin.SmallTypes.nextOf (.ref (ad hb 0)) >>= _) _ _ _;refine yaa (nx Z rfl l M1 I λj o0 l Z=>yab (yaa (wpAny_seqItems (Z.c 4 _ rfl) rfl (yaa (rN Z rfl λn Z=>?_)))));refine yaa (wpAny_letGo (yab (yaa (yaa (yaB ?_)))));show yar _ _ (Builtin.SmallTypes.nextOf (.ref (ad hb 1)) >>= _) _ _ _;refine yaa (nx Z rfl u M2 X λj H u Z=>yab (yaa (wpAny_seqItems (Z.c 4 _ rfl) rfl (yaa (rN Z rfl λn Z=>?_)))));refine yaa (wpAny_letGo (yab (yaa (yaa (yaB ?_)))));show yar _ _ (Builtin.SmallTypes.nextOf (.ref (ad hb 2)) >>= _) _ _ _;refine yaa (nx Z rfl t M3 Y λj G t Z=>yab (yaa (wpAny_seqItems (Z.c 4 _ rfl) rfl (yaa (rN Z rfl λn C=>?_)))))
   replace C:Zs hb s.heap n m [o0,H,G,BF (.ref (ad hb 0)) (.ref (ad hb 1)) (.ref (ad hb 2)),BF x y v,Ho hb .ellipsis (.bool false)]:=C
   refine yaa (wpAny_letGo (yab (yab (yaa (wpAny_seqItems (C.c 4 _ rfl) rfl (yaa (wpAny_newTuple ?_)))))));have hm:=C.z;subst hm;have hp:(n.push (BF x y v)).get? n.objs.size=some (BF x y v):=zaK _ rfl;have Z':=C.to (h':=n.push (BF x y v)) (λ_ _ e=>zaq _ e) (zch ..);show yar _ _ (Builtin.SmallTypes.ownedTupleHandOut (.ref (ad hb 5)) (.ref n.objs.size) >>= _) _ _ _;refine yaa ?_;unfold Builtin.SmallTypes.ownedTupleHandOut;refine yaa (m8 Z' rfl (by decide) λg9 Z9=>m8 Z9 rfl (by decide) λg Z=>?_);have e:=Z.f _ _ (zcz hs) hp;exact yab ⟨_,rfl,yab (P g _ _ ⟨o0,H,G,_,_,_,l,u,t,Z.to (λ_ _ e=>e) Z.z⟩ ⟨_,_,_,rfl,rfl,e,hs⟩ e λc o i e=>Z.f c o i (zaq _ (C.f c o i e)))⟩
  ·exact absurd rfl h
 ·refine yaa (BV Z rfl O λg1 Z=>?_);simp only[zaU,if_false];simp only[<-zaV,List.forIn_cons,List.forIn_nil];refine yaa (yaa (yaa (yad ?_)));show yar _ _ (Builtin.SmallTypes.nextOf (.ref (ad hb 0)) >>= _) _ _ _;rcases i with⟨x,y,v,I,X,Y,P⟩|⟨I,_,hh,P⟩
  ·refine yaa (nx Z rfl l M1 I λj o0 l Z=>yab (yab (yaa (yaa (yad ?_)))));show yar _ _ (Builtin.SmallTypes.nextOf (.ref (ad hb 1)) >>= _) _ _ _;refine yaa (nx Z rfl u M2 X λj H u Z=>yab (yab (yaa (yaa (yad ?_)))));show yar _ _ (Builtin.SmallTypes.nextOf (.ref (ad hb 2)) >>= _) _ _ _;refine yaa (nx Z rfl t M3 Y λj G t Z=>yab (yab (yab ?_)));show yar _ _ (newTuple [x,y,v] >>= _) _ _ _;refine yaa (wpAny_newTuple (yab ⟨_,rfl,yab ?_⟩));have hm:=Z.z;subst hm;have kp:∀c o,j.get? c=some o->(j.push (BF x y v)).get? c=some o:=λ_ _ e=>zaq _ e;exact P _ _ _ ⟨o0,H,G,_,_,_,l,u,t,Z.to kp (zch ..)⟩ ⟨_,_,_,rfl,rfl,kp _ _ (Z.f _ _ (zcz L) O),L⟩ (zaK _ rfl) λc o i e=>kp c o (Z.f c o i e)
  ·refine yaa (wpAny_nextOf_list_end hh ⟨_,Z.c 0 _ rfl,l⟩ (Heap.IsList.at M1 λo e=>Z.b _ o e) I λj e S he=>?_);obtain⟨oe,hoe,hce⟩:=he;exact yaa (wpAny_isInstance (T:="StopIteration") (b:=true) ⟨oe,hoe,hce⟩ isSubtype_stop (yab (P j (λc o q=>S _ _ (zcx (zcH q)) (Z.b c o q)) λc o i q=>S _ _ (zcA (zaR (Nat.lt_add_of_pos_right (by decide)) i)) (Z.f c o i q))))
end
namespace F
theorem nM(a b c:yai):checkTypeCall "zip" ⟨[a,b,c],[]⟩=pure ():=by kernel_rfl
theorem p5(a b c:yai):checkBuiltinCall "zip.__new__" ⟨[.type "zip",a,b,c],[]⟩=pure ():=by kernel_rfl
theorem jD(a b c d:yai):argsOk "object.__init__" ⟨[a,b,c,d],[]⟩:=by
 unfold argsOk;rw[signature?_of (id:="object.__init__") (n:=['_','_','t','i','n','i','_','_']) (o:=['t','c','e','j','b','o']) (by kernel_rfl) PySem.F.owner_object];kernel_rfl
theorem wY:typeLookup (.type "zip") "__len__"=pure none:=by rw[typeLookup_type,builtinLookup_eq_fast];kernel_rfl
theorem uf:typeLookup (.type "zip") "__length_hint__"=pure none:=by rw[typeLookup_type,builtinLookup_eq_fast];kernel_rfl
end F
noncomputable abbrev Sf(l:Addr):Obj:={cls:=.type "list_iterator",data:=.fields #[.ref l,.int 0 0]}
noncomputable def pu:Heap->List Obj->Heap
 |h,[]=>h
 |h,o::os=>pu (h.push o) os
theorem ET{c:Addr}(e:h.get? c=some o):(pu h os).get? c=some o:=by
 induction os generalizing h with
 |nil=>exact e
 |cons o' os ih=>exact ih (zaq _ e)
theorem IC:(pu h os).objs.size=h.objs.size+os.length:=by
 induction os generalizing h with
 |nil=>rfl
 |cons o os ih=>exact(ih (h:=h.push o)).trans (by rw[zch,zbq];lia)
theorem MZ{o':Obj}(a:∀o∈os,o.isFreed=false)(e:os[i]? =some o'):(pu h os).get? (ad h i)=some o':=by
 induction os generalizing h i with
 |nil=>cases e
 |cons o os ih=>
  cases i with
  |zero=>cases e;exact ET (os:=os) (h:=h.push o') (zaK _ (a _ (by simp)))
  |succ i=>
   have q:=ih (h:=h.push o) (λx j=>a x (zay _ j)) e;have l:ad (h.push o) i=ad h (i+1):=by
    show(h.push o).objs.size+i=h.objs.size+(i+1);rw[zch];lia
   rw[l] at q;exact q
noncomputable abbrev p3(i h a:Addr):List Obj:=[Sf i,Py h,Sf a]
noncomputable abbrev p6(h:Heap)(j i a:Addr):List Obj:=p3 j i a++[BF (.ref (ad h 0)) (.ref (ad h 1)) (.ref (ad h 2)),BF .none .none .none,Ho h .none (.bool false)]
theorem Px(a i j:Addr)(v u t:Array yai):
  Meets (Builtin.«zip.__new__» ⟨[.type "zip",.ref a,.ref i,.ref j],[]⟩) (λ_ R s=>s.heap.IsList a v/\s.heap.IsTuple i u/\s.heap.IsList j t/\R (.ok (.ret (.ref (ad s.heap 5)))) {s with heap:=pu s.heap (p6 s.heap a i j)}):=
 .of_wp λprog w A R s h=>by
  obtain⟨l,g,d,tk,os⟩:=s;obtain⟨q,n,m,h⟩:=h;have x:=sub_zip;have m1:Heap.IsList (Shared.heap ⟨l,g,d,tk,os⟩) a v:=q;have m2:Heap.IsTuple (Shared.heap ⟨l.push (Sf a),g,d,tk,os⟩) i u:=n.at λo e=>zaq _ e;have y:Heap.IsList (Shared.heap ⟨(l.push (Sf a)).push (Py i),g,d,tk,os⟩) j t:=m.at λo e=>zaq _ (zaq _ e)
  wp_walk using wpAny_pyIter_list m1,wpAny_pyIter_tuple m2,wpAny_pyIter_list y
  simp only[zch,Nat.add_assoc];exact⟨_,rfl,h⟩
section
variable {l1 l2 l3:Addr}{xs ys zs:Array yai}{hb:Heap}
theorem LD(l:s.heap.IsList l1 xs)(j:s.heap.IsTuple l2 ys)(a:s.heap.IsList l3 zs)(h:∀h',ZZ s.heap h' h' (s.heap.objs.size+6) l1 l2 l3 0 (Ho s.heap .none (.bool false))->Q (.ref (ad s.heap 5)) {s with heap:=h'}):
  yar (model prog w) A (call (.type "zip") [.ref l1,.ref l2,.ref l3]) Q E s:=by
 refine callType_new PySem.F.called_zip (by decide) (F.nM _ _ _) (F.p5 _ _ _) (λobj=>F.jD obj _ _ _) PySem.F.entry_zip_new (Px l1 l2 l3 xs ys zs) ⟨l,j,a,?_⟩;have g:=λi o=>MZ (os:=p6 s.heap l1 l2 l3) (h:=s.heap) (i:=i) (o':=o) λo h=>by
  simp only[zbw,zbR,zci,zbA,or_false] at h;rcases h with rfl|rfl|rfl|rfl|rfl|rfl<;>rfl
 exact⟨⟨_,g 5 _ rfl,rfl⟩,h _ ⟨_,_,_,_,_,_,⟨rfl,rfl⟩,⟨rfl,rfl⟩,⟨rfl,rfl⟩,λ_ _ e=>ET e,g,λ_ _ _ e=>e,IC⟩⟩
theorem FA{Q:Bool->yah->Prop}(a:s.TypeIs (.ref I) "zip")(h:Q true s):yar (model prog w) A (Builtin.List.listLengthHint (.ref I)) Q E s:=by
 unfold Builtin.List.listLengthHint;refine yaa (wpAny_specialOf a F.wY ?_);show yar _ _ (specialOf (Value.ref I) (Str.ofString "__length_hint__") >>= _) _ _ _;exact yaa (wpAny_specialOf a F.uf (yab h))
def Tl(hb:Heap)(xs ys zs:Array yai)(i:Nat)(h:Heap):Prop:=∃a c,h.get? (ad hb 6)=some {cls:=.type "list",dict:=none,data:=.seq a c,slots:=#[]}/\a.toList=(zcO i).map (λj=>Value.ref (ad hb (7+j)))/\
 ∀j x y v,j<i->xs[j]? =some x->ys[j]? =some y->zs[j]? =some v->h.get? (ad hb (7+j))=some (BF x y v)
theorem LC{R:Result->yah->Prop}(hh:A.handled=none)(M1:Sq true hb l1 xs)(M2:Sq false hb l2 ys)(X:Sq true hb l3 zs)(e1:xs.size=m)(e2:ys.size=m)(e3:zs.size=m)(hm:0<m)(hn:m<=yag)(res:yai)(hR:∀h',(∀c o,hb.get? c=some o->h'.get? c=some o)->Tl hb xs ys zs m h'->R (.ok (.ret res)) {s with heap:=h'}):
  ∀(k i:Nat)(h:Heap)(C u:yai),m - i=k->i<=m->ZZ hb h h (hb.objs.size+(7+i)) l1 l2 l3 i (Ho hb C u)->(i=0/\C=.none/\u=.bool false)∨Fr hb h C u->Tl hb xs ys zs i h->
   codeAny (model prog w) A (.builtin "list.extend.loop" ⟨[.ref (ad hb 6),.ref (ad hb 5),res],[]⟩) R {s with heap:=h}:=by
 intro k;have G:∀j,hb.objs.size+6<hb.objs.size+(7+j):=λj=>by lia
 induction k with
 |zero=>
  intro i h C u hk hi O E n;obtain rfl:i=m:=by lia
  refine codeAny_builtin PySem.F.entry_extend_loop ?_;rw[Around.under_plainId PySem.F.plain_extend_loop _];show yar _ A.in1 (pyNext (.ref (ad hb 5)) >>= _) _ _ _;refine yaa (Dd (s:={s with heap:=h}) (A:=A.in1) M1 M2 X O (E.imp And.right id) (G _) (.inr ⟨zap (by lia),λe=>?_,hh,λh' k1 U=>?_⟩))
  ·rcases E with⟨h,_⟩|⟨_,_,_,h,_⟩
   ·lia
   ·rw[h] at e;cases e
  ·obtain⟨l,c,H,q2,q3⟩:=n;exact yab (hR h' k1 ⟨l,c,U _ _ (zcK _) H,q2,λj x y v t a b c=>U _ _ (zcz (G j)) (q3 j x y v t a b c)⟩)
 |succ k ih=>
  intro i h C u hk hi O E n;obtain⟨l,c,H,q2,q3⟩:=n;have q:l.size=i:=by rw[<-zaJ,q2,zbK,zbe]
  refine codeAny_builtin PySem.F.entry_extend_loop ?_;rw[Around.under_plainId PySem.F.plain_extend_loop _];show yar _ A.in1 (pyNext (.ref (ad hb 5)) >>= _) _ _ _;refine yaa (Dd (s:={s with heap:=h}) (A:=A.in1) M1 M2 X O (E.imp And.right id) (G _) (.inl ⟨_,_,_,zai (by lia),zai (by lia),zai (by lia),λh' Q P L I n kp=>?_⟩));have W:=kp (ad hb 6) _ (zcK _) H;have up:∀b o,b≠ad hb 6->h'.get? b=some o->(h'.update (ad hb 6) (Obj.mapSeq (·.push (Value.ref (ad hb (7+i)))))).get? b=some o:=λb o hb e=>(zar _ _ (Ne.symm hb)).trans e;show yar _ A.in1 (updateSeq (ad hb 6) (·.push (Value.ref (ad hb (7+i)))) >>= _) _ _ _;have n7:∀j,ad hb (7+j)≠ad hb 6:=λj e=>by have:=zaI e;lia
  refine yaa (wpAny_updateSeq W rfl (yab ⟨plainId_quiet PySem.F.plain_extend_loop _,ih (i+1) _ Q P (by lia) (by lia) ?_ (.inr ?_) ⟨l.push (.ref (ad hb (7+i))),_,zax _ W rfl,?_,λj x y v t a b c=>?_⟩⟩) (by rw[q];lia) (by show(l.push (Value.ref (ad hb (7+i)))).size<=yag+1;rw[Array.size_push,q];lia))
  ·obtain⟨o0,o1,o2,a,b,c,i0,i1,i2,Z⟩:=L;exact⟨o0,o1,o2,a,b,c,i0,i1,i2,Z.upd _ (zcK 6)⟩
  ·obtain⟨T,oT,f,r1,r2,Y,S⟩:=I;exact⟨T,oT,f,r1,r2,up _ _ (zcA S) Y,S⟩
  ·rw[zbl,q2,zbV,zbS];rfl
  ·refine up _ _ (n7 j) ?_;rcases Nat.lt_succ_iff_lt_or_eq.mp t with t|rfl
   ·exact kp _ _ (zcz (G j)) (q3 j x y v t a b c)
   ·rw[zai (by lia)] at a b c;cases a;cases b;cases c;exact n
end
end M12
namespace M12
open PySem PySem.Spec PyProof.Rows M9
theorem Fp{O L I:Addr}{G C y:Array yai}{l:Heap}(hh:A.handled=none)(M1:Sq true l O G)(M2:Sq false l L C)(M3:Sq true l I y)(Z:ZZ l s.heap s.heap (l.objs.size+6) O L I 0 (Ho l .none (.bool false)))(e1:G.size=m)(e2:C.size=m)(e3:y.size=m)(hm:0<m)(hsz:m<=yag)(hQ:∀h',(∀c o,l.get? c=some o->h'.get? c=some o)->Tl l G C y m h'->Q (.ref (ad l 6)) {s with heap:=h'}):
  yar (model prog w) A (call (.type "list") [.ref (ad l 5)]) Q E s:=by
 obtain⟨X,W,U,a,b,c,i0,i1,Y,Z⟩:=Z;have u:=Z.z;refine callType_codes (Q₁:=λobj t=>obj=.ref (ad l 6)/\t={s with heap:=s.heap.push {cls:=.type "list",data:=.seq #[]}}) PySem.F.called_list (PySem.F.typeCall_list_1 _) PySem.F.entry_list_init
  (code_list_new _ ⟨by rw[u],rfl⟩) λobj t v=>?_
 obtain⟨rfl,rfl⟩:=v;have x:(s.heap.push {cls:=.type "list",data:=.seq #[]}).get? (ad l 6)=some {cls:=.type "list",data:=.seq #[]}:=by rw[show ad l 6=s.heap.objs.size from u.symm];exact zaK _ rfl
 replace Z:=Z.to (h':=s.heap.push {cls:=.type "list",data:=.seq #[]}) (m':=l.objs.size+7) (λ_ _ e=>zaq _ e) (by rw[zch,u])
 refine⟨⟨_,x,rfl⟩,PySem.F.args_list_init_2 _ _,?_⟩;generalize s.heap.push {cls:=.type "list",data:=.seq #[]}=g1 at x Z⊢;show yar _ _ (do let old <-Builtin.List.listItems (.ref (ad l 6));Builtin.List.listUpdate (.ref (ad l 6)) (λ_=>#[]);letGo old.toList.reverse;Builtin.List.listExtendWith (.ref (ad l 6)) (.ref (ad l 5)) .none) _ _ _;refine yaa ?_;unfold Builtin.List.listItems;refine yaa (wpAny_seqItems x rfl (yab ?_));show yar _ _ (updateSeq (ad l 6) (λ_=>#[]) >>= λ_=>letGo (#[]:Array yai).toList.reverse >>= λ_=>Builtin.List.listExtendWith (.ref (ad l 6)) (.ref (ad l 5)) .none) _ _ _;refine yaa (wpAny_updateSeq x rfl (yaa (wpAny_letGo ?_)));have n:(g1.update (ad l 6) (Obj.mapSeq (λ_=>(#[]:Array yai)))).get? (ad l 6)=some {cls:=.type "list",dict:=none,data:=.seq #[] _,slots:=#[]}:=zax (Obj.mapSeq (λ_=>(#[]:Array yai))) x rfl
 replace Z:=Z.upd (i:=6) (Obj.mapSeq (λ_=>(#[]:Array yai))) (zcK 6)
 generalize g1.update (ad l 6) (Obj.mapSeq (λ_=>(#[]:Array yai)))=g2 at n Z⊢;have H:=Z.c 5 _ rfl;have P:Shared.TypeIs {s with heap:=g2} (.ref (ad l 5)) "zip":=⟨_,H,rfl⟩
 unfold Builtin.List.listExtendWith;refine yaa (wpAny_typeOf P ?_);have h1:Builtin.List.listSameRef (.ref (ad l 6)) (.ref (ad l 5))=false:=by simp[Builtin.List.listSameRef]
 have h2:(Value.type "zip"==Value.type "list")=false:=by decide
 have h3:(Value.type "zip"==Value.type "tuple")=false:=by decide
 simp only[h1,h2,h3,zco,zaU,if_false];refine yaa (wpAny_pyIter_zip H (yaa (yad (FA P ?_))));show yar _ _ (rule "list.extend.makes-room" >>= λ_=>Builtin.List.listTouch (.ref (ad l 6)) >>= λ_=>again (.builtin "list.extend.loop" ⟨[.ref (ad l 6),.ref (ad l 5),.none],[]⟩)) _ _ _;refine yaa (wpAny_rule (yaa ?_));show yar _ _ (updateSeq (ad l 6) (·.push .none) >>= λ_=>updateSeq (ad l 6) (·.pop)) _ _ _;have q:=zax (Obj.mapSeq (·.push Value.none)) n rfl;refine yaa (wpAny_updateSeq n rfl (wpAny_updateSeq q rfl ?_));exact yab ⟨plainId_quiet PySem.F.plain_extend_loop _,LC (A:=A.in1) hh M1 M2 M3 e1 e2 e3 hm hsz .none (λh' S q2=>⟨rfl,hQ h' S q2⟩) m 0 _ _ _ rfl (zcL _) ⟨X,W,U,a,b,c,i0,i1,Y,(Z.upd (i:=6) _ (zcK 6)).upd _ (zcK 6)⟩ (.inl ⟨rfl,rfl,rfl⟩) ⟨#[],_,zax (Obj.mapSeq (·.pop)) q rfl,rfl,λj _ _ _ h=>absurd h (zbW j)⟩⟩
end M12
namespace L2
open PySem PySem.Spec PyProof.Rows M12
noncomputable def Hq(i h a:List V):List (List V):=(i.zip (h.zip a)).map λt=>[t.1,t.2.1,t.2.2]
noncomputable def mL:Hp->List (Addr×List V)->Hp
 |H,[]=>H
 |H,(a,t)::r=>mL (upd H a (.tup t)) r
theorem sS{b:Addr}:∀{r:List (Addr×List V)}{H:Hp},(∀t∈r,t.1≠b)->mL H r b=H b
 |[],_,_=>rfl
 |(a,t)::r,H,h=>by
  show mL (upd H a (.tup t)) r b=_;rw[sS λu i=>h u (zay _ i),aP (Ne.symm (h (a,t) (by simp)))]
def Kz(K:yaI)(t:TA):TE:=λs H Q=>t s H λvs j=>∃q o n m h l,vs=[.ref q,.ref o,.ref n]/\cF K j q m/\dI K j o h/\cF K j n l/\m.length=h.length/\l.length=h.length/\0<h.length/\h.length<=1000/\
 ∀(i:List Addr)(p:Addr),i.Nodup->p ∉ i->(∀a∈p::i,j a=none)->i.length=h.length->Q (.ref p) (upd (mL j (i.zip (Hq m h l))) p (.lst (i.map V.ref)))
theorem HH{i a:List V}{t:List V}(h:(Hq xs i a)[j]? =some t):∃x y z,xs[j]? =some x/\i[j]? =some y/\a[j]? =some z/\t=[x,y,z]:=by
 unfold Hq at h;rw[zba] at h;cases e:(xs.zip (i.zip a))[j]? with
 |none=>rw[e] at h;cases h
 |some p=>
  rw[e] at h;obtain⟨h1,h2⟩:=zaf.mp e;obtain⟨m,l⟩:=zaf.mp h2;exact⟨_,_,_,h1,m,l,(zcN.inj h).symm⟩
section
variable {σ:St}
theorem Inv.mL(n:Nat)(l:X.s₀.heap.objs.size<=n)(i:∀D,n<=D->D≠X.env.locals/\(∀x c,X.env.cells.lookup x=some c->c≠D)/\∀p∈X.pn++pins,p.1≠D):
  ∀(r:List (Addr×List V))(H:Hp),Inv X pins σ H s->(r.map (·.1)).Nodup->(∀t∈r,n<=t.1/\H t.1=none/\∀H',bg X.prog X.w H' s.heap t.1 (.tup t.2))->Inv X pins σ (mL H r) s
 |[],H,I,_,_=>I
 |(a,t)::r,H,I,hd,h=>by
  obtain⟨h1,h2,q⟩:=h (a,t) (by simp);rw[zcj,zbM] at hd;refine Inv.mL n l i r _ (I.ur h2 (zcy l h1) (i a h1).1 (i a h1).2.1 (i a h1).2.2 (q _)) hd.2 λu j=>?_;obtain⟨k1,o,m⟩:=h u (zay _ j);refine⟨k1,?_,m⟩;rw[aP (λe=>hd.1 (zcw.mpr ⟨u,j,e⟩))];exact o
end
section
variable {a b:Expr}{ta:TA}
theorem su(hc:X.calm=true)(hg:Gl X "list")(hm:X.mg "list"=none)(hg2:Gl X "zip")(hm2:X.mg "zip"=none)(v:PA X [a,b,c] ta)(hs:yao [a,b,c] X.env=[(false,eval a X.env),(false,eval b X.env),(false,eval c X.env)]:=by rfl)(P:yao [b,c] X.env=[(false,eval b X.env),(false,eval c X.env)]:=by rfl):
  PE X (.Call (.Name "list" p) [.Call (.Name "zip" p2) [a,b,c] [] pos2] [] pos) (Kz X.K ta):=by
 intro C s σ H Q I h;refine wpAny_Call_Name_kw (cu I hg hm boot_list ?_ (by decide+kernel) (by decide+kernel));refine PyProof.Rows.callWith_type1 (E:=X.xe) ?_ (aO [] X.env rfl) rfl;rw[aO [] X.env rfl];refine zaX ?_;refine Call_ (cu I hg2 hm2 (u:=.type "zip") (by decide+kernel) (PyProof.Rows.callWith_type1 (bT (v pos2 C s σ H _ I h) λus l z1'=>?_) (by rw[hs,P]) (by rw[P];rfl)) (by decide+kernel) (by decide+kernel));obtain⟨vs,H1,F,r1,G⟩:=z1';obtain⟨l1,l2,l3,xs,O,zs,e,g1,g2,g3,n1,n2,n3,n4,q⟩:=G;subst e;cases r1 with
 |cons r rr=>cases rr with
  |cons r' rr'=>cases rr' with
   |cons r'' rr''=>
    cases rr'';cases r;cases r';cases r'';obtain⟨i1,v1,t1,_⟩:=F.list g1;obtain⟨i2,v2,t2,_⟩:=F.tuple g2;obtain⟨i3,v3,t3,_⟩:=F.list g3;have c1:=v1.length;have c2:=v2.length;have c3:=v3.length;have M2:l.heap.IsTuple l2 i2.toArray:=t2;refine LD t1.isList M2 t3.isList λh' Z=>zbp ?_;refine Fp (s:={l with heap:=h'}) (m:=O.length) (F.ok.hd hc) t1.isList M2 t3.isList Z (by simp;lia) (by simp;lia) (by simp;lia) n3 (by rw[yaf];lia) λh2 kp2 T=>?_;obtain⟨U,cc,k2,k5,k4⟩:=T;have I2:Inv X C σ H1 {l with heap:=h2}:=F.kept (t':=l.toks) kp2;generalize L:(zcO O.length).map (λj=>ad l.heap (7+j))=as;have W:∀j a,as[j]? =some a->a=ad l.heap (7+j)/\j<O.length:=λj a h=>by
     rw[<-L,zba,Option.map_eq_some_iff] at h;obtain⟨b,hb,rfl⟩:=h;obtain⟨G,q2⟩:=zad.mp hb;rw[zaP] at q2;rw[zbe] at G;exact⟨by rw[q2],G⟩
    have k3:as.length=O.length:=by rw[<-L,zbK,zbe]
    have nd:as.Nodup:=zah.mpr λi j h1 h2 h e=>by
     have e1:=(W i _ (zak h1)).1;have e2:=(W j _ (zak h2)).1;have:=zaI (e1.symm.trans (e.trans e2));lia
    have up:∀a∈as,l.heap.objs.size+6<a:=λa v=>by
     obtain⟨j,S⟩:=List.mem_iff_getElem?.mp v;rw[(W j a S).1];show(_:Nat)<l.heap.objs.size+(7+j);lia
    have none:∀a,l.heap.objs.size<=a->H1 a=none:=λa v=>F.hok.fresh v;have Y:∀D,l.heap.objs.size<=D->D≠X.env.locals/\(∀x c,X.env.cells.lookup x=some c->c≠D)/\∀p∈X.pn++C,p.1≠D:=λD hD=>let f:=F.p8 (H':=H1) hD (none D hD);⟨f.2.1,f.2.2.2.2.1,f.2.2.2.2.2⟩;have em:(as.zip (Hq xs O zs)).map (·.1)=as:=zbB (by simp[Hq];lia);have I3:=Inv.mL l.heap.objs.size F.sz Y (as.zip (Hq xs O zs)) H1 I2 (by rw[em];exact nd) λt ht=>by
     obtain⟨j,S⟩:=List.mem_iff_getElem?.mp ht;obtain⟨G,q2⟩:=zaf.mp S;have v:l.heap.objs.size<=t.1:=zcz (zcB (by lia) (up _ (zaB G)));refine⟨v,none _ v,λH'=>?_⟩;obtain⟨x,y,z,w1,w2,w3,w4⟩:=HH q2;obtain⟨e,S⟩:=W j _ G;obtain⟨a1,a2,a3⟩:=v1.get w1;obtain⟨a4,a5,a6⟩:=v2.get w2;obtain⟨a7,a8,a9⟩:=v3.get w3;rw[w4,e];exact⟨by rw[yaf];show 3<=_;lia,[a1,a4,a7],.cons a3 (.cons a6 (.cons a9 .nil)),⟨_,k4 j _ _ _ S (by simpa using a2) (by simpa using a5) (by simpa using a8),rfl,_,rfl⟩⟩
    have n:l.heap.objs.size<=(l.heap.objs.size+6:Nat):=by lia
    have pn:(l.heap.objs.size+6:Nat) ∉ as:=λh=>zcn _ (up _ h);have I4:=I3.ur (D:=(l.heap.objs.size+6:Nat)) (o:=.lst (as.map V.ref)) (by rw[sS λt ht e=>pn (by rw[<-e];exact(zbN ht).1)];exact none _ n) (zcy F.sz n) (Y _ n).1 (Y _ n).2.1 (Y _ n).2.2
     ⟨by rw[zbK,yaf];lia,as.map Value.ref,cc,ef (λa=>a) as,by rw[k2,<-L,zcv,show U=(U.toList).toArray from rfl,k5];rfl⟩
    refine⟨.ref (l.heap.objs.size+6:Nat),_,I4,rfl,q as _ nd pn (λa v=>?_) k3⟩;rcases zci.mp v with rfl|v
    ·exact none _ n
    ·exact none _ (zcz (zcB (by lia) (up _ v)))
end
end L2
namespace M
open PySem PySem.Spec PyProof.Rows L2
noncomputable def uq(es fs a:List D):List (List D):=(es.zip (fs.zip a)).map λt=>[t.1,t.2.1,t.2.2]
theorem Dp{l i a:List D}{t:List D}(h:(uq l i a)[j]? =some t):∃x y z,l[j]? =some x/\i[j]? =some y/\a[j]? =some z/\t=[x,y,z]:=by
 unfold uq at h;rw[zba] at h;cases e:(l.zip (i.zip a))[j]? with
 |none=>rw[e] at h;cases h
 |some p=>
  rw[e] at h;obtain⟨h1,h2⟩:=zaf.mp e;obtain⟨n,m⟩:=zaf.mp h2;exact⟨_,_,_,h1,n,m,(zcN.inj h).symm⟩
theorem Ok.mL{as:List Addr}{vs:List (List V)}{ts:List (List D)}{w:Wd}(ok:Ok K w H S)(nd:as.Nodup)(y:∀a∈as,H a=none)(E:as.length=vs.length)(x:as.length=ts.length)(h:∀(j:Nat)(ds:List D),ts[j]? =some ds->∃t,vs[j]? =some t/\aq K w ds t):
  ∃o,w.le o/\Ok K o (L2.mL H (as.zip vs)) S/\aq K o (ts.map D.tup) (as.map V.ref):=by
 induction as generalizing vs ts w H with
 |nil=>
  cases ts with
  |nil=>exact⟨w,.refl,ok,.nil⟩
  |cons _ _=>simp at x
 |cons a as ih=>
  cases vs with
  |nil=>simp at E
  |cons v vs=>
   cases ts with
   |nil=>simp at x
   |cons d ts=>
    rw[zbM] at nd;obtain⟨t,u,r⟩:=h 0 d rfl;obtain rfl:v=t:=by simpa using u
    obtain⟨I,n,s,l⟩:=ok.sJ (y a (by simp)) r;obtain⟨F,m,q,i⟩:=ih s nd.2 (λb C=>by rw[aP (λe:b=a=>nd.1 (e▸C))];exact y b (zay _ C)) (by simpa using E) (by simpa using x) λj ds G=>by
     obtain⟨t,u,r⟩:=h (j+1) ds (by simpa using G);exact⟨t,by simpa using u,r.le n⟩
    exact⟨F,n.trans m,q,.cons (l.le m) i⟩
def Gi(a:AA):AE:=λo S Q=>a o S λq h=>∃n m l j fs i,q=[n,m,l]/\aT h n=.lst j/\aT h m=.tup fs/\aT h l=.lst i/\j.length=fs.length/\i.length=fs.length/\0<fs.length/\fs.length<=1000/\Q (.new (.lst ((uq j fs i).map D.tup))) h
theorem Ml{a:AA}:∀o H Q,aS K (Gi a) o H Q->Kz K (ko K a) o H Q:=by
 rintro o H Q ⟨w,Z,S,Qa,ok,env,q,bk⟩;refine⟨w,Z,S,_,ok,env,q,λds S1 vs w1 H1 I h i u=>?_⟩;obtain⟨d1,d2,d3,Y,fs,X,hd,z1,z2,z3,n1,n2,n3,n4,q1⟩:=u;subst hd;simp only[aq] at i;obtain⟨x,r,rfl,g1,x',r',rfl,g2,x'',r'',rfl,g3,rfl⟩:=i;obtain⟨a1,C,rfl,k1,U⟩:=br h g1 z1;obtain⟨a2,v,rfl,k2,P⟩:=b5 h g2 z2;obtain⟨a3,s,rfl,k3,O⟩:=br h g3 z3;have l1:=U.length;have l2:=P.length;have l3:=O.length;refine⟨a1,a2,a3,C,v,s,rfl,cF.of k1,k2,cF.of k3,by lia,by lia,by lia,by lia,λas p nd hp W hl=>?_⟩;obtain⟨w2,G,m,l⟩:=Ok.mL (as:=as) (vs:=Hq C v s) (ts:=uq Y fs X) h nd (λa ha=>W a (zay _ ha)) (by simp[Hq];lia) (by simp[uq];lia) λj ds hj=>by
  obtain⟨x,y,z,h1,h2,h3,rfl⟩:=Dp hj;obtain⟨L,e1,r1⟩:=U.get h1;obtain⟨F,e2,r2⟩:=P.get h2;obtain⟨E,e3,r3⟩:=O.get h3;refine⟨[L,F,E],?_,.cons r1 (.cons r2 (.cons r3 .nil))⟩;unfold Hq;rw[zba,zaf (z:=(L,F,E)) |>.mpr ⟨e1,zaf (z:=(F,E)) |>.mpr ⟨e2,e3⟩⟩];rfl
 have n:L2.mL H1 (as.zip (Hq C v s)) p=none:=by rw[sS λt ht e=>hp (by rw[<-e];exact(zbN ht).1)];exact W p (by simp)
 exact bk (.new (.lst ((uq Y fs X).map D.tup))) S1 _ w2 _ (I.trans G) (m.alloc n) (m.fresh n ⟨_,rfl,l⟩) q1
theorem su{a b:Expr}{l:AA}(q:X.calm=true)(o:Gl X "list")(n:X.mg "list"=none)(j:Gl X "zip")(i:X.mg "zip"=none)(s:GA X [a,b,c] l)(m:yao [a,b,c] X.env=[(false,eval a X.env),(false,eval b X.env),(false,eval c X.env)]:=by rfl)(h:yao [b,c] X.env=[(false,eval b X.env),(false,eval c X.env)]:=by rfl):
  GE X (.Call (.Name "list" p) [.Call (.Name "zip" p2) [a,b,c] [] pos2] [] pos) (Gi l):=⟨mE (L2.su q o n j i s.p m h) Ml⟩
end M
namespace M10
open PySem PyProof.Rows
noncomputable def KR(R:Keyed->Int)(a:Array Keyed)(i:Nat):Int:=(a[i]?.map R).getD 0
def Up(R:Keyed->Int)(a:Array Keyed)(lo m:Nat):Prop:=∀i j,lo<=i->i<=j->j<lo+m->KR R a i<=KR R a j
def Dn(R:Keyed->Int)(a:Array Keyed)(lo m:Nat):Prop:=∀i j,lo<=i->i<=j->j<lo+m->KR R a j<=KR R a i
section
variable {R:Keyed->Int}{κ:SortKind}{T:Keyed->Prop}{a₀ b:Array Keyed}{p:Array (Nat×Nat×Nat)}{lo:Nat}
noncomputable def t3(lo n a:Nat):StateT SortSt Sem (Option Nat):=do
 let mut n:=n
 reverseSlice' lo (lo+n)
 for _ in [n:a] do
  let some sm <-ltAt' (lo+n) (lo+n - 1)|return none
  if sm then break
  n:=n+1
 return some n
end
section
variable {R:Keyed->Int}{κ:SortKind}{T:Keyed->Prop}{a₀:Array Keyed}
set_option hygiene false in
end
end M10
namespace M10
open PySem PySem.Spec PyProof.Rows
section
variable {R:Keyed->Int}{T:Keyed->Prop}
def TS(ss:List Str)(p:Keyed):Prop:=∃x t,p.1=.str x t/\x∈ss
end
end M10
namespace M
open PySem PySem.Spec PyProof.Rows L2
def EK(K:yaI):List V->Hp->VK->Prop:=λj H Q=>∃(a:Addr)(i:List Str),j=[.ref a]/\cF K H a (i.map V.str)/\i.length<=1000/\∀(p:Addr)(h:List Str),H p=none->h.Perm i->sortedS h=true->Q (.ref p) (upd H p (.lst (h.map V.str)))
end M
namespace L2
open PySem PySem.Spec PyProof.Rows
section
variable {ta:TE}
theorem lM{α:Type}[DecidableEq α]:∀{l m:List α},l.Nodup->(∀y∈l,y∈m)->l.length<=m.length
 |[],_,_,_=>zcL _
 |x::l,m,h,hs=>by
  rw[zbM] at h;have i:=hs x (by simp);have:=lM (l:=l) (m:=m.erase x) h.2 λy a=>(List.mem_erase_of_ne (λe:y=x=>h.1 (by rw[<-e];exact a))).mpr (hs y (by simp[a]));rw[zal i] at this;have:0<m.length:=zao i;rw[zbq];lia
end
end L2
namespace M5
open PySem PySem.Spec PyProof.Rows
theorem yq{d:Addr}(hd:(d==yas)=false):
  MeetsIn prog w (Builtin.«dict.__len__» ⟨[.ref d],[]⟩) (λ_ R s=>∃es ep,M6.iG s.heap d es ep/\R (.ok (.ret (.int es.size s.toks))) {s with toks:=s.toks+1}):=
 .of_wp λA R s ⟨es,ep,⟨o,i,j,a⟩,h⟩=>by
  show yar _ _ (dictSize d >>= _) _ _ s;unfold dictSize;refine yaa (yaa (wpAny_dictEntries i a (yab ?_)));show yar _ _ (Builtin.Dict.pendingCount d >>= _) _ _ s;refine yaa (wpAny_pendingCount_other hd ?_);refine wpAny_ret_mkInt ?_;rw[Nat.add_zero];exact h
theorem Ce{d:Addr}{es:Array yav}(hd:(d==yas)=false)(a:M6.iG s.heap d es ep)(j:(es.size:Int)<2 ^ 63)(h:Q (.int es.size (s.toks+1)) {s with toks:=s.toks+1+1}):yar (model prog w) A (Builtin.«len» ⟨[.ref d],[]⟩) (λi s'=>∃r,i=.done (.ret r)/\Q r s') E s:=by
 unfold Builtin.«len»;refine yaa (m:=oneArg "len" _) (yab ?_);refine yaa (m:=callSpecial? (.ref d) (Str.ofString "__len__")) (wpAny_callSpecial?_slot (name:=Str.ofString "__len__") a.typeIs PySem.F.slot_dict_len (call_meetsIn PySem.F.slot_dict_len a.typeIs PySem.F.entry_dict_len (PySem.F.args_dict_len_1 _) (yq hd) ⟨es,ep,a,?_⟩));show yar _ _ _ _ _ {s with toks:=s.toks+1};refine yaa (yad (yab ?_));refine yaa (wpAny_letGo ?_);show yar _ _ (if((es.size:Nat):Int)<0 then _ else _) _ _ _;rw[yIn (by lia)];show yar _ _ (if((es.size:Nat):Int)≥2 ^ 63 then _ else _) _ _ _;rw[yIn (by lia)];exact yaa (wpAny_mkInt (yab ⟨_,rfl,h⟩))
theorem uz{d:Addr}{es:Array yav}(x:A.handled=none)(lo:(d==yas)=false)(y:M6.iG s.heap d es ep)(i:StrsAre (es.toList.map (·.key)) ss)(C:es.size<64)(h:∀(h1 h2:Heap)(tk:Nat)(out:List yai)(a:List Str)(c:Nat),(∀b o,s.heap.get? b=some o->h1.get? b=some o)->(∀b o,h1.get? b=some o->h2.get? b=some o)->h2.get? h1.objs.size=some (seqObj "list" out.toArray c)->StrsAre out a->a.Perm ss->sortedS a=true->Q (.ref h1.objs.size) {s with heap:=h2,toks:=tk}):
  yar (model prog w) A (call (.builtin "sorted") [.ref d]) Q E s:=by
 refine zaj kind_sorted plain_sorted entry_sorted (args_sorted1 _) ?_;unfold Builtin.«sorted»;refine yaa (m:=checkCount "sorted" 1 1 _) (yab ?_);refine yaa (M6.pA lo ?_ y (by rw[yaf];lia) λh1 tk kp=>?_)
 ·exact x
 have l:(es.toList.map (·.key)).length=es.size:=by rw[zbK,zaJ]
 generalize (es.toList.map (·.key))=vs at i l;refine yaa (wpAny_newList ?_ (by first|(rw[yaf];lia)|(rw[zaY,yaf];lia)));have q:(h1.push (seqObj "list" vs.toArray 0)).get? h1.objs.size=some (seqObj "list" vs.toArray 0):=zaK _ rfl;refine yaa (yad (wpAny_call_entry slot_list_sort ⟨_,q,rfl⟩ entry_list_sort (list_sort_treeK (κ:=PyProof.Rows.strKind) strKind_oneLt q i.keysOf (λu t rest e=>keyKind_strs (by rw[<-e];exact i)) (by lia) λj L I=>⟨_,rfl,?_⟩) (args_list_sort _)));obtain⟨a,H,G,F⟩:=sorted_out_str i L I;obtain⟨c,n⟩:=sortedHeap_at (out:=(arrOf j).map (·.2)) q;refine yab ⟨_,rfl,h h1 _ tk ((arrOf j).map (·.2)).toList a c kp (λb o e=>?_) (by rw[zaC];exact n) H G F⟩;have v:=zcH e;show(sortedHeap _ _ _ _).get? b=some o;rw[sortedHeap_old (zcx v) (by rw[size_push'];exact zbh v)];exact zaq _ e
end M5
namespace L2
open PySem PySem.Spec PyProof.Rows M6
def MP(K:yaI):List V->Hp->VK->Prop:=λvs H Q=>∃(a:Addr)(h:List (yam×Addr)),vs=[.ref a]/\cF K H a (h.map λk=>V.ref k.2)/\pR K H h/\(∃b,∀k∈h,∃p r,Fs b p/\k.1=PyData.tuple (p::r))/\(∀k∈h,∀l∈h,bK k.1 l.1=true)/\h.length<64/\
 ∀(p:Addr)(out:List (yam×Addr)),H p=none->out.Perm h->out.Pairwise (λx y=>fJ y.1 x.1=false)->Q (.ref p) (upd H p (.lst (out.map λk=>V.ref k.2)))
def IA:List V->Hp->VK->Prop:=λl H Q=>∃(a:Addr)(i:List (Key×V))(j:List Str),l=[.ref a]/\H a=some (.dK i)/\(i.map λx=>kV x.1)=j.map V.str/\j.length<64/\∀p (h:List Str),H p=none->h.Perm j->sortedS h=true->Q (.ref p) (upd H p (.lst (h.map V.str)))
def QA(W:yak):List V->Hp->VK->Prop:=λvs H Q=>∃(a i:Addr)(h:List (yam×Addr)),vs=[.ref a]/\H a=some (.ext (lO W i h))/\h.length<=1000/\Q (.int h.length) H
def SW(K:yaI)(W:yak)(h:Bool):R2:=λy x H Q=>∃(a j b:Addr)(i:List (yam×Addr))(d:yam),x=.ref a/\y=.ref b/\H a=some (.ext (lO W j i))/\pR K H i/\bJ d=true/\d.depth<=6/\cN K H d (.ref b)/\Q (.bl (h != (i.any λx=>decide (x.1=d)))) H
theorem yN{k:Nat}(E:aV k X.A):bX X (.builtin "sorted") (MP X.K):=by
 intro i s L H xs us Q I r h;obtain⟨a,j,rfl,ha,Y,⟨b,h0⟩,hc,W,q⟩:=h;obtain⟨u,rfl,ru⟩:=vals1 r;cases ru;obtain⟨m,O,⟨o,n,e,v,hd,t⟩,_⟩:=I.list ha;have ei:m=j.map λk=>Value.ref k.2:=dB (λk:yam×Addr=>k.2) O;subst ei;refine gR (b:=b) (R:=λx=>∃h1,x={s with heap:=h1}) E.hd (λy C=>?_) hc W (by have:=E.units;lia) (λZ hQ=>collect_list (vs:=j.map λk=>Value.ref k.2) ⟨o,e,v,n,t⟩ (hQ _ j (λb o e=>?_) ⟨_,rfl⟩ (.refl _)) (by rw[zbK,yaf];lia)) λx h2 out c hR k1 l g F U=>?_
 ·obtain⟨k1,l,S⟩:=Y y C;exact⟨I.key k1 l S,h0 y C⟩
 ·have P:=zcH e;exact(zar _ _ (zcA P)).trans (zaq _ e)
 ·obtain⟨h1,rfl⟩:=hR;have G:Inv X i L H {s with heap:=h1}:=I.kept (t':=s.toks) k1;refine⟨.ref h1.objs.size,_,G.laid (a:=h1.objs.size) (t':=s.toks) (o:=.lst (out.map λk=>V.ref k.2)) l (zcK _) ⟨by rw[zbK,F.length_eq,yaf];lia,_,c,ef (λk=>k.2) out,g⟩,rfl,q _ out (G.hok.fresh (zcK _)) F U⟩
theorem vY{k:Nat}(F:aV k X.A):bX X (.builtin "sorted") IA:=by
 intro j s C H W Y Q I r h;obtain⟨a,m,E,rfl,e,L,P,q⟩:=h;obtain⟨u,rfl,ru⟩:=vals1 r;cases ru;obtain⟨lo,hz,v,ep,O,l⟩:=x6 I e;have Z:v.size=m.length:=by have:=l.length;simpa using this.symm
 rw[L] at l;have G:v.size=E.length:=by have:=l.length;simpa using this.symm
 refine M5.uz F.hd lo O (zz l) (by lia) λh1 h2 tk out i c t n g U x S=>?_;have y:Inv X j C H {s with heap:=h1,toks:=tk}:=I.kept (t':=tk) t;refine⟨.ref h1.objs.size,_,y.laid (a:=h1.objs.size) (t':=tk) (o:=.lst (i.map V.str)) n (zcK _) ⟨by rw[zbK,x.length_eq];lia,out,c,M.qk U,g⟩,rfl,q _ i (y.hok.fresh (zcK _)) x S⟩
theorem rF(d:yam):∀ks:List (yam×Addr),(atKey (ks.map λx=>(x.1,x.2,Value.bool true)) d).isSome=(ks.any λx=>decide (x.1=d))
 |[]=>rfl
 |x::xs=>by
  have a:=rF d xs;unfold atKey at a⊢;rw[zbo] at a⊢;rw[zcj,zbO,zck];by_cases h:x.1=d
  ·simp[h]
  ·simp only[h,decide_false,Bool.false_or];exact a
theorem Nj{k:Nat}(P:aV k X.A):fE X (yan .In) (SW X.K X.w false):=by
 intro m s σ H y x v u Q I C E h;obtain⟨a,t,b,i,d,rfl,rfl,e,W,h1,h2,Y,q⟩:=h;obtain rfl:u=Value.ref a:=E;obtain rfl:v=Value.ref b:=C;have n:=(show bg X.prog X.w H s.heap a (.ext (lO X.w t i)) from I.hok a _ e)
 obtain rfl:=j9 n;obtain⟨⟨z,o,Z,ep,S,O,hd,l,U⟩,_,_⟩:=n;have dd:Heap.DictOfH (eY X.prog X.w) s.heap t (i.map λx=>(x.1,x.2,Value.bool true)):=by
  refine⟨o,Z,ep,S,O,hd,?_,λx j=>?_,?_⟩
  ·rw[l,zcv];rfl
  ·obtain⟨y,L,rfl⟩:=zcw.mp j;obtain⟨k1,G,F⟩:=W y L;exact I.key k1 G F
  ·rw[zcv];exact U
 have hu:=P.units;refine wpAny_in_heap (knd:=eY X.prog X.w) (show X.A.units+1+10<cLine by lia) (I.key h1 h2 Y) z dd ?_;rw[rF d i];exact⟨.bl (i.any λx=>decide (x.1=d)),H,I.tok _,rfl,by simpa using q⟩
theorem Cz:bX X (.builtin "len") (QA X.w):=by
 intro m s C H E F Q I r h;obtain⟨a,y,i,rfl,e,L,q⟩:=h;obtain⟨u,rfl,ru⟩:=vals1 r;cases ru;have n:=(show bg X.prog X.w H s.heap a (.ext (lO X.w y i)) from I.hok a _ e)
 obtain rfl:=j9 n;obtain⟨⟨z,o,x,O,v,t,hd,l,G⟩,_,_⟩:=n;have j:x.size=i.length:=by have:=congrArg zcJ l;simpa using this
 refine zaj kind_len plain_len entry_len (args_len1 _) (M5.Ce z ⟨o,v,t,hd⟩ (by lia) ?_);rw[j];exact⟨.int i.length,H,I.tok _,⟨_,rfl⟩,q⟩
end L2
namespace M
open PySem PySem.Spec PyProof.Rows L2 M6
theorem Ue{k:Nat}(F:Hg K x qual st f fd)(S:av N ps (ah st))(len:∀ds S Q,sp ds S Q->ds.length=ps.length)(j:∀(f:Addr)(i:yai)(A:yal)(outer:List Env)(s:yah)(H:Hp)(E:XK),aV k (A.deeper (PyProof.Rows.envOfC qual (ah st) s.heap.objs.size f i))->∃a,C2 (kj m5 P w K mg base N qual (ah st) f i A outer s H E).Ht (bE st) a/\∀ds S Q,sp ds S Q->a {nx:=λ_ m=>Q (.dat .bD) m,rt:=Q} (aH N ds) S):dS P w K mg base m5 (k+1) f fd ps (au K sp):=
 F.ok S (λvs H Q E h=>by
  obtain⟨w,ds,S,n,ok,rep,q,bk⟩:=h;rw[rep.length];exact len ds S n q) λi A outer s H vs Q E u h=>by
  obtain⟨a,v,hd⟩:=j f i A outer s H E u;obtain⟨w,ds,S,n,ok,rep,q,bk⟩:=h;refine⟨_,v.p,w,aH N ds,S,_,ok,i7 rep,hd ds S n q,⟨λG m C o y le l env t=>?_,bk,λ_ _ _ _ _ _ _ _ z=>z.elim,λ_ _ _ _ _ _ _ _ z=>z.elim⟩⟩;exact bk (.dat .bD) m .bD o y le l (show Rep K o .bD .bD from .bD) t
theorem o9{m:Str}{k:Nat}(F:tY K C m qual ps st)(S:av N ps (ah st))(len:∀ds S Q,sp ds S Q->ds.length=ps.length)(h:∀(f:Addr)(i:yai)(A:yal)(outer:List Env)(s:yah)(H:Hp)(E:XK),aV k (A.deeper (PyProof.Rows.envOfC qual (ah st) s.heap.objs.size f i))->∃a,C2 (kj m5 P w K mg base N qual (ah st) f i A outer s H E).Ht (bE st) a/\∀ds S Q,sp ds S Q->a {nx:=λ_ n=>Q (.dat .bD) n,rt:=Q} (aH N ds) S):iS P w K mg base (k+1) C m ps sp:=by
 obtain⟨f,fd,F,j,l⟩:=F.ex;exact⟨f,fd,Ue F S len h,j,l⟩
theorem Rr{k:Nat}(F:Src K mg x ps st)(S:av N ps (ah st))(len:∀ds S Q,sp ds S Q->ds.length=ps.length)(j:∀(f:Addr)(i:yai)(A:yal)(outer:List Env)(s:yah)(H:Hp)(E:XK),aV k (A.deeper (PyProof.Rows.envOfC x (ah st) s.heap.objs.size f i))->∃a,C2 (kj m5 P w K mg base N x (ah st) f i A outer s H E).Ht (bE st) a/\∀ds S Q,sp ds S Q->a {nx:=λ_ m=>Q (.dat .bD) m,rt:=Q} (aH N ds) S):Def P w K mg base (k+1) x ps (au K sp):=
 F.def S (λvs H Q E h=>by
  obtain⟨w,ds,S,n,ok,rep,q,bk⟩:=h;rw[rep.length];exact len ds S n q) λf i A outer s H vs Q E u h=>by
  obtain⟨a,v,hd⟩:=j f i A outer s H E u;obtain⟨w,ds,S,n,ok,rep,q,bk⟩:=h;refine⟨_,v.p,w,aH N ds,S,_,ok,i7 rep,hd ds S n q,⟨λG m C o y le l env t=>?_,bk,λ_ _ _ _ _ _ _ _ z=>z.elim,λ_ _ _ _ _ _ _ _ z=>z.elim⟩⟩;exact bk (.dat .bD) m .bD o y le l (show Rep K o .bD .bD from .bD) t
section
variable {o:Expr}{es:List Expr}{k:Nat}{m:Str}
theorem om(MK:Mk X.K C f)(F:dS X.prog X.w X.K X.mg X.base m5 k f fd ps (au X.K sp))(W:Binds X.K fd ps [])(O:aV (k+1) X.A)(U:Gl X x)(P:X.mg x=some (.ref C))(E:(x==("__debug__":Str))=false:=by decide+kernel):GE X (.Call (.Name x p) [] [] pos) (Lv C sp jE):=by
 refine⟨mE (L2.om MK F O U P W .nil Ad E) λσ H Q h=>?_⟩;obtain⟨w,δ,S,Qa,ok,env,q,bk⟩:=h;refine λa G L nd ne=>?_;have s:(upd H G (HO.own a)) a=none:=by rw[aP (Ne.symm ne)];exact L
 have l:=(ok.alloc (o:=.own a) nd)
 obtain⟨I,y,u,i⟩:=store (l.alloc (o:=.ins C G []) s) (l.fresh s (m:=.ins C [] []) ⟨G,[],rfl,rfl,.nil⟩);refine⟨I,_,_,_,u,by rw[zbL];exact .cons i .nil,q,λr S2 v w3 H3 n t j ⟨Z,q4⟩=>?_⟩;subst Z;have Y:=Iw j rfl;exact⟨Y,bk.dat (y.trans n) t (i.le n) q4⟩
structure Lw(ks:List D):Prop where
 good:∀k∈ks,cX k
 fst:∀k∈ks,∃p r,py k=PyData.tuple (.str p::r)
 cmp:∀k∈ks,∀l∈ks,bK (py k) (py l)=true
def Pk(ks:List D):Prop:=ks.Pairwise (λx y=>fJ (py y) (py x)=false)
def OS:AN:=λi S Q=>∃d h,i=[d]/\aT S d=.lst h/\Lw h/\h.length<64/\∀a:List D,a.Perm h->Pk a->Q (.new (.lst a)) S
def Gk:AN:=λi S Q=>∃d h b,i=[d]/\aT S d=.lst h/\(∀k∈h,cX k)/\(∀k∈h,∃p r,Fs b p/\py k=PyData.tuple (p::r))/\(∀k∈h,∀l∈h,bK (py k) (py l)=true)/\h.length<64/\∀a:List D,a.Perm h->Pk a->Q (.new (.lst a)) S
def Ke:AN:=λi S Q=>∃d es,∃h:List Str,i=[d]/\aT S d=.dct (h.map Sum.inr) es/\h.length<64/\∀a:List Str,a.Perm h->sortedS a=true->Q (.new (.lst (a.map D.str))) S
def RN(W:yak):AN:=λh S Q=>∃n a,h=[.loc n]/\S[n]? =some (some (nO W a))/\a.length<=1000/\Q (.dat (.int a.length)) S
noncomputable def FG(ks:List D)(k:D):Bool:=ks.any λj=>decide (py j=py k)
def TN(W:yak)(a:Bool):A2:=λx y S Q=>∃n h,y=.loc n/\S[n]? =some (some (nO W h))/\cX x/\(∀k∈h,cX k)/\Q (.dat (.bl (a != FG h x))) S
theorem iT{ks:List D}{bs:List Addr}(a:ks.length=bs.length):(∀x∈(ks.map py).zip bs,∃k∈ks,x.1=py k)/\(ks.map py).zip bs=(ks.zip bs).map (λx=>(py x.1,x.2))/\((ks.map py).zip bs).map (λk=>V.ref k.2)=bs.map V.ref/\((ks.map py).zip bs).map (·.1)=ks.map py:=by
 refine⟨λx h=>?_,by rw[List.zip_map_left];rfl,?_,zbB (by rw[zbK];lia)⟩
 ·obtain⟨k,i,e⟩:=zcw.mp (zbN h).1;exact⟨k,i,e.symm⟩
 ·have:((ks.map py).zip bs).map (·.2)=bs:=List.map_snd_zip (by rw[zbK];lia);rw[<-this,zcv,this];rfl
theorem BK{w:Wd}{ks:List D}{bs:List Addr}{u:AK}{Q:VK}(ok:Ok K w H S)(s:aq K w ks (bs.map V.ref))(bk:dY K w u Q)(q:∀h:List D,h.Perm ks->Pk h->u (.new (.lst h)) S):
  ∀(p:Addr)(out:List (yam×Addr)),H p=none->out.Perm ((ks.map py).zip bs)->out.Pairwise (λx y=>fJ y.1 x.1=false)->Q (.ref p) (upd H p (.lst (out.map λk=>V.ref k.2))):=by
 intro p out t a i;have j:ks.length=bs.length:=by have:=s.length;rw[zbK] at this;exact this.symm
 obtain⟨_,C,_,_⟩:=iT j;rw[C] at a;obtain⟨l,n,rfl⟩:=cK a;have E:(zcT (λk:yam×Addr=>V.ref k.2) (l.map λx=>(py x.1,x.2)))=l.map λx=>V.ref x.2:=by rw[zcv];rfl
 rw[E];refine bk (.new (.lst (l.map (·.1)))) S _ w _ .refl (ok.alloc t) (ok.fresh t ⟨_,rfl,dF λx v=>m6 s x (n.mem_iff.mp v)⟩) (q _ ?_ ?_)
 ·have:=n.map (·.1);rw[zbB (by lia)] at this;exact this
 ·show(l.map (·.1)).Pairwise _;rw[zbg] at i⊢;exact i
theorem Ah(L:aV j X.A):rK X (.builtin "sorted") Gk:=⟨mC (yN L) λE H Q h=>by
 obtain⟨w,ds,S,Qa,ok,rep,⟨d,u,b,rfl,z,C,P,O,Y,q⟩,bk⟩:=h;obtain⟨v,rfl,F⟩:=eS rep;obtain⟨a,E,rfl,h1,h2⟩:=br ok F z;obtain⟨bs,rfl⟩:=lC h2 λk l=>(C k l).2.2.2;have i:u.length=bs.length:=by have:=h2.length;rw[zbK] at this;exact this.symm
 obtain⟨n,Z,U,e2⟩:=iT i;refine⟨a,(u.map py).zip bs,rfl,by rw[U];exact cF.of h1,fS ok h2 C,⟨b,λx s=>?_⟩,λx s y I=>?_,by rw[zbU,zbK];lia,BK ok h2 bk q⟩
 ·obtain⟨k,l,e⟩:=n x s;rw[e];exact P k l
 ·obtain⟨k,l,e⟩:=n x s;obtain⟨G,t,W⟩:=n y I;rw[e,W];exact O k l G t⟩
theorem IW(i:aV j X.A):rK X (.builtin "sorted") OS:=⟨mC (Ah i).p λt H Q h=>by
 obtain⟨w,u,S,s,ok,rep,⟨d,a,rfl,z,g,l,q⟩,bk⟩:=h;refine⟨w,_,S,s,ok,rep,⟨d,a,true,rfl,z,g.good,λk n=>?_,g.cmp,l,q⟩,bk⟩;obtain⟨p,r,e⟩:=g.fst k n;exact⟨_,r,.inr ⟨rfl,p,rfl⟩,e⟩⟩
theorem Nz{w:Wd}{W:yak}{ks:List D}(ok:Ok K w H S)(r:Rep K w (.loc n) v)(z:S[n]? =some (some (nO W ks))):
  ∃(a h:Addr)(bs:List Addr),v=.ref a/\H a=some (.ext (lO W h ((ks.map py).zip bs)))/\aq K w ks (bs.map V.ref)/\ks.length=bs.length:=by
 simp only[Rep] at r;obtain⟨a,l,rfl⟩:=r;obtain⟨s,u,k1,q,j,h,bs,rfl,i⟩:=ok.live n _ z;rw[l] at k1;cases k1;exact⟨a,h,bs,rfl,j,i,by have:=i.length;rw[zbK] at this;exact this.symm⟩
theorem E4(u:aV j X.A):rK X (.builtin "sorted") Ke:=⟨mC (vY u) λF H Q h=>by
 obtain⟨w,I,S,L,ok,rep,⟨d,es,s,rfl,z,y,q⟩,bk⟩:=h;obtain⟨v,rfl,t⟩:=eS rep;obtain⟨a,i,rfl,h1,h2,G⟩:=ff ok t z;refine⟨a,i,s,rfl,h1,?_,y,λp l n E C=>bk (.new (.lst _)) S _ w _ .refl (ok.alloc n) (ok.fresh n ⟨_,rfl,jS l⟩) (q l E C)⟩;have:(i.map λx=>kV x.1)=(i.map (·.1)).map kV:=by rw[zcv];rfl
 rw[this,h2,zcv];rfl⟩
theorem Nr:rK X (.builtin "len") (RN X.w):=⟨mC Cz λu H Q h=>by
 obtain⟨w,C,S,E,ok,rep,⟨n,i,rfl,z,y,q⟩,bk⟩:=h;obtain⟨v,rfl,l⟩:=eS rep;obtain⟨a,t,bs,rfl,s,x,j⟩:=Nz ok l z;have e:((i.map py).zip bs).length=i.length:=by rw[zbU,zbK];lia
 refine⟨a,t,_,rfl,s,by lia,?_⟩;rw[e];exact bk.dat .refl ok .int q⟩
theorem QT(E:aV j X.A):mH X (yan .In) (TN X.w false):=⟨m2 (Nj E) λx y H Q h=>by
 obtain⟨w,d,e,S,W,ok,u,t,⟨n,l,rfl,z,s,G,q⟩,bk⟩:=h;obtain⟨a,L,bs,rfl,C,v,i⟩:=Nz ok t z;obtain⟨b,rfl,F⟩:=oY ok u s;obtain⟨O,P,U,I⟩:=iT i;refine⟨a,L,b,_,py d,rfl,rfl,C,fS ok v G,s.2.1,s.2.2.1,F,bk.dat .refl ok .bl ?_⟩;have:(((l.map py).zip bs).any λx=>decide (x.1=py d))=FG l d:=by
  have h1:(((l.map py).zip bs).any λx=>decide (x.1=py d))=((((l.map py).zip bs).map (·.1)).any λz=>decide (z=py d)):=by rw[zcu];rfl
  rw[h1,I,zcu];rfl
 rw[this];exact q⟩
end
end M
namespace L2
open PySem PySem.Spec PyProof.Rows M6
theorem l5:∀{a:List V}{us:List yai},a.length=us.length->(∀(k:Nat)(x:V)(u:yai),a[k]? =some x->us[k]? =some u->RelV x u)->Vals a us
 |[],[],_,_=>.nil
 |[],_::_,h,_=>by simp at h
 |_::_,[],h,_=>by simp at h
 |x::a,u::us,h,g=>.cons (g 0 x u rfl rfl) (l5 (by simpa using h) λk y v h1 h2=>g (k+1) y v (by simpa using h1) (by simpa using h2))
def Dt(l:TA):TE:=λh H Q=>l h H λvs a=>∃i j:Int,vs=[.int i,.int j]/\-(2 ^ 60)<=i/\i<2 ^ 60/\i<=j/\j<=i+1000/\∀p,a p=none->Q (.ref p) (upd a p (.lst ((zcO (j - i).toNat).map λk:Nat=>V.int (i+k))))
section
variable {a b:Expr}{ta:TA}
theorem oj(hc:X.calm=true)(hg:Gl X "list")(hm:X.mg "list"=none)(U:Gl X "range")(S:X.mg "range"=none)(ha:PA X [a,b] ta)(hs:yao [a,b] X.env=[(false,eval a X.env),(false,eval b X.env)]:=by rfl)(G:yao [b] X.env=[(false,eval b X.env)]:=by rfl):
  PE X (.Call (.Name "list" p) [.Call (.Name "range" p2) [a,b] [] pos2] [] pos) (Dt ta):=by
 intro C s Y H Q I h;refine wpAny_Call_Name_kw (cu I hg hm boot_list ?_ (by decide+kernel) (by decide+kernel));refine PyProof.Rows.callWith_type1 (E:=X.xe) ?_ (aO [] X.env rfl) rfl;rw[aO [] X.env rfl];refine zaX ?_;refine Call_ (cu I U S boot_range (PyProof.Rows.callWith_type1 (bT (ha pos2 C s Y H _ I h) λus l O=>?_) (by rw[hs,G]) (by rw[G];rfl)));obtain⟨vs,H1,W,Z,q1⟩:=O;obtain⟨i,j,e,n1,n2,n3,n4,q⟩:=q1;subst e;cases Z with
 |cons r rr=>
  cases rr with
  |cons r' rr=>
   cases rr;obtain⟨t,rfl⟩:=r;obtain⟨t',rfl⟩:=r';refine call_range_2 ?_;refine zbp ?_;have hz:(j - i).toNat<=1000:=by lia
   refine call_list_range (s:={l with heap:=l.heap.push _,toks:=_}) (n:=(j - i).toNat) (W.ok.hd hc) (IsRange.new ..) (small_one (by lia) (by lia) (by lia) (by lia)) (by rw[rangeSize_one];split<;>lia) (by lia) λh' tk L c kp g v=>?_;have P:∀b o,l.heap.get? b=some o->h'.get? b=some o:=λb o e=>kp b o (zaq _ e);have F:∀o:Obj,(l.heap.push o).objs.size=l.heap.objs.size+1:=λo=>zch ..;have ev:Vals ((zcO (j - i).toNat).map λk:Nat=>V.int (i+k)) L.toList:=by
    refine l5 (by rw[zbK,zbe,zaJ,v.1]) λk x u y hu=>?_;rw[zba] at y;cases e:(zcO (j - i).toNat)[k]? with
    |none=>rw[e] at y;cases y
    |some m=>
     rw[e] at y;obtain⟨_,rfl⟩:=zad.mp e;rw[zaP] at y;obtain rfl:=zcN.inj y;obtain⟨tk,rfl⟩:=v.2 k u (by simpa using hu);exact⟨tk,by simp⟩
   refine⟨.ref (l.heap.push {cls:=.type "range",data:=.fields #[.int i t,.int j t',.int 1 l.toks]}).objs.size,_,W.laid (a:=(l.heap.push {cls:=.type "range",data:=.fields #[.int i t,.int j t',.int 1 l.toks]}).objs.size) (t':=tk) (o:=.lst ((zcO (j - i).toNat).map λk:Nat=>V.int (i+k))) P (by rw[F];exact zcM _) ⟨by rw[zbK,zbe,yaf];lia,L.toList,c,ev,by rw[zaC];exact g⟩,rfl,q _ (W.hok.fresh (by rw[F];exact zcM _))⟩
end
def MR(W:yak):List V->Hp->VK->Prop:=λi H Q=>∃(a j:Addr)(h:List (yam×Addr)),i=[.ref a]/\H a=some (.ext (lO W j h))/\h.length<=1000/\∀p,H p=none->Q (.ref p) (upd H p (.lst (h.map λk=>V.ref k.2)))
section
variable {o i k v:Expr}{td ty tv tk:TE}
theorem yQ{k:Nat}(F:aV k X.A):bX X (.type "list") (MR X.w):=by
 intro x s S H U Y Q I r h;obtain⟨a,P,j,rfl,e,hz,q⟩:=h;obtain⟨u,rfl,ru⟩:=vals1 r;cases ru;have y:=(show bg X.prog X.w H s.heap a (.ext (lO X.w P j)) from I.hok a _ e)
 obtain rfl:=j9 y;obtain⟨⟨z,o,t,ep,G,E,hd,n,Z⟩,_,_⟩:=y;have C:t.toList.map (·.key)=j.map λk=>Value.ref k.2:=by rw[n,zcv];rfl
 have L:t.size=j.length:=by have:=congrArg zcJ C;simpa using this
 refine W.kdl_call (L3 z) F.hd ⟨o,G,E,hd⟩ (by rw[L,yaf];lia) λh' tk m c kp g l=>?_;have O:m.toList=t.toList.map (·.key):=vB l;refine⟨.ref s.heap.objs.size,_,I.laid (a:=s.heap.objs.size) (t':=tk) (o:=.lst (j.map λk=>V.ref k.2)) kp (zcK _) ⟨by rw[zbK,yaf];lia,m.toList,c,by rw[O,C];exact ef (λk=>k.2) j,by rw[zaC];exact g⟩,rfl,q _ (I.hok.fresh (zcK _))⟩
end
end L2
namespace M
open PySem PySem.Spec PyProof.Rows L2 M6
def zd(a:AA):AE:=λh S Q=>a h S λl m=>∃i j:Int,l=[.int i,.int j]/\-(2 ^ 60)<=i/\i<2 ^ 60/\i<=j/\j<=i+1000/\Q (.new (.lst ((zcO (j - i).toNat).map λk:Nat=>D.int (i+k)))) m
theorem Ih{a:AA}:∀n H Q,aS K (zd a) n H Q->Dt (ko K a) n H Q:=by
 rintro n H Q ⟨w,u,S,U,ok,env,q,bk⟩;refine⟨w,u,S,_,ok,env,q,λP I vs v W s m h o=>?_⟩;obtain⟨i,j,hd,G,F,E,C,y⟩:=o;subst hd;simp only[aq,Rep] at h;obtain⟨x,r,rfl,rfl,L,O,rfl,rfl,rfl⟩:=h;refine⟨i,j,rfl,G,F,E,C,λp t=>bk (.new (.lst _)) I _ v _ s (m.alloc t) (m.fresh t ⟨_,rfl,?_⟩) y⟩;generalize zcO (j - i).toNat=l
 induction l with
 |nil=>exact .nil
 |cons k l ih=>exact .cons .int ih
def OZ(W:yak):AN:=λh S Q=>∃n a,h=[.loc n]/\S[n]? =some (some (nO W a))/\a.length<=1000/\Q (.new (.lst a)) S
section
variable {o i k v a b:Expr}
theorem oj{m:AA}(t:X.calm=true)(s:Gl X "list")(q:X.mg "list"=none)(l:Gl X "range")(j:X.mg "range"=none)(u:GA X [a,b] m)(n:yao [a,b] X.env=[(false,eval a X.env),(false,eval b X.env)]:=by rfl)(h:yao [b] X.env=[(false,eval b X.env)]:=by rfl):
  GE X (.Call (.Name "list" p) [.Call (.Name "range" p2) [a,b] [] pos2] [] pos) (zd m):=⟨mE (L2.oj t s q l j u.p n h) Ih⟩
theorem IZ(y:aV j X.A):rK X (.type "list") (OZ X.w):=⟨mC (yQ y) λF H Q h=>by
 obtain⟨w,I,S,L,ok,rep,⟨n,t,rfl,z,G,q⟩,bk⟩:=h;obtain⟨v,rfl,s⟩:=eS rep;obtain⟨a,E,bs,rfl,x,u,l⟩:=Nz ok s z;obtain⟨_,_,C,_⟩:=iT l;refine⟨a,E,_,rfl,x,by rw[zbU,zbK];lia,λp m=>?_⟩;rw[C];exact bk (.new (.lst t)) S _ w _ .refl (ok.alloc m) (ok.fresh m ⟨_,rfl,u⟩) q⟩
end
end M
namespace M13
open PySem PySem.Spec PyProof.Rows M5 M7
theorem Cq:entryFor table "set.__and__"=some Builtin.«frozenset.__and__»:=
 entryFor_alias (id':="frozenset.__and__") (by kernel_rfl) rfl (by decide+kernel) (by kernel_rfl)
theorem FN{S:List Int}{x:Int}{tk:Tok}{Q:Option Nat->yah->Prop}(U:gH prog w s.heap a S)(W:S.length<4000)(h:∀r:Option Nat,r.isSome=decide (x∈S)->Q r s):yar (model prog w) A (setFind a (.int x tk) ((PySem.intKind prog w).hash x)) Q E s:=by
 obtain⟨o,v,l,X,t,O,hd,i,q,G,C,I⟩:=U;have y:l.size=S.length:=by rw[<-q.length_eq,zbK,zaJ]
 have P:l.size<scanBound:=by show l.size<4096;lia
 unfold setFind setFindIn;refine yaa (wpAny_setState_of v hd G ?_);dsimp only;rw[byScan_of (x:=.int x tk) rfl P i];simp only[↓reduceIte];refine yaa (wpAny_rule ?_);refine yaa (wpAny_setScan_of (k:=x) (Js x tk) v hd G i ?_);cases u:List.findIdx? (λe=>(PySem.intKind prog w).is x e.2) l.toList with
 |none=>
  dsimp only;refine yab (h none ?_);rw[yDf λm=>?_];rfl;obtain⟨e,H,z⟩:=zcw.mp (q.mem_iff.mpr m);obtain⟨⟨k,F,_⟩,_⟩:=i e H;rw[sW F] at z;subst z;have:=List.findIdx?_eq_none_iff.mp u e H;rw[F] at this;cases this
 |some j=>
  obtain⟨L,n,_⟩:=List.findIdx?_eq_some_iff_getElem.mp u;have m:x∈S:=q.mem_iff.mp (zcw.mpr ⟨_,zby L,sW n⟩);dsimp only;refine yab (h (some (0+j)) ?_);rw[yDt m];rfl
theorem BP{l:List Addr}(I:∀a∈l,∃S,gH prog w s.heap a S){Q:Bool->yah->Prop}(h:Q true s):yar (model prog w) A (setsQuiet l) Q E s:=by
 unfold setsQuiet;refine yaa ?_;refine wpAny_forIn_list _ (λrest b n=>n=s/\b=⟨none,()⟩/\∀a∈rest,a∈l) _ (λa rest b n F=>?_) (λb n F=>?_) _ _ ⟨rfl,rfl,λa h=>h⟩
 ·obtain⟨rfl,rfl,G⟩:=F;obtain⟨S,o,H,U,Y,t,P,hd,u,W,O,_⟩:=I a (G a (by simp));refine yaa (wpAny_setEntries_of H hd O ?_);refine yaa ?_;refine wpAny_forIn_array' _ (λi b j=>j=n/\b=⟨none,()⟩/\∀e∈i,e∈U.toList) _ (λe i b j C=>?_) (λb j C=>?_) _ _ ⟨rfl,rfl,λa h=>h⟩
  ·obtain⟨rfl,rfl,m⟩:=C;obtain⟨⟨k,L,_⟩,_⟩:=u e (m e (by simp));obtain⟨tk,y⟩:=Value.isInt_shape L;obtain⟨X,v⟩:=e;have y:v=.int k tk:=y;subst y;dsimp only;exact yab ⟨rfl,rfl,λx q=>m x (zay _ q)⟩
  ·obtain⟨rfl,rfl,_⟩:=C;exact yab ⟨rfl,rfl,λx q=>G x (zay _ q)⟩
 ·obtain⟨rfl,rfl,_⟩:=F;exact yab h
theorem ty_int{S:List Int}(h:gH prog w s.heap a S):s.TypeIs (.ref a) "set":=by obtain⟨o,j,_,_,_,i,_⟩:=h;exact⟨o,j,i.1⟩
theorem ug{b r:Addr}{S T U:List Int}{Q:Array (Int×yai)->yah->Prop}(ha:gH prog w s.heap a S)(hb:gH prog w s.heap b T)(O:gH prog w s.heap r U)(hne:a≠r)(hU:U.length<4000)(h:∀(l:Array (Int×yai))(h':Heap),Heap.SameBut r s.heap h'->gH prog w h' r U->ElemsOf (PySem.intKind prog w) l.toList->(l.toList.map λe=>intOf e.2).Perm S->Q l {s with heap:=h'}):
  yar (model prog w) A (setWalkUnseen a [b,r] (some r)) Q E s:=by
 have W:=ha;obtain⟨o,ho,j,ep,t,hex,hd,L,hp,hf,i,hpl⟩:=ha;have hw:∀{X:Array (Int×yai)->yah->Prop},((w.params.followText "set-order")||(t.led&&t.plain)||decide (j.size<=1))=true->(∀l:Array (Int×yai),l.toList.Perm j.toList->X l s)->yar (model prog w) A (setWalk a) X E s:=by
  intro X y q;unfold setWalk;refine yaa (wpAny_setState_of ho hd hf ?_);dsimp only;refine yaa (gz ?_);cases P:w.params.followText "set-order" with
  |true=>
   rw[yIp rfl];refine yaa (wpAny_askSetting (yab ?_));exact q _ (qC _ _)
  |false=>
   rw[P] at i y;have F:t.led=true:=i;have y:t.plain=true∨j.size<=1:=by simpa[F] using y
   rw[yIn (by decide)];have e1:(!t.plain&&decide (j.size> 1))=false:=by
    rcases y with z|z
    ·rw[z];rfl
    ·simp;lia
   show yar _ _ (if(!t.plain&&decide (j.size> 1))=true then _ else _) _ _ _;rw[e1,yIn (by decide)];refine yaa ?_;show yar _ _ (if(!t.led&&decide (j.size> 1))=true then _ else _) _ _ _;rw[F,yIn (by simp)];exact yab (yab (q _ .rfl))
 have Y:∀l:Array (Int×yai),l.toList.Perm j.toList->Q l s:=λl F=>h l s.heap (Heap.SameBut.refl _ _) O (L.perm F) ((F.map _).trans hp);unfold setWalkUnseen;refine yaa (wpAny_setState_of ho hd hf ?_);dsimp only;refine yaa (gz ?_);cases y:((w.params.followText "set-order")||(t.led&&t.plain)||decide (j.size<=1)) with
 |true=>rw[yIp rfl];exact hw y Y
 |false=>
  rw[yIn (by decide)];refine yaa (BP (λx Z=>?_) ?_)
  ·simp only[zci,zbA,or_false] at Z;rcases Z with rfl|rfl|rfl
   ·exact⟨_,W⟩
   ·exact⟨_,hb⟩
   ·exact⟨_,O⟩
  rw[yIn (by decide)];refine yaa (wpAny_rule ?_);obtain⟨o2,n,v,ep2,t2,H,u,I,C,G,Ax,m⟩:=O;refine yaa (wpAny_setState_of n u G ?_);dsimp only;have hs2:v.size<4000:=by
   have:=C.length_eq;rw[zbK,zaJ] at this;lia
  split
  ·refine yaa (wpAny_storeSet_of n u ?_ (by rw[yaf];lia));refine yab (h j _ (Heap.SameBut.update s.heap r _) ⟨_,jH v _ n u,v,_,_,H,rfl,I,C,G,?_,m.1,?_⟩ L hp)
   ·show(t2.led&&t.led)=_;rw[Ax,i,zcq]
   ·intro z;exact m.2 (Bool.and_eq_true_iff.mp z).1
  ·exact yab (Y j .rfl)
theorem tR{v:Addr}{Q:Bool->yah->Prop}(a:s.TypeIs (.ref v) "set")(h:Q true s):yar (model prog w) A (Builtin.Frozenset.isAnySet (.ref v)) Q E s:=by
 unfold Builtin.Frozenset.isAnySet;refine yaa (wpAny_isInstance a PySem.F.sub_set_set ?_);exact yab h
theorem Gb{v:Addr}(a:s.TypeIs (.ref v) "set")(h:Q (.type "set") s):yar (model prog w) A (Builtin.Frozenset.baseOf v) Q E s:=by
 unfold Builtin.Frozenset.baseOf;refine yaa (wpAny_isInstance a PySem.F.sub_set_set ?_);exact yab h
theorem uG{S:List Int}{Q:Nat->yah->Prop}(v:gH prog w s.heap a S)(h:Q S.length s):yar (model prog w) A (Builtin.Frozenset.sizeOf a) Q E s:=by
 obtain⟨o,m,x,y,t,q,hd,u,l,n,i,j⟩:=v;unfold Builtin.Frozenset.sizeOf;refine yaa (wpAny_setEntries_of m hd n (yab ?_));have:=l.length_eq;rw[zbK,zaJ] at this;rw[this];exact h
theorem vo{id:String}{b r:Addr}{S T:List Int}{l:Array (Int×yai)}{Q:PUnit->yah->Prop}(hel:ElemsOf (PySem.intKind prog w) l.toList)(X:(l.toList.map λe=>intOf e.2).Perm S)(hep:∃o es t,s.heap.get? a=some o/\o.data=.set es ep t/\t.fits es.size=true)(hb:gH prog w s.heap b T)(hr:gH prog w s.heap r [])(h1:a≠r)(h2:b≠r)(hS:S.length<4000)(hT:T.length<4000)(h:∀h' U,Heap.SameBut r s.heap h'->gH prog w h' r U->U.length<=S.length->(∀x,x∈U↔x∈S/\x∈T)->Q ⟨⟩ {s with heap:=h'}):
  yar (model prog w) A (forIn l PUnit.unit λ(p:Int×yai)(_:PUnit)=>do
   holding [p.2] do
    if(<-setFind b p.2 p.1).isSome then
     let _ <-setAddHashed r p.2 p.1
   Builtin.Frozenset.unchanged id a ep
   pure (ForInStep.yield PUnit.unit)) Q E s:=by
 refine wpAny_forIn_array' _ (λrest _ O=>∃(m:List (Int×yai))(h':Heap)(U:List Int),m++rest=l.toList/\O={s with heap:=h'}/\Heap.SameBut r s.heap h'/\gH prog w h' r U/\U.length<=m.length/\∀x,x∈U↔x∈(m.map λe=>intOf e.2)/\x∈T) _ (λe rest _ O hI=>?_) (λ_ O hI=>?_) _ _ ⟨[],s.heap,[],rfl,rfl,Heap.SameBut.refl _ _,hr,zcK _,by simp⟩
 ·obtain⟨m,h',U,F,rfl,sb,L,hl,C⟩:=hI;obtain⟨⟨k,hk,hh⟩,_⟩:=hel e (by rw[<-F];simp);obtain⟨tk,W⟩:=Value.isInt_shape hk;obtain⟨H,v⟩:=e;have W:v=.int k tk:=W;subst W;have hh:H=(PySem.intKind prog w).hash k:=hh;subst hh;have hdl:m.length<S.length:=by
   have h3:=congrArg zcJ F;have h4:=X.length_eq;rw[zbK] at h4;simp at h3;simp at h4;lia
  have hb':gH prog w h' b T:=hb.keep λo e=>by rw[sb.2 b h2];exact e
  have un:∀(i:Heap){Q':ForInStep PUnit->yah->Prop},Heap.SameBut r s.heap i->Q' (.yield ⟨⟩) {s with heap:=i}->yar (model prog w) A (do
    Builtin.Frozenset.unchanged id a ep
    pure (ForInStep.yield PUnit.unit)) Q' E {s with heap:=i}:=by
   intro i Q' j q;obtain⟨o,es,t,ho,hd,hf⟩:=hep;unfold Builtin.Frozenset.unchanged;refine yaa (yaa (wpAny_setEpoch_of (s:={s with heap:=i}) (o:=o) (by show i.get? a=_;rw[j.2 a h1];exact ho) hd hf ?_));rw[yIn (by simp)];exact yab (yab q)
  have nx:∀(i:Heap)(I:List Int),Heap.SameBut r s.heap i->gH prog w i r I->I.length<=m.length+1->(∀x,x∈I↔x∈(m.map λe=>intOf e.2)++[k]/\x∈T)->∃(m:List (Int×yai))(H:Heap)(U:List Int),m++rest=l.toList/\({s with heap:=i}:yah)={s with heap:=H}/\Heap.SameBut r s.heap H/\gH prog w H r U/\U.length<=m.length/\∀x,x∈U↔x∈(m.map λe=>intOf e.2)/\x∈T:=λi I j y Y P=>
   ⟨m++[((PySem.intKind prog w).hash k,.int k tk)],i,I,by rw[zbc];exact F,rfl,j,y,by rw[zaM];exact Y,λx=>by rw[zbS];exact P x⟩
  refine yaa (yad (yaa (FN (s:={s with heap:=h'}) hb' hT λr' G=>?_)));cases n:decide (k∈T) with
  |true=>
   rw[G,yIp n];refine yaa (add_int (s:={s with heap:=h'}) L (by lia) λ_ i j y=>yab ?_);refine un i (sb.trans j) (nx i _ (sb.trans j) y (zcy (wj ..) (by lia)) λx=>?_);have Z:=of_decide_eq_true n;unfold lV;split
   ·next hm=>
    rw[C,zbJ];constructor
    ·exact λz=>⟨.inl z.1,z.2⟩
    ·rintro⟨z|z,u⟩
     ·exact⟨z,u⟩
     ·rw[zaO.mp z];exact(C k).mp hm
   ·rw[zbJ,zbJ,C];constructor
    ·rintro(z|z)
     ·exact⟨.inl z.1,z.2⟩
     ·rw[zaO.mp z];exact⟨.inr (by simp),Z⟩
    ·rintro⟨z|z,u⟩
     ·exact .inl ⟨z,u⟩
     ·exact .inr z
  |false=>
   rw[G,yIn (by rw[n];decide)];refine yab (un h' sb (nx h' U sb L (by lia) λx=>?_));rw[C,zbJ];constructor
   ·exact λz=>⟨.inl z.1,z.2⟩
   ·rintro⟨z|z,u⟩
    ·exact⟨z,u⟩
    ·rw[zaO.mp z] at u;exact absurd u (of_decide_eq_false n)
 ·obtain⟨m,h',U,F,rfl,sb,L,hl,C⟩:=hI;rw[zbL] at F;subst F;refine h h' U sb L (by have:=X.length_eq;rw[zbK] at this;lia) λx=>?_;rw[C,X.mem_iff]
theorem Cm{id:String}{b:Addr}{S T:List Int}(Y:gH prog w s.heap a S)(hb:gH prog w s.heap b T)(X:a≠b)(hS:S.length<4000)(hT:T.length<4000)(h:∀h' r U,(∀c o,s.heap.get? c=some o->h'.get? c=some o)->gH prog w h' r U->U.length<4000->(∀x,x∈U↔x∈S/\x∈T)->Q (.ref r) {s with heap:=h'}):yar (model prog w) A (Builtin.Frozenset.intersection id a (.ref b)) Q E s:=by
 unfold Builtin.Frozenset.intersection;rw[yIn (by simp;exact λz=>X z.symm)];refine yaa (Gb (ty_int Y) ?_);unfold newSet;refine yaa (yaa (gz ?_));dsimp only;refine yae ?_;have gr:(s.heap.push (bh (!w.params.followText "set-order"))).get? s.heap.objs.size=some (bh (!w.params.followText "set-order")):=zaK _ rfl;have kp:∀c o,s.heap.get? c=some o->(s.heap.push (bh (!w.params.followText "set-order"))).get? c=some o:=λc o e=>zaq _ e;have hr:=rM (prog:=prog) (w:=w) gr;have na:∀{c:Addr}{S:List Int},gH prog w s.heap c S->c≠s.heap.objs.size:=λ⟨o,n,_⟩=>zcx (zcH n);have L:=na Y;have I:=na hb;have q:=Y.keep (kp a);have m:=hb.keep (kp b);have O:∀h',Heap.SameBut s.heap.objs.size (s.heap.push (bh (!w.params.followText "set-order"))) h'->∀c o,s.heap.get? c=some o->h'.get? c=some o:=λh' sb c o e=>by
  rw[sb.2 c (zcx (zcH e))];exact kp c o e
 refine yaa (wpAny_of_eq (a:=s.heap.objs.size) rfl ?_);refine yaa (yad ?_);refine yaa (tR (ty_int m) ?_);rw[yIp rfl];refine yaa (wpAny_of_eq (a:=b) rfl ?_);refine yaa (uG m (yaa (uG q ?_)));split
 ·obtain⟨o,n,P,ep,t,G,hd,H,W,F,v⟩:=q;refine yaa (wpAny_setEpoch_of n hd F ?_);refine yaa (ug ⟨o,n,P,ep,t,G,hd,H,W,F,v⟩ m hr L (by simp) λl h1 i y j C=>?_);refine yaa (vo j C ⟨o,P,t,by show h1.get? a=_;rw[i.2 a L];exact n,hd,F⟩ (m.keep λo e=>by show h1.get? b=_;rw[i.2 b I];exact e) y L I hS hT λh2 U u Z hl v=>?_);exact yab (yab (h h2 _ U (O h2 (i.trans u)) Z (by lia) v))
 ·obtain⟨o,n,P,ep,t,G,hd,H,W,F,v⟩:=m;refine yaa (wpAny_setEpoch_of n hd F ?_);refine yaa (ug ⟨o,n,P,ep,t,G,hd,H,W,F,v⟩ q hr I (by simp) λl h1 i y j C=>?_);refine yaa (vo j C ⟨o,P,t,by show h1.get? b=_;rw[i.2 b I];exact n,hd,F⟩ (q.keep λo e=>by show h1.get? a=_;rw[i.2 a L];exact e) y I L hT hS λh2 U u Z hl v=>?_);exact yab (yab (h h2 _ U (O h2 (i.trans u)) Z (by lia) λx=>(v x).trans and_comm))
theorem and_int{b:Addr}{S T:List Int}(i:gH prog w s.heap a S)(j:gH prog w s.heap b T)(m:a≠b)(v:S.length<4000)(u:T.length<4000)(h:∀h' r U,(∀c o,s.heap.get? c=some o->h'.get? c=some o)->gH prog w h' r U->U.length<4000->(∀x,x∈U↔x∈S/\x∈T)->Q (.ref r) {s with heap:=h'}):yar (model prog w) A (binaryOp .BitAnd (.ref a) (.ref b)) Q E s:=by
 refine wpAny_binaryOp_same (op:=.BitAnd) (T:="set") (ty_int i) (ty_int j) PySem.F.fills_set_and PySem.F.slot_set_and (wpAny_call_entry PySem.F.slot_set_and (ty_int i) Cq ?_ (PySem.F.args_set_and_2 _ _));show yar _ _ (do
  let l <-Builtin.Frozenset.slot1 "__and__" ⟨[.ref a,.ref b],[]⟩
  _) _ _ _
 refine yaa (wpAny_of_eq (a:=(.ref a,.ref b)) rfl ?_);dsimp only;refine yaa ?_;refine yaa (tR (ty_int i) ?_);refine tR (ty_int j) ?_;rw[yIn (by decide)];refine yaa (wpAny_of_eq (a:=a) rfl ?_);refine yaa (Cm i j m v u λh' r U k t q n=>?_);exact yab ⟨_,rfl,by simp,h h' r U k t q n⟩
end M13
namespace L2
open PySem PySem.Spec PyProof.Rows
def Sm(K:yaI)(H:Hp)(x:V)(ss:List Int):Prop:=∃p,x=.ref p/\(dI K H p (ss.map V.int)∨cF K H p (ss.map V.int))/\ss.length<4000
def zx(K:yaI)(n m:TE):TE:=λa H Q=>n a H λx l=>∃i:List Int,Sm K l x i/\m a l λy j=>∃h:List Int,Sm K j y h/\∀u:List Int,(∀x,x∈u↔x∈i/\x∈h)->Q (.int u.length) j
section
variable {f:Expr}{ta tb:TE}{p3 pos3 pos4:Pos}
theorem zL(C:X.calm=true){t:St}{x:V}{v:yai}{ss:List Int}(I:Inv X pins t H s)(u:Sm X.K H x ss)(y:RelV x v)(h:∀(h':Heap)(tk:Nat),M7.gH X.prog X.w h' s.heap.objs.size (M7.allI (λi=>ss.getD i 0) ss.length)->(∀b o,s.heap.get? b=some o->h'.get? b=some o)->Q (.ref s.heap.objs.size) {s with heap:=h',toks:=tk}):
  yar (model X.prog X.w) X.A (call (.type "set") [v]) Q X.xe s:=by
 have q:=I.ok.hd C;obtain⟨a,rfl,j,n⟩:=u;obtain rfl:v=Value.ref a:=y;rcases j with j|j
 ·obtain⟨its,m,pl,hz⟩:=I.tuple j;exact M7.nS (its:=its.toArray) (ss:=ss) q pl (by simpa using intsAre_of m) n λh' tk l kp=>h h' tk l λb o e=>kp b o (zcH e) e
 ·obtain⟨its,m,pl,hz⟩:=I.list j;exact M7.qt (its:=its.toArray) (ss:=ss) q pl.isList (by simpa using intsAre_of m) n λh' tk l kp=>h h' tk l λb o e=>kp b o (zcH e) e
theorem lJ(hc:X.calm=true)(hg:Gl X "len")(hm:X.mg "len"=none)(P:Gl X "set")(L:X.mg "set"=none)(he:PE X e ta)(hf:PE X f tb)(hs:notStar e=true:=by rfl)(F:notStar f=true:=by rfl):
  PE X (.Call (.Name "len" p) [.BinOp (.Call (.Name "set" p2) [e] [] pos2) .BitAnd (.Call (.Name "set" p3) [f] [] pos3) pos4] [] pos) (zx X.K ta tb):=by
 intro a s Z H Q I h;refine wpAny_Call_Name_kw (cu I hg hm (u:=.builtin "len") (by decide+kernel) ?_ (by decide+kernel) (by decide+kernel));refine PyProof.Rows.callWith_builtin1 (E:=X.xe) ?_ (aO [] X.env rfl) rfl;rw[aO [] X.env rfl];refine zaX (wpAny_BinOp ?_);refine wpAny_Call_Name_kw (cu I P L (u:=.type "set") (by decide+kernel) ?_ (by decide+kernel) (by decide+kernel));refine PyProof.Rows.callWith_type1 (E:=X.xe) ?_ (aO [] X.env hs) rfl;rw[aO [] X.env hs];refine zaX (bT (he a s Z H _ I h) λu n l=>?_);obtain⟨x,H1,Y,rx,ss,W,q⟩:=l;refine zbp (zL hc Y W rx λh' tk tS kp=>?_);obtain⟨S,G,O⟩:=tS;have f1:lZ X a H1 n.heap.objs.size:=Y.p8 (zcK _) (Y.hok.fresh (zcK _));have I1':Inv X a Z H1 {n with heap:=h',toks:=tk}:=Y.kept kp;have I2:=I1'.pinned (fp:=[n.heap.objs.size]) (λb hb=>zaO.mp hb▸f1) (λb hb=>zaO.mp hb▸⟨S,G,λv z=>by
  obtain⟨es,ep,t,_,hd,_⟩:=O;rw[hd] at z;cases z⟩)
 refine wpAny_Call_Name_kw (cu I2 P L (u:=.type "set") (by decide+kernel) ?_ (by decide+kernel) (by decide+kernel));refine PyProof.Rows.callWith_type1 (E:=X.xe) ?_ (aO [] X.env F) rfl;rw[aO [] X.env F];refine zaX (bT (hf _ _ Z H1 _ I2 q) λu2 s2 l=>?_);obtain⟨y,H2,I3,ry,tt,hy,q2⟩:=l;refine zbp (zL hc I3 hy ry λh2 m tS2 C=>?_);have g1:s2.heap.get? n.heap.objs.size=some S:=(I3.pin (n.heap.objs.size,S) (zas _ (zas _ (by
  show _∈jy [n.heap.objs.size] h';unfold jy;rw[zaD,G];simp)))).1
 have n1:=M7.iC (λi=>ss.getD i 0) ss.length;have n2:=M7.iC (λi=>tt.getD i 0) tt.length;obtain⟨_,_,_,l1⟩:=W;obtain⟨_,_,_,l2⟩:=hy;refine M13.and_int (s:={s2 with heap:=h2,toks:=m}) ⟨S,C _ _ g1,O⟩ tS2 (zcx (zcH g1)) (by lia) (by lia) λh3 r U kp3 hU hl W=>?_;refine zbp ?_;obtain⟨o,ho,es,ep,t,hex,hd,hel,hpm,hf,_⟩:=hU;have j:=hpm.length_eq;rw[zbK,zaJ] at j;refine PySem.call_len_set (s:={s2 with heap:=h3,toks:=m}) ho hex hd hf (by lia) ⟨.int _,H2,?_,⟨_,by rw[j]⟩,q2 U λy=>by rw[W,M7.lQ,M7.lQ]⟩;exact I3.fL.kept (t':=m+1+1) λb o z=>kp3 b o (C b o z)
end
end L2
namespace M
open PySem PySem.Spec PyProof.Rows L2
def Jr(S:aN)(d:D)(ss:List Int):Prop:=(aT S d=.tup (ss.map D.int)∨aT S d=.lst (ss.map D.int))/\ss.length<4000
def tU(a b:AE):AE:=λh S Q=>a h S λr m=>∃j:List Int,Jr m r.d j/\b h m λn l=>∃i:List Int,Jr l n.d i/\∀u:List Int,(∀x,x∈u↔x∈j/\x∈i)->Q (.dat (.int u.length)) l
theorem Jr.sq{w:Wd}{d:D}{ss:List Int}(ok:Ok K w H S)(r:Rep K w d v)(h:Jr S d ss):Sm K H v ss:=by
 rcases h with⟨z|z,i⟩
 ·obtain⟨a,j,rfl,h1,h2⟩:=b5 ok r z;rw[eO h2] at h1;exact⟨a,rfl,.inl h1,i⟩
 ·obtain⟨a,j,rfl,h1,h2⟩:=br ok r z;rw[eO h2] at h1;exact⟨a,rfl,.inr (cF.of h1),i⟩
theorem D8{a b:AE}:∀o H Q,aS K (tU a b) o H Q->zx K (aS K a) (aS K b) o H Q:=by
 rintro o H Q ⟨w,t,S,X,ok,env,q,bk⟩;refine⟨w,t,S,_,ok,env,q,.go λU G O x Z n m j h=>?_⟩;obtain⟨C,z,E⟩:=h;refine⟨C,z.sq m j,x,t,G,_,m,env.le n,E,.go λP W L I Y s l i h=>?_⟩;obtain⟨y,v,q2⟩:=h;exact⟨y,v.sq l i,λu F=>bk.dat (n.trans s) l .int (q2 u F)⟩
section
variable {f:Expr}{p3 pos3 pos4:Pos}
theorem lJ(q:X.calm=true)(m:Gl X "len")(l:X.mg "len"=none)(i:Gl X "set")(h:X.mg "set"=none)(o:GE X e ta)(n:GE X f tb)(j:notStar e=true:=by rfl)(a:notStar f=true:=by rfl):
  GE X (.Call (.Name "len" p) [.BinOp (.Call (.Name "set" p2) [e] [] pos2) .BitAnd (.Call (.Name "set" p3) [f] [] pos3) pos4] [] pos) (tU ta tb):=⟨mE (L2.lJ q m l i h o.p n.p j a) D8⟩
end
theorem Rj{w:Wd}{ks:List Key}(k:Ok K w H S)(e:S[m]? =some (some (.dct ks ds))):∃s,w.le s/\Ok K s H (S.set m none)/\∀v,Rep K w (.loc m) v->Rep K s (.dct ks ds) v:=by
 obtain⟨a,u,h1,h2,Q,h,rfl,P,O⟩:=k.live m _ e;have le:w.le ⟨upd w.B a (.dK h),w.r⟩:=⟨al h2,λ_ _ e=>e⟩
 have at_:∀n o,(S.set m none)[n]? =some (some o)->n≠m/\S[n]? =some (some o):=λn o z=>by
  by_cases x:m=n
  ·subst x;rw[zbd] at z;simp at z
  ·rw[zaA x] at z;exact⟨λy=>x y.symm,z⟩
 refine⟨⟨upd w.B a (.dK h),w.r⟩,le,⟨λb o z=>?_,λn o z=>?_,λn j o C I G z=>?_,λn l=>k.top n (by rw[zbT] at l;exact l)⟩,λv E=>?_⟩
 ·by_cases F:b=a
  ·subst F;have z:upd w.B b (.dK h) b=some o:=z;rw[bG] at z;rw[Q];exact z
  ·have z:upd w.B a (.dK h) b=some o:=z;rw[aP F] at z;exact k.base b o z
 ·obtain⟨l,z⟩:=at_ n o z;obtain⟨q,L,i,X,W,U⟩:=k.live n o z;have t:q≠a:=λy=>l (k.inj n m _ _ z e (by rw[i,h1,y]));exact⟨q,L,i,by show upd w.B a _ q=none;rw[aP t];exact X,W,U.le le⟩
 ·exact k.inj n j o C (at_ n o I).2 (at_ j C G).2 z
 ·simp only[Rep] at E⊢;obtain⟨q,i,rfl⟩:=E;rw[h1] at i;cases i;exact⟨a,h,rfl,bG,P,O.le le⟩
theorem zS{w i:Wd}{m:Nat}{e:D}(le:w.le i)(f:∀v,Rep K w (.loc m) v->Rep K i e v):∀{es:List D}{a:List V},aq K w es a->aq K i (es.map (sb m e)) a
 |[],a,h=>by simp only[aq] at h;subst h;exact .nil
 |d::es,a,h=>by
  simp only[aq] at h;obtain⟨x,r,rfl,h1,h2⟩:=h;refine .cons ?_ (zS le f h2);cases d with
  |loc n=>
   show Rep K i (if n=m then _ else _) x;by_cases j:n=m
   ·rw[yIp j];subst j;exact f x h1
   ·rw[yIn j];exact h1.le le
  |_=>exact h1.le le
def Gs(a:AE):AE:=λn S Q=>a n S λr l=>∃m h j i,r=.dat (.tup i)/\l[m]? =some (some (.dct h j))/\Q (.dat (.tup (i.map (sb m (.dct h j))))) (l.set m none)
theorem Mx{a:AE}:∀j H Q,aS K (Gs a) j H Q->aS K a j H Q:=by
 rintro j H Q ⟨w,u,S,X,ok,env,q,bk⟩;refine⟨w,u,S,_,ok,env,q,λr W v y Y s o h l=>?_⟩;obtain⟨m,P,U,I,L,F,C⟩:=l;subst L;have h:Rep K y (.tup I) v:=h;simp only[Rep] at h;obtain⟨t,x,rfl,G,E⟩:=h;obtain⟨O,i,n,f⟩:=Rj o F;refine bk.dat (s.trans i) n ?_ C;simp only[Rep];exact⟨t,x,rfl,dI.same i.b G,zS i f E⟩
theorem To{t:AE}(h:GE X e t):GE X e (Gs t):=⟨mE h.p Mx⟩
end M
namespace L2
open PySem PySem.Spec PyProof.Rows
noncomputable def TY(K:yaI)(a:Addr)(n:Nat):It:=
 ⟨λi H=>i<n/\∃h x,cF K H a h/\h[n - 1 - i]? =some x,λi H x j=>j=H/\∀h,cF K H a h->h[n - 1 - i]? =some x,λi _=>i=n⟩
theorem Dk(a it:Addr)(n:Nat):Turn P w K tg (TY K a n) [it] it (λi h=>h.IsRevIter it a ((n:Int) - 1 - (i:Int))) where
 mem:=by simp
 obj:=λi h j b q=>by
  have e:b=it:=by simpa using q
  subst e;obtain⟨o,e,c,d⟩:=j;exact⟨o,e,λv z=>by rw[d] at z;cases z⟩
 keep:=λi h y j k=>j.at λo e=>k it (by simp) o e
 item:=by
  intro X G hw L hc i l s Y H E I t j F;subst G hw L;obtain⟨hi,xs,x,hq,Z⟩:=F;obtain⟨its,rv,p,hz⟩:=I.list hq;obtain⟨u,hu,ru⟩:=rv.get Z;obtain⟨W,U,f2,S,Q,O⟩:=t it (by simp);have C:s.heap.IsRevIter it a ((n - 1 - i:Nat):Int):=by rw[show((n - 1 - i:Nat):Int)=(n:Int) - 1 - (i:Int) by lia];exact j
  refine wpAny_pyNext_rev_item C p.isList (x:=u) (by simpa using hu) λy m sb=>?_;have I1:Inv X l Y H {s with heap:=y}:=I.turned (t':=s.toks) (λb o q e=>(sb.2 b q).trans e) W U S Q O;rw[show((n - 1 - i:Nat):Int) - 1=(n:Int) - 1 - ((i+1:Nat):Int) by lia] at m;obtain⟨o,e,c,d⟩:=id m;exact⟨u,rfl,qS (s:={s with heap:=y}) e c d (by decide) ⟨x,H,I1,ru,⟨rfl,λys hy=>by rw[I.vq hy hq];exact Z⟩,m,λb q=>(t b q).1⟩⟩
 done:=by
  intro X G hw L hc i l s Y H E I t j F;subst G hw L;obtain rfl:i=n:=F;obtain⟨W,U,f2,S,Q,O⟩:=t it (by simp);rw[show(i:Int) - 1 - (i:Int)=-1 by lia] at j;exact wpAny_pyNext_rev_end (I.ok.hd hc) j λy eb=>⟨rfl,I.turned (t':=s.toks) (λb o q e=>eb b o q e) W U S Q O⟩
 self:=λ_ _ _ _ _ j h=>wpAny_pyIter_revIter j h
theorem sj{F:TE}(U:Gl X "reversed")(S:X.mg "reversed"=none)(W:PE X e F)(G:notStar e=true:=by rfl):
  PI X tg (.Call (.Name "reversed" p) [e] [] pos) (λy H R=>F y H λx v=>∃a j,x=.ref a/\cF X.K v a j/\R (TY X.K a j.length) v):=by
 intro m s y H R I h;refine wpAny_Call_Name_kw (cu I U S boot_reversed ?_ (by decide+kernel) (by decide+kernel));refine PyProof.Rows.callWith_type1 (E:=X.xe) ?_ (aO [] X.env G) rfl;rw[aO [] X.env G];refine zaX (bT (W m s y H _ I h) λu l C=>?_);obtain⟨x,v,t,O,a,j,ex,Q,q⟩:=C;subst ex;obtain rfl:u=Value.ref a:=O;refine zbp ?_;obtain⟨i,P,pl,hz⟩:=t.list Q;have L:=P.length;refine call_reversed_list pl.isList ?_;have n:Heap.IsRevIter (l.heap.push (revObj a ((i.toArray.size:Int) - 1))) l.heap.objs.size a ((j.length:Int) - 1 - ((0:Nat):Int)):=by
  refine⟨_,zaK _ rfl,rfl,?_⟩;have:i.toArray.size=j.length:=by simp;lia
  rw[this];simp[revObj]
 refine wpAny_pyIter_revIter (s:={l with heap:=l.heap.push (revObj a ((i.toArray.size:Int) - 1))}) n ?_;refine⟨_,_,_,_,v,rfl,t.kept (t':=l.toks) λb o e=>zaq _ e,Dk a l.heap.objs.size j.length,n,λb Y=>?_,q⟩;rw[zaO.mp Y];exact t.p8 (zcK _) (t.hok.fresh (zcK _))
end L2
namespace M
open PySem PySem.Spec PyProof.Rows L2
def Fz(a:AE):AI:=λi S Q=>a i S λr j=>∃h,r.d=.lst h/\Q h.reverse (λ_=>True) j
theorem EB{α:Type}{es:List α}{d:α}(e:es.reverse[i]? =some d):i<es.length/\es[es.length - 1 - i]? =some d:=by
 have h:i<es.length:=by
  have:=(zad.mp e).1;simpa using this
 rw[List.getElem?_reverse h] at e;exact⟨h,e⟩
theorem Ij{a:AE}:∀n H R,yM K (Fz a) n H R->aS K a n H λx m=>∃a j,x=.ref a/\cF K m a j/\R (TY K a j.length) m:=by
 rintro n H R ⟨w,G,S,X,ok,env,q,bk⟩;refine⟨w,G,S,_,ok,env,q,.go λU P Q I m t l h ⟨W,hd,O⟩=>?_⟩;rw[hd] at h;simp only[Rep] at h;obtain⟨p,j,rfl,h1,h2⟩:=h;have E:=h2.length;refine⟨p,j,rfl,cF.of (l.base _ _ h1),bk _ _ P _ I m t l ⟨λi H S o d le ok F e=>?_,λi H S o d v Y le ok F e y=>?_,λi H S o le ok F e=>?_⟩ O⟩
 ·obtain⟨k1,C⟩:=EB e;obtain⟨u,s,_⟩:=h2.get C;exact⟨by lia,j,u,cF.of ((le.b.trans ok.base) _ _ h1),by rw[E];exact s⟩
 ·obtain⟨k1,C⟩:=EB e;obtain⟨u,s,L⟩:=h2.get C;obtain⟨rfl,g⟩:=y;have g:=g j (cF.of ((le.b.trans ok.base) _ _ h1));rw[E,s] at g;cases g;exact⟨o,.refl,ok,L.le le⟩
 ·show i=j.length;rw[e,List.length_reverse];lia
theorem sj(i:Gl X "reversed")(h:X.mg "reversed"=none)(j:GE X e ta)(a:notStar e=true:=by rfl):
  GI X tg (.Call (.Name "reversed" p) [e] [] pos) (Fz ta):=⟨mI (L2.sj i h j.p a) Ij⟩
end M
namespace L2
open PySem PySem.Spec PyProof.Rows
noncomputable def Ut(lo:Int)(n:Nat):It:=⟨λi _=>i<n,λi H x a=>a=H/\x=.int (lo - i),λi _=>n<=i⟩
theorem uo(it:Addr)(lo:Int)(n:Nat):Turn P w K tg (Ut lo n) [it] it (λi h=>IsRangeIter h it (lo+(i:Nat)*(-1)) ((n:Int) - (i:Nat)) (-1)) where
 mem:=by simp
 obj:=λi h a b l=>by
  have e:b=it:=by simpa using l
  subst e;exact⟨_,a,λv z=>by
   have Y:Data.fields _=Data.cell v:=z;cases Y⟩
 keep:=λi h u a k=>k it (by simp) _ a
 item:=by
  intro X C hw F y i j s U H E I q a x;subst C hw F;obtain⟨S,Q,f2,O,L,G⟩:=q it (by simp);have W:=Walks.range (prog:=X.prog) (w:=X.w) (I.ok.hd y) it lo (-1) n;refine W.item i s _ _ x a λv u tk hv m Z=>?_;obtain⟨t,rfl⟩:=hv;have I1:Inv X j U H {s with heap:=u,toks:=tk}:=I.turned (λb o l e=>Z b o (by simpa using l) e) S Q O L G;refine⟨_,rfl,qS (s:={s with heap:=u,toks:=tk}) (n:="range_iterator") m rfl rfl (by decide) ⟨.int (lo - i),H,I1,⟨t,?_⟩,⟨rfl,rfl⟩,m,λb l=>(q b l).1⟩⟩;rw[show lo+(i:Int)*(-1)=lo - i by lia]
 done:=by
  intro X C hw F y i j s U H E I q a x;subst C hw F;obtain⟨S,Q,f2,O,L,G⟩:=q it (by simp);exact wpAny_pyNext_range_end (I.ok.hd y) a (by have:n<=i:=x;lia) λu eb=>⟨rfl,I.turned (t':=s.toks) (λb o l e=>eb b o l e) S Q O L G⟩
 self:=λ_ _ _ _ _ a h=>wpAny_pyIter_rangeiter a h
def Li(h:TA):TI:=λa H R=>h a H λvs l=>∃i j:Int,vs=[.int i,.int j,.int (-1)]/\(-(2 ^ 62)<=i/\i<2 ^ 62/\-(2 ^ 62)<=j/\j<2 ^ 62)/\R (Ut i (i - j).toNat) l
theorem lH{a b:Expr}{E:TA}(P:Gl X "range")(O:X.mg "range"=none)(S:PA X [a,b,c] E)(L:yao [a,b,c] X.env=[(false,eval a X.env),(false,eval b X.env),(false,eval c X.env)]:=by rfl)(u:yao [b,c] X.env=[(false,eval b X.env),(false,eval c X.env)]:=by rfl):
  PI X tg (.Call (.Name "range" p) [a,b,c] [] pos) (Li E):=by
 intro m s C H R I h;refine Call_ (cu I P O boot_range (PyProof.Rows.callWith_type1 (bT (S pos m s C H _ I h) λus n v=>?_) (by rw[L,u]) (by rw[u];rfl)));obtain⟨vs,F,Z,G,x⟩:=v;obtain⟨i,j,e,⟨x,q2,q3,q4⟩,q⟩:=x;subst e;cases G with
 |cons r rr=>
  cases rr with
  |cons r' rr=>
   cases rr with
   |cons r'' rr=>
    cases rr;obtain⟨t,rfl⟩:=r;obtain⟨t',rfl⟩:=r';obtain⟨l,rfl⟩:=r'';refine call_range_3 (by decide) ?_ (.inl (PyProof.noPylong_small (by lia)));refine wpAny_pyIter_range (IsRange.new ..) (PySem.W.small_down x q2 q3 q4) ?_;have y:Inv X m C F {n with heap:=n.heap.push {cls:=.type "range",data:=.fields #[.int i t,.int j t',.int (-1) l]},toks:=n.toks}:=Z.kept λb o e=>zaq _ e;refine⟨(n.heap.push {cls:=.type "range",data:=.fields #[.int i t,.int j t',.int (-1) l]}).objs.size,[(n.heap.push {cls:=.type "range",data:=.fields #[.int i t,.int j t',.int (-1) l]}).objs.size],_,_,F,rfl,y.kept (t':=n.toks) λb o e=>zaq _ e,uo _ i (i - j).toNat,?_,λb Q=>?_,q⟩
    ·have Y:i+((0:Nat):Int)*(-1)=i:=by simp
     have U:(((i - j).toNat:Nat):Int) - ((0:Nat):Int)=Builtin.Range.rangeSize i j (-1):=by rw[PySem.W.rangeSize_downNat];simp
     show IsRangeIter _ _ (i+((0:Nat):Int)*(-1)) ((((i - j).toNat:Nat):Int) - ((0:Nat):Int)) (-1);rw[Y,U];exact zaK _ rfl
    ·have e:b=(n.heap.push {cls:=.type "range",data:=.fields #[.int i t,.int j t',.int (-1) l]}).objs.size:=by simpa using Q
     subst e;exact y.p8 (zcK _) (y.hok.fresh (zcK _))
end L2
namespace M
open PySem PySem.Spec PyProof.Rows L2
noncomputable def JG(i:Int)(n:Nat):List D:=(zcO n).map λk:Nat=>.int (i - (k:Int))
theorem FP{i:Int}{k:Nat}{d:D}(e:(JG i n)[k]? =some d):k<n/\d=.int (i - k):=by
 unfold JG at e;rw[zba] at e;by_cases h:k<n
 ·rw[List.getElem?_range h] at e;exact⟨h,(zcN.inj e).symm⟩
 ·rw[zat (by simpa using h)] at e;cases e
def yC(a:AA):AI:=λh S Q=>a h S λl m=>∃i j:Int,l=[.int i,.int j,.int (-1)]/\(-(2 ^ 62)<=i/\i<2 ^ 62/\-(2 ^ 62)<=j/\j<2 ^ 62)/\Q (JG i (i - j).toNat) (λ_=>True) m
theorem D9{a:AA}:∀l H R,yM K (yC a) l H R->Li (ko K a) l H R:=by
 rintro l H R ⟨w,u,S,W,ok,env,q,bk⟩;refine⟨w,u,S,_,ok,env,q,λU L vs E O s o h m=>?_⟩;obtain⟨i,j,hd,I,G⟩:=m;refine⟨i,j,?_,I,?_⟩
 ·subst hd;simp only[aq,Rep] at h;obtain⟨x,r,rfl,rfl,y,P,rfl,rfl,z,F,rfl,rfl,rfl⟩:=h;rfl
 ·refine bk _ _ L _ E O s o ⟨λk H S n d le ok t e=>(FP e).1,λk H S n d x X le ok t e y=>?_,λk H S n le ok t e=>?_⟩ G
  ·obtain⟨C,v⟩:=y;obtain⟨Q,rfl⟩:=FP e;subst C;subst v;exact⟨n,.refl,ok,.int⟩
  ·have:(JG i (i - j).toNat).length=(i - j).toNat:=by simp[JG]
   show(i - j).toNat<=k;lia
theorem lH{a b:Expr}{t:AA}(l:Gl X "range")(j:X.mg "range"=none)(m:GA X [a,b,c] t)(i:yao [a,b,c] X.env=[(false,eval a X.env),(false,eval b X.env),(false,eval c X.env)]:=by rfl)(h:yao [b,c] X.env=[(false,eval b X.env),(false,eval c X.env)]:=by rfl):
  GI X tg (.Call (.Name "range" p) [a,b,c] [] pos) (yC t):=⟨mI (L2.lH l j m.p i h) D9⟩
end M
namespace L2
open PySem
structure fK(K:yaI)(x:Str)(st:Stmt):Prop where
 ex:∃f oc od kV doc pm an cdv ct osl,zcG K yaq x=some (some (.ref f))/\K.lookup f=some ⟨oc,od,.func (zcF x x (cC st) (bE st) (ah st) .none kV doc pm an cdv ct),osl⟩/\zcg K cdv x=true/\zcf K (.ref f)=true
structure C1(K:yaI)(C:Addr)(m q:Str)(st:Stmt):Prop where
 ex:∃f oc od kV doc pm an cdv ct osl,zce K (.ref C) m=some (some (.ref f))/\K.lookup f=some ⟨oc,od,.func (zcF m q (cC st) (bE st) (ah st) .none kV doc pm an cdv ct),osl⟩/\zcg K cdv q=true/\zcf K (.ref f)=true/\zcE K (.ref f)=true
theorem fK.of{oc:yai}{j m:Option Addr}{kV i pm h ct:yai}(a:zcG K yaq x=some (some (.ref f)))(l:K.lookup f=some ⟨oc,j,.func (zcF x x (cC st) (bE st) (ah st) .none kV i pm m h ct),osl⟩)(c:zcg K h x=true)(k:zcf K (.ref f)=true):fK K x st:=⟨_,_,_,_,_,_,_,_,_,_,a,l,c,k⟩
theorem C1.of{m q:Str}{oc:yai}{n o:Option Addr}{kV j pm h ct:yai}(a:zce K (.ref C) m=some (some (.ref f)))(l:K.lookup f=some ⟨oc,n,.func (zcF m q (cC st) (bE st) (ah st) .none kV j pm o h ct),osl⟩)(c:zcg K h q=true)(k:zcf K (.ref f)=true)(i:zcE K (.ref f)=true):C1 K C m q st:=⟨_,_,_,_,_,_,_,_,_,_,a,l,c,k,i⟩
theorem fK.src(e:fK K x st)(X:K.In h)(G:h.Ns yaq mg)(b:∀(kV i pm:yai)(m:Option Addr)(j ct:yai)(us:List yai),us.length=ps.length->yaz (zcF x x (cC st) (bE st) (ah st) .none kV i pm m j ct) ⟨us,[]⟩=pure (ps.zip us)):Src K mg x ps st:=by
 obtain⟨f,oc,o,kV,i,pm,m,j,ct,n,a,l,c,k⟩:=e.ex;exact J.L1 X G a l c k b
theorem C1.src{m q:Str}(e:C1 K C m q st)(b:∀(kV h pm:yai)(n:Option Addr)(j ct:yai)(us:List yai),us.length=ps.length->yaz (zcF m q (cC st) (bE st) (ah st) .none kV h pm n j ct) ⟨us,[]⟩=pure (ps.zip us)):M.tY K C m q ps st:=by
 obtain⟨f,oc,s,kV,h,pm,n,j,ct,o,a,l,c,k,i⟩:=e.ex;exact⟨f,_,jA (st:=st) l c k,⟨a,i,k⟩,(jA (st:=st) l c k).binds b⟩
end L2
theorem L2.bO{P:List PySem.Str}{a:PySem.Scope}(h1:a.kind=.function:=by rfl)(h2:a.isCoroutine=false:=by rfl)(m:a.isGenerator=false:=by rfl)(l:N.Nodup:=by decide+kernel)(j:N.take P.length=P:=by rfl)(i:∀x∈P,a.names.lookup x=some .local∨a.names.lookup x=some .cell:=by decide+kernel)(h:∀y∈a.names,y.2≠ .free:=by decide+kernel):L2.av N P a:=⟨h1,h2,m,l,j,i,h⟩
namespace M
open PySem L2
theorem ow{es:List Expr}{k:Nat}{t:AA}(D:Def X.prog X.w X.K X.mg X.base k x ps (au X.K sp))(i:aV j X.A)(n:GA X (e::es) t)(l:k<=j:=by decide)(m:Gl X x:=by rfl)(a:(x==("__debug__":Str))=false:=by decide+kernel)(h:(e::es).all notStar=true:=by rfl):GE X (.Call (.Name x p) (e::es) [] pos) (aCall sp t):=M.lI D (i.mono l) m n a h
section
variable {a b:Expr}
theorem ixs(j:GE X a ta)(i:GE X b tb)(h:nG b:=by exact λ_ _=>rfl):GE X (.Subscript a b pos) (Kf zf ta tb):=Ac QS j i h
theorem bR{i:Int}{j}(l:GE X a ta)(h:nG (.Constant (.int i) j pos'):=by exact λ_ _=>rfl):GE X (.Subscript a (.Constant (.int i) j pos') pos) (Kf zf ta (aC (.int i))):=Ac QS l aj h
theorem cG(i:Nat)(n:X.N.Nodup)(m:GE X e ta)(hi:X.N[i]? =some x:=by rfl)(h:Loc X.env.scope x:=by first|exact .inl rfl|exact .inr rfl)(j:yat e (some (.Name x pos')) pos.line X.env=pure false:=by rfl)(l:X.fn x=true∨X.env.scope.names.lookup x=some .local:=by first|exact .inl rfl|exact .inr rfl|assumption):GS X (.Assign [.Name x pos'] e pos) (zj ta (bV i)):=yd n hi h m j l
theorem eK(i:Nat)(l:X.N.Nodup)(hi:X.N[i]? =some x:=by rfl)(h:Loc X.env.scope x:=by first|exact .inl rfl|exact .inr rfl)(j:X.fn x=true∨X.env.scope.names.lookup x=some .local:=by first|exact .inl rfl|exact .inr rfl|assumption):GG X (.Name x pos) (bV i):=b7 l hi h j
theorem kb{es:List Expr}{id:String}{r:AN}{t:AA}(o:rK X (.builtin id) r)(m:X.mg x=none)(q:GA X (e::es) t)(n:Gl X x:=by rfl)(i:bootBuiltins x=some (.builtin id):=by decide+kernel)(l:x≠"__name__":=by decide+kernel)(h:(x==("__debug__":Str))=false:=by decide+kernel)(j:(e::es).all notStar=true:=by rfl):GE X (.Call (.Name x p) (e::es) [] pos) (aCall r t):=S8 o n m i q l h j
theorem kt{es:List Expr}{T:String}{r:AN}{t:AA}(o:rK X (.type T) r)(m:X.mg x=none)(q:GA X (e::es) t)(n:Gl X x:=by rfl)(i:bootBuiltins x=some (.type T):=by decide+kernel)(l:x≠"__name__":=by decide+kernel)(h:(x==("__debug__":Str))=false:=by decide+kernel)(j:(e::es).all notStar=true:=by rfl):GE X (.Call (.Name x p) (e::es) [] pos) (aCall r t):=S7 o n m i q l h j
theorem C9(N:List Str)(caps:List (Option Nat)){j:AT}(hi:GI X (.Name x p) a wi)(n:∀s₀ H₀ C fp,Pw (jd X scope N s₀ H₀ C fp) ifs j)(u:∀s₀ H₀ C fp,GE (jd X scope N s₀ H₀ C fp) e ta)(l:OO scope N=true:=by decide+kernel)(h:jn X.N X.env scope N caps=true:=by rfl)(i:freeOk X.env scope=true:=by rfl)(v:X.calm=true:=by rfl)(m:N[0]? =some x:=by rfl)(q:∀s₀ H₀ C fp,Loc (jd X scope N s₀ H₀ C fp).env.scope x:=by exact λ_ _ _ _=>.inl rfl)(t:∀s₀ H₀ C fp,(jd X scope N s₀ H₀ C fp).fn x=true∨(jd X scope N s₀ H₀ C fp).env.scope.names.lookup x=some .local:=by first|exact λ_ _ _ _=>.inl rfl|exact λ_ _ _ _=>.inr rfl)(o:∀x,foldedSetIterable a X.env x=pure x:=by intro _;rfl):GE X (.ListComp e [⟨.Name x p,a,ifs,0⟩] scope pos) (cW caps wi (bV 0) j ta):=nh (rz l) h i v hi (λs H C f=>b7 (rz l).nd m (q s H C f) (t s H C f)) n u o
theorem aW(i:GE X e ta)(h:notStar e=true:=by rfl):GA X [e] (jo ta jE):=aF i ao h
end
end M
open M renaming pv -> Uu, aF -> Uv, aW -> Uw, aa -> Ux, aj -> Uy, af -> Uz, ao -> UA, az -> UB, bR -> UC, cG -> UD, aG -> UE, aJ -> UG, aD -> UH, eK -> UI, aM -> UJ, ow -> UK, aA -> UL, aR -> UM, aX -> UN, kb -> UO, aL -> UP, bz -> UQ, cI -> UR, ixs -> US, bx -> UT, cE -> UU, bI -> UW, b8 -> UX, qc -> UY, cV -> UZ, bu -> U0, kt -> U1, bw -> U3, cj -> U4, dU -> U5, bQ -> U6, cH -> U7, pw_pt -> U8, cT -> U9, pw_or -> Va, fu -> Vb, C9 -> Vc, pw_or1 -> Vd, dj -> Ve, GE -> Vf, aC -> Vg, bP -> Vh, cO -> Vi, pZ -> Vj, cP -> Vk, cutD -> Vl, b7 -> Vm, sE -> Vn, c9 -> Vo, j5 -> Vp, gX -> Vq, dN -> Vr, yi -> Vs, gn -> Vt, lK -> Vu, qI -> Vv, fk -> Vw, eF -> Vx, pw_and -> Vy, fj -> Vz, ret -> VD, pw_and1 -> VY
namespace K35
open PySem L2
noncomputable def top(i:Nat):Stmt:=PySem.Challenge.pw_pathask_k35_whole_turned.main.body.getD i (.Pass ⟨0,0,0,0⟩)
noncomputable abbrev Bv:List Str:=["_law_script","_law_k"]
noncomputable abbrev kW:=Bv
theorem Mj:av Bv kW (ah (top 36)):=L2.bO
noncomputable abbrev wD:List Str:=[]
noncomputable abbrev fV:List Str:=[]
theorem HX:av wD fV (ah (top 39)):=L2.bO
noncomputable abbrev wJ:List Str:=[]
noncomputable abbrev fW:List Str:=[]
theorem H9:av wJ fW (ah (top 40)):=L2.bO
noncomputable abbrev Bo:List Str:=["_law_way","_law_number"]
noncomputable abbrev gB:=Bo
theorem Me:av Bo gB (ah (top 44)):=L2.bO
noncomputable abbrev wR:List Str:=["_law_cell","_law_sizes","_law_found","_law_figures","_law_k","_law_mixed"]
noncomputable abbrev e7:=wR.take 2
theorem fh:av wR e7 (ah (top 37)):=L2.bO
structure Txt(K:yaI)(mg:Str->Option yai)(C fi:Addr):Prop where
 isinstance:mg "isinstance"=none
 dict:mg "dict"=none
 reversed:mg "reversed"=none
 str:mg "str"=none
 int:mg "int"=none
 bool:mg "bool"=none
 len:mg "len"=none
 tuple:mg "tuple"=none
 list:mg "list"=none
 range:mg "range"=none
 sorted:mg "sorted"=none
 set:mg "set"=none
 zip:mg "zip"=none
 max:mg "max"=none
 min:mg "min"=none
 begin:∃t,mg "BEGIN"=some (.int 0 t)
 end_:∃t,mg "END"=some (.int 1 t)
 NH:∃a,mg "LEAVES"=some (.ref a)/\∀H:Hp,dI K H a ((["stay","step","at","off"]:List Str).map V.str)
 any:∃t,mg "ANY"=some (.str "*" t)
 knots:∃t,mg "MOST_KNOTS"=some (.int 40 t)
 ties:∃t,mg "MOST_TIES"=some (.int 300 t)
 mg_Web:mg "Web"=some (.ref C)
 cl:C4 K C
 wV:Mk K C fi
 n_marked:e8 K C "marked"
 n_tied:e8 K C "tied"
 n_near:e8 K C "near"
 stay:∃a,mg "STAY"=some (.ref a)/\∀H:Hp,dI K H a ((["stay"]:List Str).map V.str)
theorem AB{i:Int}(e:∃t,mg x=some (.int i t))(h:Gl X x)(a:X.mg=mg)(hd:(x==("__debug__":Str))=false):Vf X (.Name x pos) (Vg (.int i)):=by
 obtain⟨t,e⟩:=e;exact M.jZ (v:=.int i) h (by rw[a];exact e) ⟨t,rfl⟩ (λ_=>.int) hd
theorem qv{w:M.Wd}:∀ss:List Str,M.aq K w (ss.map M.D.str) (ss.map V.str)
 |[]=>.nil
 |s::ss=>.cons .str (qv ss)
theorem Lk(e:∃a,mg x=some (.ref a)/\∀H:Hp,dI K H a (ss.map V.str))(j:Gl X x)(i:X.mg=mg)(l:X.K=K)(hd:(x==("__debug__":Str))=false):Vf X (.Name x pos) (Vg (.tup (ss.map M.D.str))):=by
 obtain⟨a,e,h⟩:=e;subst l;exact M.jZ (v:=.ref a) j (by rw[i];exact e) rfl (λw=>by simp only[M.Rep];exact⟨a,_,rfl,h _,qv ss⟩) hd
theorem Rc{y:Str}(e:∃t,mg x=some (.str y t))(h:Gl X x)(a:X.mg=mg)(hd:(x==("__debug__":Str))=false):Vf X (.Name x pos) (Vg (.str y)):=by
 obtain⟨t,e⟩:=e;exact M.jZ (v:=.str y) h (by rw[a];exact e) ⟨t,rfl⟩ (λ_=>.str) hd
theorem Txt.Nb(T:Txt K mg C fi)(h:Gl X "ANY":=by rfl)(a:X.mg=mg:=by rfl):Vf X (.Name "ANY" pos) (Vg (.str "*")):=Rc T.any h a (by decide+kernel)
theorem Txt.pY(T:Txt K mg C fi)(h:Gl X "MOST_KNOTS":=by rfl)(a:X.mg=mg:=by rfl):Vf X (.Name "MOST_KNOTS" pos) (Vg (.int 40)):=AB T.knots h a (by decide+kernel)
theorem Txt.sy(T:Txt K mg C fi)(h:Gl X "MOST_TIES":=by rfl)(a:X.mg=mg:=by rfl):Vf X (.Name "MOST_TIES" pos) (Vg (.int 300)):=AB T.ties h a (by decide+kernel)
theorem Txt.uY(T:Txt K mg C fi)(h:Gl X "BEGIN":=by rfl)(a:X.mg=mg:=by rfl):Vf X (.Name "BEGIN" pos) (Vg (.int 0)):=AB T.begin h a (by decide+kernel)
theorem Txt.EZ(T:Txt K mg C fi)(h:Gl X "END":=by rfl)(a:X.mg=mg:=by rfl):Vf X (.Name "END" pos) (Vg (.int 1)):=AB T.end_ h a (by decide+kernel)
theorem Txt.BU(T:Txt K mg C fi)(h:Gl X "LEAVES":=by rfl)(a:X.mg=mg:=by rfl)(i:X.K=K:=by rfl):Vf X (.Name "LEAVES" pos) (Vg (.tup [.str "stay",.str "step",.str "at",.str "off"])):=Lk (ss:=["stay","step","at","off"]) T.NH h a i (by decide+kernel)
theorem Txt.ni(T:Txt K mg C fi)(h:Gl X "STAY":=by rfl)(a:X.mg=mg:=by rfl)(i:X.K=K:=by rfl):Vf X (.Name "STAY" pos) (Vg (.tup [.str "stay"])):=Lk (ss:=["stay"]) T.stay h a i (by decide+kernel)
open M
theorem sz(h:decide (n<=100)=true):n<=yag:=by rw[yaf];have:=of_decide_eq_true h;lia
theorem aE{i:Int}{Q:AK}:zf (.tup ds) (.int i) S Q=∃e,fB ds i=some e/\Q (.dat e) S:=rfl
theorem cU{i:Int}{Q:AK}:zf (.lst ds) (.int i) S Q=∃e,fB ds i=some e/\Q (.dat e) S:=rfl
theorem cS{α:Type}{a:α}{r:List α}:fB (a::r) (0:Int)=some a:=(cR (j:=0) rfl:fB (a::r) ((0:Nat):Int)=some a)
theorem dh{α:Type}{a b:α}{r:List α}:fB (a::b::r) (1:Int)=some b:=(cR (j:=1) rfl:fB (a::b::r) ((1:Nat):Int)=some b)
theorem at2{α:Type}{a b c:α}{r:List α}:fB (a::b::c::r) (2:Int)=some c:=(cR (j:=2) rfl:fB (a::b::c::r) ((2:Nat):Int)=some c)
theorem yZ{α:Type}{a b c d:α}{r:List α}:fB (a::b::c::d::r) (3:Int)=some d:=(cR (j:=3) rfl:fB (a::b::c::d::r) ((3:Nat):Int)=some d)
theorem Ls{z:Nat}(h:z<ds.length):∃e,fB ds (z:Int)=some e/\e∈ds:=⟨ds[z],cR (zak h),zby h⟩
theorem pick{z:Nat}{Q:AK}(h:z<ds.length)(k:∀e∈ds,Q (.dat e) S):zf (.lst ds) (.int z) S Q:=by
 obtain⟨e,h1,h2⟩:=Ls h;exact⟨e,h1,k e h2⟩
inductive Lf where
 |stay|step (b:Bool) (x:Str)|mk (b:Bool) (m:Str)
noncomputable def side(b:Bool):Str:=if b then "on" else "back"
noncomputable def Po(b:Bool):Str:=if b then "at" else "off"
noncomputable def lD:Lf->D
 |.stay=>.tup [.str "stay"]
 |.step b x=>.tup [.str "step",.str (side b),.str x]
 |.mk b m=>.tup [.str (Po b),.str m]
noncomputable def WD:List Str:=["a","ab","stay","*"]
noncomputable def MK:List Str:=["a","many"]
def qh:Lf->Prop
 |.stay=>True
 |.step _ x=>x∈WD
 |.mk _ m=>m∈MK
theorem Df(h:x∈WD):gp x=true:=by
 simp only[WD,zci,zbA,or_false] at h;rcases h with rfl|rfl|rfl|rfl<;>decide+kernel
theorem qJ(h:x∈MK):gp x=true:=by
 simp only[MK,zci,zbA,or_false] at h;rcases h with rfl|rfl<;>decide+kernel
theorem sY{m:Str}:∀{mg:List Str},C8 (.str m) mg=decide (m∈mg)
 |[]=>rfl
 |a::r=>by
  have h:=sY (m:=m) (mg:=r);unfold C8 at h⊢;rw[zck,h];simp only[Lh];by_cases h1:m=a<;>by_cases h2:m∈r<;>simp[h1,h2]
noncomputable def hold(l:Lf)(ms:List Str):Bool:=match l with
 |.stay=>true
 |.step _ _=>false
 |.mk b m=>decide (m∈ms)==b
noncomputable def take(l:Lf)(s w:Str):Bool:=match l with
 |.step b x=>decide (side b=s)&&(decide (x=w)||decide (x="*"))
 |_=>false
def texts(ss:List Str):Prop:=ss.length<=50/\∀x∈ss,gp x=true
local macro_rules
 | `(tactic| push_cast [$xs,*]) => `(tactic| simp only [$xs,*,OV,RK,Gv,OW,Gn,aCall,jo,jE,iE,aC,Kf,TH,aB,OR,TQ,qe,CG,OX,O6,TL,zj,bV,rJ,tX,TJ,Gm,tT,Ba,Kd,wu,lE,xZ,Am,Jh,Je,Gr,Gg,wg,AR,JF,LP,HG,HE,true_and,RP,Kg,D4,DY,zP,D3,jL,b9,DZ,List.getElem?_cons_zero,zam,List.set_cons_zero,List.set_cons_succ,zcN.injEq,exists_eq_left',zcR.injEq,and_true,D.ty.injEq,D.bl.injEq,D.int.injEq,D.str.injEq,and_assoc,exists_and_left,exists_eq_left,exists_and_right,MM,Iv,zaU,if_true,if_false,Bool.not_true,Bool.not_false])
def DU:AN:=λa S Q=>∃(ns:List Int)(k:Nat),a=[.lz ns,.int k]/\∀z:Int,Q (.dat (.int z)) S
theorem OH(T:Txt K mg C fi)(F:Src K mg "_law_cell_at" kW (top 36)):Def P w K mg base 1 "_law_cell_at" kW (au K DU):=by
 refine cD F Mj (λi S Q h=>?_) (λf j A outer s H E l=>?_)
 ·obtain⟨ns,k,rfl,_⟩:=h;rfl
 ·refine⟨_,(Ux (UN (UH Vs (Uu 1) (UO UZ T.len (Uw (Uu 0))) (aK _)) (Uz (UE (US (Uu 0) (Uu 1)))) UP) (Uz (UE Uy))),λi S Q h=>?_⟩;obtain⟨ns,k,rfl,q⟩:=h;have a:aH Bv [.lz ns,.int k]=[some (.lz ns),some (.int k)]:=rfl;rw[a];push_cast[true_and];refine⟨ns.length,rfl,fc (λh=>?_) (λh=>q _)⟩;have h:k<ns.length:=by have:=of_decide_eq_true h;lia
  exact⟨ns[k],cR (zak h),aY rfl (q _)⟩
def rP:AN:=λa S Q=>a=[]/\Q (.new (.lst [.str "a",.str "ab",.str "stay"])) S
theorem JJ(T:Txt K mg C fi)(F:Src K mg "_law_words" fV (top 39)):Def P w K mg base 1 "_law_words" fV (au K rP):=by
 refine cD F HX (λi S Q h=>?_) (λf j A outer s H E l=>?_)
 ·obtain⟨rfl,_⟩:=h;rfl
 ·refine⟨_,(Uz (UE (UM (Uv UG (Uv UG (Uw UG)))))),λi S Q h=>?_⟩;obtain⟨rfl,q⟩:=h;have a:aH wD []=[]:=rfl;rw[a];push_cast[true_and];exact⟨sz rfl,gg rfl q⟩
def rS:AN:=λa S Q=>a=[]/\Q (.new (.lst [.str "a",.str "many"])) S
theorem JO(T:Txt K mg C fi)(F:Src K mg "_law_marks" fW (top 40)):Def P w K mg base 1 "_law_marks" fW (au K rS):=by
 refine cD F H9 (λi S Q h=>?_) (λf j A outer s H E l=>?_)
 ·obtain⟨rfl,_⟩:=h;rfl
 ·refine⟨_,(Uz (UE (UM (Uv UG (Uw UG))))),λi S Q h=>?_⟩;obtain⟨rfl,q⟩:=h;have a:aH wJ []=[]:=rfl;rw[a];push_cast[true_and];exact⟨sz rfl,gg rfl q⟩
def rT:AN:=λh S Q=>∃(a b:Nat),h=[.int a,.int b]/\a<5/\∀l:Lf,qh l->Q (.dat (lD l)) S
theorem Ox(T:Txt K mg C fi)(F:Src K mg "_law_leaf" gB (top 44))(i:Def P w K mg base 1 "_law_words" fV (au K rP))(j:Def P w K mg base 1 "_law_marks" fW (au K rS)):Def P w K mg base 2 "_law_leaf" gB (au K rT):=by
 refine cD F Me (λt S Q h=>?_) (λf u A outer s H E n=>?_)
 ·obtain⟨a,b,rfl,_⟩:=h;rfl
 ·refine⟨_,(Ux (UN (UH (UR n) (Uu 0) Uy (aK _)) (Uz (UE (UJ (Uw UG)))) UP) (Ux (UN (UH Vs (Uu 0) Uy (aK _)) (Uz (UE (UJ (Uv UG (Uv (US (UM (Uv UG (Uw UG))) (UB UU (Uu 1) Uy)) (Uv (US (UB UQ (M.jY i (n.mono (by decide)) (by rfl)) (UM (Uw UG))) (UB UU (UB Vu (Uu 1) Uy) Uy)) UA)))))) UP) (Uz (UE (UJ (Uv (US (UM (Uv UG (Uw UG))) (UB Vv (Uu 0) Uy)) (Uv (US (M.jY j (n.mono (by decide)) (by rfl)) (UB UU (Uu 1) Uy)) UA))))))),λt S Q h=>?_⟩;obtain⟨a,b,rfl,v,q⟩:=h;have o:aH Bo [.int a,.int b]=[some (.int a),some (.int b)]:=rfl;rw[o];push_cast[true_and];refine fc (λh=>⟨sz rfl,aY rfl (q .stay trivial)⟩) (λh=>?_);have G:¬((a:Int)=0):=by simpa using h
  refine fc (λh1=>?_) (λh1=>?_)
  ·refine⟨sz rfl,by decide,?_⟩;rw[show((b:Int) % 2)=((b % 2:Nat):Int) by lia,show((b:Int) / 2 % 4)=((b / 2 % 4:Nat):Int) by lia];refine pick (by show b % 2<2;lia) λe l=>?_;obtain⟨c,rfl⟩:∃c,e=.str (side c):=by
    simp only[zci,zbA,or_false] at l;rcases l with rfl|rfl
    ·exact⟨true,rfl⟩
    ·exact⟨false,rfl⟩
   refine⟨rfl,sz rfl,sz rfl,⟨by decide,by decide⟩,by decide,?_⟩;refine pick (by show b / 2 % 4<4;lia) λe l=>?_;obtain⟨x,rfl,m⟩:∃x,e=.str x/\x∈WD:=by
    simp only[zbw,zbR,zci,zbA,or_false] at l;rcases l with rfl|rfl|rfl|rfl<;>exact⟨_,rfl,by simp[WD]⟩
   exact⟨sz rfl,aY rfl (q (.step c x) m)⟩
  ·have y:¬((a:Int)<3):=by simpa using h1
   refine⟨sz rfl,?_⟩;rw[show((b:Int) % 2)=((b % 2:Nat):Int) by lia,show((a:Int) - 3)=((a - 3:Nat):Int) by lia];refine pick (by show a - 3<2;lia) λe l=>?_;obtain⟨c,rfl⟩:∃c,e=.str (Po c):=by
    simp only[zci,zbA,or_false] at l;rcases l with rfl|rfl
    ·exact⟨true,rfl⟩
    ·exact⟨false,rfl⟩
   refine⟨rfl,by decide,?_⟩;refine pick (by show b % 2<2;lia) λe l=>?_;obtain⟨x,rfl,m⟩:∃x,e=.str x/\x∈MK:=by
    simp only[zci,zbA,or_false] at l;rcases l with rfl|rfl<;>exact⟨_,rfl,by simp[MK]⟩
   exact⟨sz rfl,aY rfl (q (.mk c x) m)⟩
noncomputable def nL(ns:List Nat):List D:=ns.map λn:Nat=>D.int n
theorem iY:∀ns:List Nat,bH (nL ns)=true
 |[]=>rfl
 |n::ns=>by
  have:=iY ns;unfold nL at this⊢;simp only[zcj,bH,bY,this,zcq]
theorem oJ{i j:Int}{Q:AK}:CF (.int i) (.int j) S Q=(C5 i j/\Q (.dat (.int (i*j))) S):=rfl
def m7:AN:=λl S Q=>∃(z:Int)(h:List Nat),l=[.int z,.lst (nL h)]/\(∀n∈h,0<n/\n<1000)/\h.length<=100/\∀j:List Nat,j.length=h.length->(∀(i:Nat)(a b:Nat),j[i]? =some a->h[i]? =some b->a<b)->Q (.new (.lst (nL j))) S
theorem JV(T:Txt K mg C fi)(F:Src K mg "_law_draws" e7 (top 37)):Def P w K mg base 1 "_law_draws" e7 (au K m7):=by
 refine cD F fh (λds S Q h=>?_) (λf cdv A outer s H E o=>?_)
 ·obtain⟨z,m,rfl,_⟩:=h;rfl
 ·refine⟨_,(Ux (UD 2 fh.nd (UY (UM UA))) (Ux (UD 3 fh.nd (UB Vv (Uu 0) (UB M.Aj Uy Uy))) (Ux (UW PassesOwn.never rfl (Vh (by rfl) T.range (Uv (UO UZ T.len (Uw (Uu 1))) UA)) (UI 4 fh.nd) (Ux (UD 5 fh.nd (UB UU (UB U5 (UB UQ (UB UU (Uu 0) Uy) Uy) (UB UQ (UB U5 (Uu 4) (Uu 4)) Uy)) Uy)) (Ux (UD 5 fh.nd (UB UU (UB U5 (UB UQ (UB UQ (UB U5 (Uu 5) (Uu 5)) (UB U5 Uy (Uu 4))) Uy) Uy) Uy)) (Ux (UN (UH M.Nv (Uu 0) (UB M.Aj Uy Uy) (aK _)) (Uz (UD 5 fh.nd (Uu 3))) UP) (Ux (U0 (Vb PySem.F.plainAttrs_list PySem.F.slot_list_append PySem.F.type_list_append Vr (Uu 2) (Uv (UB UU (Uu 5) (US (Uu 1) (Uu 4))) UA))) (Uz (UD 3 fh.nd (UB Vu (Uu 3) (US (Uu 1) (Uu 4)))))))))) (Uz (UE (Uu 2)))))),λds S Q h=>?_⟩;obtain⟨z,m,rfl,hs,hl,q⟩:=h;have e0:aH wR [.int z,.lst (nL m)]=[some (.int z),some (.lst (nL m)),none,none,none,none]:=rfl;rw[e0];push_cast[bW,wu,jE,d9,mQ];refine⟨zcL _,⟨by decide,by decide,by decide⟩,m.length,by simp[iu,nL],by lia,by lia,?_⟩;refine bf (λrest δ S'=>∃(l:List Nat)(Z:Int)(v4 v5:Option D),δ=[some (.int z),some (.lst (nL m)),some (.loc S.length),some (.int Z),v4,v5]/\S'=S++[some (.lst (nL l))]/\rest=((zcO m.length).drop l.length).map (λa:Nat=>D.int a)/\l.length<=m.length/\∀(i a b:Nat),l[i]? =some a->m[i]? =some b->a<b) ?_ ?_ _ _ _ ⟨[],_,none,none,rfl,rfl,by simp[cy],zcL _,λi a b h=>by simp at h⟩
  ·rintro δ S' ⟨l,Z,v4,v5,rfl,rfl,o,hle,G⟩;have O:l.length=m.length:=by
    have:=congrArg zcJ o;simp at this;lia
   refine⟨trivial,_,rfl,?_⟩;exact se (n:=S.length) (zcK _) (iY l) (by simp) (by simp) (q l O G)
  ·rintro t rest δ S' N' ⟨l,Z,v4,v5,rfl,rfl,o,hle,G⟩ hN';have Y:l.length<m.length:=by
    rcases zcC l.length m.length with h|h
    ·exact h
    ·rw[List.drop_of_length_le (by simpa using h)] at o;simp at o
   rw[zag (by simpa using Y),zcj,zaP] at o;injection o with e1 e2;subst e1;subst e2;have hb:m[l.length]? =some m[l.length]:=zak Y;obtain⟨b0,b1⟩:=hs _ (zby Y);generalize m[l.length]=b at hb b0 b1;have U:fB (nL m) ((l.length:Nat):Int)=some (.int (b:Int)):=cR (by rw[nL,zba,hb];rfl);have es:aT (S++[some (.lst (nL l))]) (.loc S.length)=.lst (nL l):=by simp[aT,MO.d]
   have W:∀(I:Int)(L:Option D),Fy "list" (aT (S++[some (.lst (nL l))]) (.loc S.length))/\zf (.lst (nL m)) (.int ((l.length:Nat):Int)) (S++[some (.lst (nL l))]) (λy S2=>aI (λx j=>0<j) (λi j=>D.int (i % j)) (.int I) y.d S2 λx X=>nE (.loc S.length) [x.d] X λx X=>zf (.lst (nL m)) (.int ((l.length:Nat):Int)) X λy S2=>aI Ph (λi j=>D.int (i / j)) (.int Z) y.d S2 λr X=>N' [some (.int z),some (.lst (nL m)),some (.loc S.length),some r.d,some (.int ((l.length:Nat):Int)),L] X):=λI L=>by
    rw[es];refine⟨rfl,?_⟩;push_cast[cU,U,zcN.injEq,exists_eq_left'];have h0:=zbX I (show(b:Int)≠0 by lia);have h1:=zaS I (show(0:Int)<b by lia);obtain⟨c,hc⟩:∃c:Nat,I % (b:Int)=c:=⟨(I % b).toNat,by lia⟩
    rw[hc] at h1⊢;refine⟨by lia,S.length,nL l,_,rfl,rfl,by simp,by rw[nL,zbK,yaf];lia,?_⟩;rw[zau _ _ (zcK _),zcD];push_cast[cU,U,zcN.injEq,exists_eq_left'];refine⟨⟨by lia,by lia⟩,hN' _ _ ⟨l++[c],_,_,_,rfl,by simp[nL],by rw[zaM];rfl,by rw[zaM];exact Y,λi x y h2 h3=>?_⟩⟩;rcases zcC i l.length with h|h
    ·rw[zae h] at h2;exact G i x y h2 h3
    ·rw[zab h] at h2;obtain rfl:i=l.length:=by
      have:=(zad.mp h2).1;simp at this;lia
     rw[hb] at h3;cases h3;simp at h2;lia
   refine⟨trivial,?_⟩;push_cast[oJ];have b0:=zbX z (show(1000003:Int)≠0 by decide);have b1:=zaS z (show(0:Int)<1000003 by decide);refine⟨by decide,.inl ⟨by lia,by lia⟩,.inl ⟨by lia,by lia⟩,by decide,?_⟩;generalize (z % 1000003+1)*((l.length:Int)*(l.length:Int)+48271)=u;have c0:=zbX u (show(65537:Int)≠0 by decide);have c1:=zaS u (show(0:Int)<65537 by decide);generalize u % 65537=v at c0 c1⊢;refine⟨.inl ⟨by lia,by lia⟩,.inl ⟨by decide,by decide⟩,.inr ⟨by decide,by decide⟩,by decide,⟨by decide,by decide,by decide⟩,fc (λ_=>?_) (λ_=>?_)⟩
   ·push_cast[ue];exact W _ _
   ·push_cast[ue];exact W _ _
open PySem L2 M
abbrev Mv:=Nat×Lf×Nat
inductive Pt where
 |lf (l:Lf)|many (p:Pt)|seq (ps:List Pt)|alt (ps:List Pt)
mutual
noncomputable def tD:Pt->D
 |.lf l=>lD l
 |.many p=>.tup [.str "many",tD p]
 |.seq ps=>.tup [.str "then",.tup (uw ps)]
 |.alt ps=>.tup [.str "either",.tup (uw ps)]
noncomputable def uw:List Pt->List D
 |[]=>[]
 |p::ps=>tD p::uw ps
end
theorem jJ:∀ps,uw ps=ps.map tD
 |[]=>rfl
 |p::ps=>by simp[uw,jJ ps]
mutual
noncomputable def oc:Pt->Nat
 |.lf _=>1
 |.many p=>oc p+2
 |.seq ps|.alt ps=>ud ps+1
noncomputable def ud:List Pt->Nat
 |[]=>0
 |p::ps=>oc p+ud ps
end
mutual
noncomputable def dp:Pt->Nat
 |.lf _=>0
 |.many p=>dp p+1
 |.seq ps|.alt ps=>Hx ps+1
noncomputable def Hx:List Pt->Nat
 |[]=>0
 |p::ps=>max (dp p) (Hx ps)
end
mutual
def mZ:Pt->Prop
 |.lf l=>qh l
 |.many p=>mZ p
 |.seq ps|.alt ps=>qf ps
def qf:List Pt->Prop
 |[]=>True
 |p::ps=>mZ p/\qf ps
end
theorem ou:∀{ps:List Pt},qf ps->∀p∈ps,mZ p
 |[],_,p,h=>by simp at h
 |q::ps,g,p,h=>by
  simp only[qf] at g;rcases zci.mp h with rfl|h
  ·exact g.1
  ·exact ou g.2 p h
theorem tF:∀{ps:List Pt},∀p∈ps,dp p<=Hx ps
 |[],p,h=>by simp at h
 |q::ps,p,h=>by
  simp only[Hx];rcases zci.mp h with rfl|h
  ·lia
  ·have:=tF p h;lia
theorem ia:∀p,0<oc p:=λp=>by cases p<;>simp only[oc]<;>lia
theorem sC:∀ps:List Pt,ps.length<=ud ps
 |[]=>zcK _
 |p::ps=>by
  have:=sC ps;have:=ia p;simp only[ud,zbq];lia
structure Wr where
 ms:Nat->List Str
 sd:Nat->Str
 wd:Nat->Str
def yH(W:Wr)(l:Lf)(i j:Nat):Prop:=(hold l (W.ms i)=true/\i=j)∨(take l (W.sd i) (W.wd i)=true/\j=i+1)
inductive Kl(R:Nat->Nat->Prop):Nat->Nat->Prop
 |nil {i:Nat}:Kl R i i
 |snoc {i k j:Nat}:Kl R i k->R k j->Kl R i j
mutual
def T6(W:Wr):Pt->Nat->Nat->Prop
 |.lf l,i,j=>yH W l i j
 |.many p,i,j=>Kl (T6 W p) i j
 |.seq ps,i,j=>R3 W ps i j
 |.alt ps,i,j=>R4 W ps i j
def R3(W:Wr):List Pt->Nat->Nat->Prop
 |[],i,j=>i=j
 |p::ps,i,j=>∃k,T6 W p i k/\R3 W ps k j
def R4(W:Wr):List Pt->Nat->Nat->Prop
 |[],_,_=>False
 |p::ps,i,j=>T6 W p i j∨R4 W ps i j
end
abbrev Ed:=Nat×Pt×Nat
noncomputable def eM(m:Mv):Ed:=(m.1,.lf m.2.1,m.2.2)
structure jc(p:Pt)(n:Nat)(E:List Ed):Prop where
 two:2<=n
 Lb:∀e∈E,e.1<n/\e.2.2<n
theorem jc.start(p:Pt):jc p 2 [(0,p,1)]:=⟨zcK _,by simp⟩
theorem jc.cut{p:Pt}{k:Nat}{e:Ed}{E C:List Ed}(h:jc p n (e::E))(a:∀c∈C,c.1<n+k/\c.2.2<n+k):jc p (n+k) (C++E):=
 ⟨by have:=h.two;lia,λc i=>(zbJ.mp i).elim (a c) λz=>by have:=h.Lb c (zay _ z);lia⟩
theorem jc.OJ{p:Pt}{E a:List Ed}(h:jc p n E)(g:∀e,e∈a↔e∈E):jc p n a:=⟨h.two,λe i=>h.Lb e ((g e).mp i)⟩
theorem jc.alt{p:Pt}{a b:Nat}{ps:List Pt}{E:List Ed}(h:jc p n ((a,.alt ps,b)::E)):jc p n (ps.map (λq=>(a,q,b))++E):=
 h.cut (k:=0) λc i=>by obtain⟨q,_,rfl⟩:=zcw.mp i;exact h.Lb (a,.alt ps,b) (by simp)
theorem jc.many{p q:Pt}{a b:Nat}{E:List Ed}(h:jc p n ((a,.many q,b)::E)):jc p (n+1) ([(a,.lf .stay,n),(n,q,n),(n,.lf .stay,b)]++E):=
 h.cut (k:=1) λc i=>by
  have j:a<n/\b<n:=h.Lb (a,.many q,b) (by simp);simp only[zci,zbA,or_false] at i;rcases i with rfl|rfl|rfl<;>simp<;>lia
theorem jc.nil{p:Pt}{a b:Nat}{E:List Ed}(h:jc p n ((a,.seq [],b)::E)):jc p n ([(a,.lf .stay,b)]++E):=
 h.cut (k:=0) λc i=>by rw[zaO.mp i];exact h.Lb (a,.seq [],b) (by simp)
noncomputable def chain(a:Nat):List Pt->Nat->Nat->List Ed
 |[],_,_=>[]
 |[p],_,b=>[(a,p,b)]
 |p::q::ps,n,b=>(a,p,n)::chain n (q::ps) (n+1) b
theorem q9:∀(ps:List Pt)(q:Pt){a n b k:Nat},a<k->b<k->n+ps.length<=k->∀c∈chain a (q::ps) n b,c.1<k/\c.2.2<k
 |[],q,_,_,_,_,ha,hb,_,c,h=>by simp[chain] at h;subst h;exact⟨ha,hb⟩
 |p::ps,q,_,n,_,_,ha,hb,hn,c,h=>by
  simp only[zbq] at hn;rcases zci.mp (show c∈_::_ from h) with rfl|h
  ·exact⟨ha,by show n<_;lia⟩
  ·exact q9 ps p (by lia) hb (by lia) c h
theorem jc.seq{p:Pt}(ps:List Pt)(q:Pt){a b:Nat}{E:List Ed}(h:jc p n ((a,.seq (q::ps),b)::E)):jc p (n+ps.length) (chain a (q::ps) n b++E):=
 h.cut (k:=ps.length) λc i=>by
  have j:a<n/\b<n:=h.Lb (a,.seq (q::ps),b) (by simp);exact q9 ps q (by lia) (by lia) (zcK _) c i
open PySem L2 M
theorem bA:∀(n:Nat)(l:List Nat),l.Nodup->(∀x∈l,x<n)->l.length<=n
 |0,[],_,_=>zcK _
 |0,x::_,_,h=>absurd (h x (by simp)) (by lia)
 |n+1,l,h1,h2=>by
  have:=bA n (l.erase n) (h1.erase n) λx i=>by
   have a:=(List.Nodup.mem_erase_iff h1).mp i;have:=h2 x a.2;have:=a.1;lia
  have j:l.length - 1<=(l.erase n).length:=by
   rw[List.length_erase];split<;>lia
  lia
theorem oE{ks:List Nat}{k:Nat}(h:ks.Nodup)(i:k ∉ ks):(ks++[k]).Nodup:=by
 rw[zbf];refine⟨h,by simp,λa l b j=>?_⟩;rw[zaO.mp j];intro e;exact i (e▸l)
inductive Reach(mv:List Mv)(ms:List Str)(st:List Nat):Nat->Prop
 |base {x:Nat}:x∈st->Reach mv ms st x
 |go {m:Mv}:Reach mv ms st m.1->m∈mv->hold m.2.1 ms=true->Reach mv ms st m.2.2
def nH(n:Nat)(m:Mv):Prop:=m.1<n/\qh m.2.1/\m.2.2<n
theorem Reach.lt{mv:List Mv}{st:List Nat}(i:∀m∈mv,nH n m)(a:∀s∈st,s<n){x:Nat}(h:Reach mv ms st x):x<n:=by
 induction h with
 |base h=>exact a _ h
 |go _ h _ _=>exact(i _ h).2.2
theorem Reach.closed{mv:List Mv}{st ks:List Nat}(h1:∀s∈st,s∈ks)(h2:∀m∈mv,m.1∈ks->hold m.2.1 ms=true->m.2.2∈ks){x:Nat}(h:Reach mv ms st x):x∈ks:=by
 induction h with
 |base h=>exact h1 _ h
 |go _ h g ih=>exact h2 _ h ih g
def O7(mv:List Mv)(st:List Nat)(s w:Str)(x:Nat):Prop:=∃m∈mv,m.1∈st/\take m.2.1 s w=true/\m.2.2=x
theorem sub_len{α:Type}[DecidableEq α]:∀(l L:List α),l.Nodup->(∀x∈l,x∈L)->l.length<=L.length
 |[],_,_,_=>zcL _
 |a::l,L,h1,h2=>by
  rw[zbM] at h1;have i:=h2 a (by simp);have:=sub_len l (L.erase a) h1.2 λx h=>(List.mem_erase_of_ne (λe:x=a=>h1.1 (e▸h))).mpr (h2 x (zay _ h));rw[zal i] at this;have:=zao i;rw[zbq];lia
open PySem L2 M
inductive wz(W:Wr)(mv:List Mv):Nat->Nat->Nat->Nat->Prop
 |nil {x i:Nat}:wz W mv x i x i
 |go {m:Mv}{j y k:Nat}{i:Nat}:m∈mv->yH W m.2.1 i j->wz W mv m.2.2 j y k->wz W mv m.1 i y k
theorem wz.snoc{W:Wr}{mv:List Mv}{x k:Nat}{m:Mv}{y:Nat}(h:wz W mv x i y j):m∈mv->yH W m.2.1 j k->y=m.1->wz W mv x i m.2.2 k:=by
 induction h with
 |nil=>intro h1 h2 e;subst e;exact .go h1 h2 .nil
 |go g1 g2 _ ih=>intro h1 h2 e;exact .go g1 g2 (ih h1 h2 e)
theorem Oe{W:Wr}{l:Lf}(h:yH W l i j):i<=j:=by
 rcases h with⟨_,h⟩|⟨_,h⟩<;>lia
theorem wz.up{W:Wr}{mv:List Mv}{x y:Nat}(h:wz W mv x i y j):i<=j:=by
 induction h with
 |nil=>exact zcK _
 |go _ h1 _ ih=>exact zcy (Oe h1) ih
noncomputable def J4:Lf->Lf
 |.step b x=>.step (!b) x
 |l=>l
theorem RJ(l:Lf):J4 (J4 l)=l:=by cases l<;>simp[J4]
noncomputable def AQ(m:Mv):Mv:=(m.2.2,J4 m.2.1,m.1)
theorem tw(m:Mv):AQ (AQ m)=m:=by simp[AQ,RJ]
structure Rv(L:Nat)(W W':Wr):Prop where
 ms:∀i,i<=L->W'.ms i=W.ms (L - i)
 sd:∀i,i<L->∃b,W.sd (L - 1 - i)=side b/\W'.sd i=side (!b)
 wd:∀i,i<L->W'.wd i=W.wd (L - 1 - i)
theorem uH{a:Bool}(h:side a=side b):a=b:=by
 cases a<;>cases b<;>first|rfl|exact absurd h (by decide+kernel)
theorem Of{W n:Wr}(R:Rv L W n){l:Lf}(q:j<=L)(h:yH W l i j):yH n (J4 l) (L - j) (L - i):=by
 rcases h with⟨h1,rfl⟩|⟨h1,rfl⟩
 ·refine .inl ⟨?_,rfl⟩;rw[R.ms _ (by lia),show L - (L - i)=i by lia];cases l<;>simpa[J4,hold] using h1
 ·refine .inr ⟨?_,by lia⟩;cases l with
  |step c x=>
   obtain⟨b,m,o⟩:=R.sd (L - (i+1)) (by lia);rw[show L - 1 - (L - (i+1))=i by lia] at m;have a:=R.wd (L - (i+1)) (by lia);rw[show L - 1 - (L - (i+1))=i by lia] at a;simp only[take,J4,zbG,decide_eq_true_eq] at h1⊢;rw[m] at h1;rw[o,a];have:c=b:=uH h1.1;subst this;exact⟨rfl,h1.2⟩
  |stay=>cases h1
  |mk _ _=>cases h1
theorem wz.rev{W l:Wr}(R:Rv L W l){mv:List Mv}{x y:Nat}(h:wz W mv x i y j)(a:j<=L){mv':List Mv}(n:∀m∈mv,AQ m∈mv'):wz l mv' y (L - j) x (L - i):=by
 induction h with
 |nil=>exact .nil
 |go h1 h2 h3 ih=>
  have:=ih a;exact this.snoc (m:=AQ _) (n _ h1) (Of R (zcy h3.up a) h2) rfl
theorem Rv.symm{W j:Wr}(R:Rv L W j):Rv L j W:=by
 refine⟨λi a=>?_,λi a=>?_,λi a=>?_⟩
 ·rw[R.ms _ (by lia),show L - (L - i)=i by lia]
 ·obtain⟨b,h,l⟩:=R.sd (L - 1 - i) (by lia);rw[show L - 1 - (L - 1 - i)=i by lia] at h;exact⟨!b,l,by rw[h,Bool.not_not]⟩
 ·rw[R.wd _ (by lia),show L - 1 - (L - 1 - i)=i by lia]
theorem Dm{b:Nat}{W u:Wr}(R:Rv L W u){es:List Nat}{mv mv':List Mv}(I:b<n)(F:∀e∈es,e<n)(s:∀m∈mv,m.1<n/\m.2.2<n)(t:∀m,m∈mv'↔(∃l∈mv,AQ l=m)∨∃e∈es,m=(n,Lf.stay,e)):
  wz u mv' n 0 b L↔∃e∈es,wz W mv b 0 e L:=by
 constructor
 ·intro h;have key:∀{x i y j},wz u mv' x i y j->x<n->x<n/\wz u (mv.map AQ) x i y j:=λh=>by
   induction h with
   |nil=>exact λh=>⟨h,.nil⟩
   |go h1 h2 _ ih=>
    intro v;rcases(t _).mp h1 with⟨l,a,q⟩|⟨e,a,q⟩
    ·subst q;exact⟨v,.go (zcw.mpr ⟨l,a,rfl⟩) h2 (ih (s l a).1).2⟩
    ·rw[q] at v;exact absurd v (zcn _)
  generalize hz:(0:Nat)=z at h;generalize E:n=x at h;cases h with
  |nil=>lia
  |@go m j _ _ _ h1 h2 h3=>
   rcases(t _).mp h1 with⟨l,a,q⟩|⟨e,a,q⟩
   ·have:=(s l a).2;rw[<-q] at E;simp only[AQ] at E;lia
   ·subst q;subst hz;obtain⟨_,rfl⟩|⟨G,_⟩:=h2
    ·refine⟨e,a,?_⟩;have:=((key h3 (F e a)).2.rev R.symm (zcK _) (mv':=mv) λm o=>?_)
     ·rwa [zcD,Nat.sub_zero] at this
     ·obtain⟨l,H,rfl⟩:=zcw.mp o;rw[tw];exact H
    ·cases G
 ·rintro⟨e,C,h⟩;have:=h.rev R (zcK _) (mv':=mv') λm o=>(t _).mpr (.inl ⟨m,o,rfl⟩);rw[zcD,Nat.sub_zero] at this;exact .go (m:=(n,Lf.stay,e)) ((t _).mpr (.inr ⟨e,C,rfl⟩)) (.inl ⟨rfl,rfl⟩) this
inductive Rb(W:Wr)(mv:List Mv)(b:Nat):Nat->Nat->Prop
 |base:Rb W mv b b 0
 |go {m:Mv}{i j:Nat}:m∈mv->Rb W mv b m.1 i->yH W m.2.1 i j->Rb W mv b m.2.2 j
theorem MN{W:Wr}{mv:List Mv}{b x:Nat}:Rb W mv b x i↔wz W mv b 0 x i:=by
 constructor
 ·intro r
  induction r with
  |base=>exact .nil
  |go h1 _ h2 ih=>exact ih.snoc h1 h2 rfl
 ·intro p;have:∀{x i y j},wz W mv x i y j->Rb W mv b x i->Rb W mv b y j:=λp=>by
   induction p with
   |nil=>exact id
   |go h1 h2 _ ih=>exact λr=>ih (.go h1 r h2)
  exact this p .base
def Bb(W:Wr)(mv:List Mv)(b n x:Nat):Prop:=(n=0/\x=b)∨∃k m,n=k+1/\m∈mv/\Rb W mv b m.1 k/\take m.2.1 (W.sd k) (W.wd k)=true/\m.2.2=x
theorem jW{W:Wr}{mv:List Mv}{b:Nat}{st:List Nat}(h:∀x,x∈st↔Bb W mv b n x)(x:Nat):Reach mv (W.ms n) st x↔Rb W mv b x n:=by
 constructor
 ·intro r
  induction r with
  |base g=>
   rcases(h _).mp g with⟨rfl,rfl⟩|⟨k,m,rfl,a,r,l,rfl⟩
   ·exact .base
   ·exact .go a r (.inr ⟨l,rfl⟩)
  |go _ a q ih=>exact .go a ih (.inl ⟨q,rfl⟩)
 ·intro r;generalize o:n=n' at r
  induction r with
  |base=>subst o;exact .base ((h _).mpr (.inl ⟨rfl,rfl⟩))
  |@go m i j a r hf ih=>
   rcases hf with⟨q,rfl⟩|⟨l,rfl⟩
   ·subst o;exact .go (ih rfl) a q
   ·exact .base ((h _).mpr (.inr ⟨i,m,o,a,r,l,rfl⟩))
theorem DA{W:Wr}{mv:List Mv}{b:Nat}{st:List Nat}(h:∀x,x∈st↔Rb W mv b x n)(x:Nat):O7 mv st (W.sd n) (W.wd n) x↔Bb W mv b (n+1) x:=by
 constructor
 ·rintro⟨m,a,h1,h2,rfl⟩;exact .inr ⟨n,m,rfl,a,(h _).mp h1,h2,rfl⟩
 ·rintro(⟨h1,_⟩|⟨k,m,e,a,r,i,rfl⟩)
  ·cases h1
  ·obtain rfl:n=k:=by lia
   exact⟨m,a,(h _).mpr r,i,rfl⟩
open PySem L2 M M6
noncomputable abbrev G2:List Str:=["joint"]
noncomputable abbrev lY:=G2
theorem P9:av G2 lY (ah (top 11)):=L2.bO
noncomputable abbrev G8:List Str:=["span","fresh","one","joint","other","firsts","lasts"]
noncomputable abbrev pP:=G8.take 2
theorem qu:av G8 pP (ah (top 12)):=L2.bO
noncomputable def eD(e:Ed):D:=.tup [.int e.1,tD e.2.1,.int e.2.2]
noncomputable def vC:Pt->Bool
 |.lf _=>true
 |_=>false
noncomputable def ns:Pt->Nat
 |.many _=>1
 |.seq ps=>ps.length - 1
 |_=>0
noncomputable def gy(a n b:Nat):Pt->List Ed
 |.lf _=>[]
 |.alt ps=>ps.map λq=>(a,q,b)
 |.many q=>[(a,.lf .stay,n),(n,q,n),(n,.lf .stay,b)]
 |.seq []=>[(a,.lf .stay,b)]
 |.seq (q::ps)=>chain a (q::ps) n b
noncomputable def z4(n k:Nat):List D:=(zcO k).map λi:Nat=>D.int ((n:Int)+i)
theorem EA(n k:Nat):z4 n (k+1)=.int n::z4 (n+1) k:=by
 unfold z4;rw[List.range_succ_eq_map,zcj,zcv];refine congr (congrArg _ (by simp)) (zaF λi _=>?_);simp only[Function.comp];congr 1;lia
theorem qZ:∀(ps:List Pt)(q:Pt)(a n b:Nat),(uq (.int a::z4 n ps.length) (uw (q::ps)) (z4 n ps.length++[.int b])).map D.tup=(chain a (q::ps) n b).map eD
 |[],q,a,n,b=>rfl
 |q2::ps,q,a,n,b=>by
  have h:=qZ ps q2 n (n+1) b;rw[zbq,EA,chain,zcj,<-h,uw];unfold uq;rw[zbw,zaN,zaN,zcj,zcj];rfl
mutual
theorem lg:∀p:Pt,bY (tD p)=true
 |.lf l=>by cases l<;>simp[tD,lD,bY,bH]
 |.many p=>by simp[tD,bY,bH,lg p]
 |.seq ps=>by simp[tD,bY,bH,jI ps]
 |.alt ps=>by simp[tD,bY,bH,jI ps]
theorem jI:∀ps:List Pt,bH (uw ps)=true
 |[]=>by simp[uw,bH]
 |p::ps=>by simp[uw,bH,lg p,jI ps]
end
theorem tE(e:Ed):bY (eD e)=true:=by simp[eD,bY,bH,lg]
theorem cZ{α:Type}{f:α->D}:∀{l:List α},(∀x∈l,bY (f x)=true)->bH (l.map f)=true
 |[],_=>rfl
 |x::l,h=>by simp only[zcj,bH,h x (by simp),cZ λy a=>h y (zay _ a),zcq]
theorem fZ(ps:List Pt):(uw ps).length=ps.length:=by rw[jJ,zbK]
def DK:AN:=λa S Q=>∃p:Pt,a=[tD p]/\vC p=false/\Q (.dat (.int (ns p))) S
theorem Rw(T:Txt K mg C fi)(F:Src K mg "new_stands" lY (top 11)):Def P w K mg base 1 "new_stands" lY (au K DK):=by
 refine cD F P9 (λm S Q h=>?_) (λf n A outer s H E a=>?_)
 ·obtain⟨p,rfl,_⟩:=h;rfl
 ·refine⟨_,(Ux (UN (UH (UR a) (UC (Uu 0)) UG (aK _)) (Uz (UE Uy)) UP) (Uz (UE (M.gZ (UH (UR a) (UC (Uu 0)) UG (aK _)) (UO (M.Nq rfl) T.max (Uv (UB Vv (UO UZ T.len (Uv (UC (Uu 0)) UA)) Uy) (Uw Uy))) Uy)))),λm S Q h=>?_⟩;obtain⟨p,rfl,i,q⟩:=h;have j:aH G2 [tD p]=[some (tD p)]:=rfl;rw[j];cases p with
  |lf l=>cases i
  |many p=>
   push_cast[tD,aE,cS,dh];rw[yIp (by decide)];exact q
  |seq ps=>
   push_cast[tD,aE,cS,dh];rw[yIn (by decide),yIp (by decide)];refine⟨ps.length,by simp[iu,fZ],_,_,rfl,?_⟩;have e:(if(0:Int)> (ps.length:Int) - 1 then(0:Int) else(ps.length:Int) - 1)=((ns (.seq ps):Nat):Int):=by
    simp only[ns];split<;>lia
   rw[e];exact aY rfl q
  |alt ps=>
   push_cast[tD,aE,cS,dh];rw[yIn (by decide),yIn (by decide)];exact q
def K1:AN:=λh S Q=>∃(p:Pt)(a n b:Nat),h=[eD (a,p,b),.int n]/\vC p=false/\n<=1000/\oc p<=100/\Q (.new (.lst ((gy a n b p).map eD))) S
theorem RC(T:Txt K mg C fi)(F:Src K mg "cut" pP (top 12))(i:Def P w K mg base 1 "new_stands" lY (au K DK)):Def P w K mg base 2 "cut" pP (au K K1):=by
 refine cD F qu (λL S Q h=>?_) (λf O A outer s H E o=>?_)
 ·obtain⟨p,a,n,b,rfl,_⟩:=h;rfl
 ·refine⟨_,(Ux (UD 2 qu.nd (UC (Uu 0))) (Ux (UD 3 qu.nd (UC (Uu 0))) (Ux (UD 4 qu.nd (UC (Uu 0))) (Ux (UN (UH (UR o) (UC (Uu 3)) UG (aK _)) (Uz (UE (Vc ["part","one","other"] [none,some 2,some 4] (UT (UC (Uu 3))) (λ_ _ _ _=>Vi) (λ_ _ _ _=>(UJ (Uv (Uu 1) (Uv (Uu 0) (Uw (Uu 2))))))))) UP) (Ux (UN (UH (UR o) (UC (Uu 3)) UG (aK _)) (Uz (UE (UM (Uv (UJ (Uv (Uu 2) (Uv T.ni (Uw (Uu 1))))) (Uv (UJ (Uv (Uu 1) (Uv (UC (Uu 3)) (Uw (Uu 1))))) (Uv (UJ (Uv (Uu 1) (Uv T.ni (Uw (Uu 4))))) UA)))))) UP) (Ux (UN (U9 (U4 (UC (Uu 3)))) (Uz (UE (UM (Uv (UJ (Uv (Uu 2) (Uv T.ni (Uw (Uu 4))))) UA)))) UP) (Ux (UD 5 qu.nd (UB UQ (UM (Uw (Uu 2))) (M.oj rfl (by rfl) T.list (by rfl) T.range (Uv (Uu 1) (Uv (UB UQ (Uu 1) (UK i o (Uw (Uu 3)))) UA))))) (Ux (UD 6 qu.nd (UB UQ (M.eV M.u7 (Uu 5) (Vw Uy) M.iZ) (UM (Uw (Uu 4))))) (Uz (UE (M.su rfl (by rfl) T.list (by rfl) T.zip (Uv (Uu 5) (Uv (UC (Uu 3)) (Uw (Uu 6))))))))))))))),λL S Q h=>?_⟩;obtain⟨p,a,n,b,rfl,v,W,t,q⟩:=h;have I:aH G8 [eD (a,p,b),.int n]=[some (eD (a,p,b)),some (.int n),none,none,none,none,none]:=rfl;rw[I];push_cast[eD,aE,cS,dh,at2];cases p with
  |lf l=>cases v
  |many p=>
   push_cast[tD,aE,cS,dh];rw[yIn (by decide),yIp (by decide)];refine⟨sz rfl,sz rfl,sz rfl,sz rfl,gg ?_ q⟩;simp[bY,bH,lg]
  |alt ps=>
   push_cast[tD,aE,cS,dh];rw[yIp (by decide)];push_cast[cW,dw,aE,dh,bZ];refine comp_map (δ:=[none,some (.int a),some (.int b)]) (λx=>.tup [.int a,x,.int b]) trivial _ [] _ rfl (λx U Q q=>?_) (by rw[fZ,yaf];have:=sC ps;simp only[oc] at t;simp;lia) ?_
   ·push_cast[true_and];exact⟨sz rfl,q⟩
   ·have e:(uw ps).map (λx=>D.tup [.int a,x,.int b])=(gy a n b (.alt ps)).map eD:=by
     rw[jJ,zcv,gy,zcv];rfl
    rw[zbR,e];exact gg (cZ λe _=>tE e) q
  |seq ps=>
   push_cast[tD,aE,cS,dh];rw[yIn (by decide),yIn (by decide)];cases ps with
   |nil=>
    rw[yIp (by rfl)];exact⟨sz rfl,sz rfl,gg (by simp[bY,bH]) q⟩
   |cons m ps=>
    rw[yIn (by simp[uw])];have u:ps.length<100:=by have:=sC (m::ps);simp only[oc,zbq] at t this;lia
    push_cast[zd];refine⟨sz rfl,.seq (m::ps),rfl,rfl,?_⟩;have en:ns (.seq (m::ps))=ps.length:=by simp[ns]
    have j:(z4 n ps.length).length=ps.length:=by simp[z4]
    rw[en];refine⟨_,rfl,by lia,by lia,by lia,by lia,?_⟩;rw[show((n:Int)+(ps.length:Int) - n).toNat=ps.length by lia,show(zcO ps.length).map (λk:Nat=>D.int ((n:Int)+k))=z4 n ps.length from rfl];refine⟨by rw[j,yaf];simp;lia,?_⟩;simp only[xZ,Am,zc,b9];have G:cutD ([D.int a]++z4 n ps.length) (some 1) none=z4 n ps.length:=by
     unfold cutD;rw[show HT.l6 ([D.int a]++z4 n ps.length).length 0 (some 1)=1 by simp[HT.l6]];simp[HT.l6]
    rw[G];refine⟨sz rfl,?_⟩;show CH (.lst (z4 n ps.length)) (.lst [.int b]) S _;rw[wg];refine⟨by rw[j,yaf];simp;lia,?_⟩;push_cast[Gi,aE,dh];refine⟨_,rfl,_,rfl,_,rfl,by simp[j,fZ],by simp[j,fZ],by simp[fZ],by simp[fZ];lia,?_⟩;have y:=qZ ps m a n b;rw[show[D.int (a:Int)]++z4 n ps.length=.int a::z4 n ps.length from rfl,y];exact gg (cZ λe _=>tE e) q
open PySem L2 M M6
noncomputable abbrev Bq:List Str:=["pattern","many","moves","spans","narrower","span"]
noncomputable abbrev kQ:=Bq.take 1
theorem gT:av Bq kQ (ah (top 10)):=L2.bO
noncomputable abbrev G3:List Str:=["pattern","laid"]
noncomputable abbrev pL:=G3.take 1
theorem K3:av G3 pL (ah (top 18)):=L2.bO
noncomputable def vD(m:Mv):D:=.tup [.int m.1,lD m.2.1,.int m.2.2]
theorem Kx(m:Mv):eD (eM m)=vD m:=rfl
noncomputable def mD(n b:Nat)(es:List Nat)(mv:List Mv):D:=.tup [.int n,.int b,.tup (nL es),.tup (mv.map vD)]
noncomputable def ws(E:List Ed):Nat:=(E.map λe=>oc e.2.1).sum
noncomputable def vs(E:List Ed):Nat:=(E.map λe=>oc e.2.1 - 1).sum
theorem BB(A B:List Ed):ws (A++B)=ws A+ws B:=by simp[ws]
theorem BC(A B:List Ed):vs (A++B)=vs A+vs B:=by simp[vs]
theorem iU(e:Ed)(B:List Ed):ws (e::B)=oc e.2.1+ws B:=by simp[ws]
theorem jG(e:Ed)(B:List Ed):vs (e::B)=(oc e.2.1 - 1)+vs B:=by simp[vs]
theorem wZ:∀E:List Ed,E.length<=ws E
 |[]=>zcL _
 |e::E=>by
  have:=wZ E;have:=ia e.2.1;rw[iU,zbq];lia
theorem Gd{a b:Nat}:∀ps:List Pt,ws (ps.map λq=>(a,q,b))=ud ps/\vs (ps.map λq=>(a,q,b))+ps.length=ud ps
 |[]=>⟨rfl,rfl⟩
 |p::ps=>by
  obtain⟨h1,h2⟩:=Gd (a:=a) (b:=b) ps;have:=ia p;rw[zcj,iU,jG,zbq,ud];dsimp only;lia
theorem vW:∀(ps:List Pt)(q:Pt)(a n b:Nat),ws (chain a (q::ps) n b)=ud (q::ps)/\vs (chain a (q::ps) n b)+ps.length+1=ud (q::ps)
 |[],q,a,n,b=>by
  have:=ia q;simp only[chain,iU,jG,ud];simp[ws,vs];lia
 |q2::ps,q,a,n,b=>by
  obtain⟨h1,h2⟩:=vW ps q2 n (n+1) b;have:=ia q;rw[chain,iU,jG,ud,zbq];dsimp only;lia
theorem rg:∀(ps:List Pt)(q:Pt)(a n b:Nat),∀e∈chain a (q::ps) n b,e.2.1∈q::ps
 |[],q,a,n,b,e,h=>by
  rw[chain,zaO] at h;subst h;simp
 |q2::ps,q,a,n,b,e,h=>by
  rw[chain] at h;rcases zci.mp h with rfl|h
  ·simp
  ·exact zay _ (rg ps q2 n (n+1) b e h)
theorem F0(a n b:Nat)(p:Pt)(h:vC p=false):ws (gy a n b p)<=oc p/\ns p+vs (gy a n b p)<=oc p - 1:=by
 cases p with
 |lf _=>cases h
 |many q=>
  have:=ia q;simp only[gy,iU,jG,ns,oc];simp[ws,vs];lia
 |alt ps=>
  obtain⟨h1,h2⟩:=Gd (a:=a) (b:=b) ps;simp only[gy,ns,oc];lia
 |seq ps=>
  cases ps with
  |nil=>simp[gy,ws,vs,ns,oc]
  |cons q ps=>
   obtain⟨h1,h2⟩:=vW ps q a n b;simp only[gy,ns,oc,zbq];lia
theorem OI(a n b:Nat)(p:Pt)(m:vC p=false)(i:mZ p):∀e∈gy a n b p,mZ e.2.1/\dp e.2.1<dp p:=by
 intro e j;cases p with
 |lf _=>cases m
 |many q=>
  simp only[gy,zci,zbA,or_false] at j;simp only[mZ] at i;rcases j with rfl|rfl|rfl
  ·exact⟨by simp[mZ,qh],by simp[dp]⟩
  ·exact⟨i,by simp[dp]⟩
  ·exact⟨by simp[mZ,qh],by simp[dp]⟩
 |alt ps=>
  obtain⟨q,l,rfl⟩:=zcw.mp j;simp only[mZ] at i;have:=tF q l;exact⟨ou i q l,by simp only[dp];lia⟩
 |seq ps=>
  simp only[mZ] at i;cases ps with
  |nil=>
   simp only[gy,zaO] at j;subst j;exact⟨by simp[mZ,qh],by simp[dp]⟩
  |cons q ps=>
   have h:=rg ps q a n b e j;have:=tF e.2.1 h;exact⟨ou i _ h,by simp only[dp];lia⟩
theorem jc.step{p q:Pt}{a b:Nat}{E:List Ed}(h:jc p n ((a,q,b)::E))(i:vC q=false):jc p (n+ns q) (gy a n b q++E):=by
 cases q with
 |lf _=>cases i
 |many q=>exact h.many
 |alt ps=>exact h.alt
 |seq ps=>
  cases ps with
  |nil=>exact h.nil
  |cons q ps=>
   have:=jc.seq ps q h;simpa[ns,gy] using this
theorem Jw{l:Lf}(h:qh l){Q:AK}(q:Q (.dat (.bl true)) S):zf (lD l) (.int 0) S λr i=>zh false r.d (.tup [.str "stay",.str "step",.str "at",.str "off"]) i Q:=by
 have key:∀x:Str,x∈(["stay","step","at","off"]:List Str)->zh false (.str x) (.tup [.str "stay",.str "step",.str "at",.str "off"]) S Q:=λx a=>by
  refine fU (n:=0) (ss:=["stay","step","at","off"]) (by simp only[zci,zbA,or_false] at a;rcases a with rfl|rfl|rfl|rfl<;>decide+kernel) (by decide) (by decide+kernel) ?_;have:C8 (.str x) ["stay","step","at","off"]=true:=by simp only[zci,zbA,or_false] at a;rcases a with rfl|rfl|rfl|rfl<;>decide+kernel
  rw[this];exact q
 cases l with
 |stay=>exact⟨_,cS,key _ (by simp)⟩
 |step b x=>exact⟨_,cS,key _ (by simp)⟩
 |mk b m=>exact⟨_,cS,key _ (by cases b<;>simp[Po])⟩
theorem Jv{p:Pt}(h:vC p=false){Q:AK}(q:Q (.dat (.bl false)) S):zf (tD p) (.int 0) S λr i=>zh false r.d (.tup [.str "stay",.str "step",.str "at",.str "off"]) i Q:=by
 have key:∀x:Str,x∈(["many","then","either"]:List Str)->zh false (.str x) (.tup [.str "stay",.str "step",.str "at",.str "off"]) S Q:=λx a=>by
  refine fU (n:=0) (ss:=["stay","step","at","off"]) (by simp only[zci,zbA,or_false] at a;rcases a with rfl|rfl|rfl<;>decide+kernel) (by decide) (by decide+kernel) ?_;have:C8 (.str x) ["stay","step","at","off"]=false:=by simp only[zci,zbA,or_false] at a;rcases a with rfl|rfl|rfl<;>decide+kernel
  rw[this];exact q
 cases p with
 |lf _=>cases h
 |many p=>exact⟨_,cS,key _ (by simp)⟩
 |seq ps=>exact⟨_,cS,key _ (by simp)⟩
 |alt ps=>exact⟨_,cS,key _ (by simp)⟩
theorem jQ{T:aN}{d:D}{Q:AK}(h:bY d=true)(q:Q (.dat d) S):VD S (S++T) (.dat d) Q:=
 ⟨_,j4 h,λk o a e=>.inl (by rw[zae a] at e;exact e),by rw[zcd];exact q⟩
abbrev LS:=Nat×List Mv×List Ed×List Ed
noncomputable def stp:LS->Option LS
 |(_,_,[],[])=>none
 |(n,mv,[],e::NR)=>some (n,mv,e::NR,[])
 |(n,mv,(a,.lf l,b)::R,NR)=>some (n,mv++[(a,l,b)],R,NR)
 |(n,mv,(a,q,b)::R,NR)=>some (n+ns q,mv,R,NR++gy a n b q)
noncomputable def runs(s:LS):Nat->Option LS
 |0=>some s
 |k+1=>(runs s k).bind stp
def Ry(p:Pt)(n:Nat)(mv:List Mv)(R a:List Ed):Prop:=∃k,runs (2,[],[(0,p,1)],[]) k=some (n,mv,R,a)
theorem Ry.go{p:Pt}{s t:LS}(h:Ry p s.1 s.2.1 s.2.2.1 s.2.2.2)(e:stp s=some t):Ry p t.1 t.2.1 t.2.2.1 t.2.2.2:=by
 obtain⟨k,a⟩:=h;refine⟨k+1,?_⟩;show(runs _ k).bind stp=_;rw[a];exact e
theorem Ry.turn{p:Pt}{mv:List Mv}{a:List Ed}(h:Ry p n mv [] a):Ry p n mv a []:=by
 cases a with
 |nil=>exact h
 |cons e a=>exact Ry.go (s:=(n,mv,[],e::a)) h rfl
theorem Ry.cut{p q:Pt}{a b:Nat}{mv:List Mv}{R i:List Ed}(h:Ry p n mv ((a,q,b)::R) i)(j:vC q=false):Ry p (n+ns q) mv R (i++gy a n b q):=by
 refine Ry.go (s:=(n,mv,(a,q,b)::R,i)) (t:=(n+ns q,mv,R,i++gy a n b q)) h ?_;cases q with
 |lf _=>cases j
 |_=>rfl
def DQ:AN:=λh S Q=>∃p:Pt,h=[tD p]/\mZ p/\oc p<=50/\∀(n:Nat)(a:List Mv),Ry p n a [] []->jc p n (a.map eM)->n<=oc p+1->a.length<=oc p->(∀m∈a,qh m.2.1)->Q (.dat (.tup [.int n,.lst (a.map vD)])) S
theorem OC(T:Txt K mg C fi)(F:Src K mg "laid_out" kQ (top 10))(o:Def P w K mg base 1 "new_stands" lY (au K DK))(ab:Def P w K mg base 2 "cut" pP (au K K1)):Def P w K mg base 3 "laid_out" kQ (au K DQ):=by
 refine cD F gT (λds S Q h=>?_) (λf cdv A outer s H E I=>?_)
 ·obtain⟨p,rfl,_⟩:=h;rfl
 ·refine⟨_,(Ux (UD 1 gT.nd Uy) (Ux (UD 2 gT.nd (UY (UM UA))) (Ux (UD 3 gT.nd (UM (Uv (UJ (Uv T.uY (Uv (Uu 0) (Uw T.EZ)))) UA))) (Ux (M.gV PassesOwn.never (U4 (Uu 3)) (Ux (UD 4 gT.nd (UY (UM UA))) (Ux (UW PassesOwn.never rfl (UT (Uu 3)) (UI 5 gT.nd) (Uz (UN (UH (Vn I) (UC (UC (Uu 5))) T.BU rfl) (Uz (U0 (Vb PySem.F.plainAttrs_list PySem.F.slot_list_append PySem.F.type_list_append Vr (Uu 2) (Uw (Uu 5))))) (Ux (U0 (Vb PySem.F.plainAttrs_list PySem.F.slot_list_extend PySem.F.type_list_extend M.j7 (Uu 4) (Uv (UK ab I (Uv (Uu 5) (Uw (Uu 1)))) UA))) (Uz (M.BQ (i:=1) gT.nd rfl (Or.inl rfl) (UK o I (Uv (UC (Uu 5)) UA)))))))) (Uz (UD 3 gT.nd (Uu 4)))))) (Uz (UE (M.fre (UJ (Uv (Uu 1) (Uw (Uu 2))))))))))),λds S Q h=>?_⟩;obtain⟨p,rfl,hp,ho,q⟩:=h;have e0:aH Bq [tD p]=[some (tD p),none,none,none,none,none]:=rfl;rw[e0];push_cast[bW];refine⟨sz rfl,sz rfl,sz rfl,?_⟩;have dh:∀(a:MO)(T:aN),(S++some a::T)[S.length]? =some (some a):=λa T=>by simp
  have u:∀(a:MO)(T:aN)(k:Nat),(S++some a::T)[S.length+1+k]? =T[k]?:=λa T k=>by
   rw[zab (by lia),show S.length+1+k - S.length=k+1 by lia,zam]
  have P4:∀(a:MO)(b:Option MO)(T:aN),(S++some a::T).set S.length b=S++b::T:=λa b T=>by rw[zau _ _ (zcK _)];simp
  have Sw:∀(a:MO)(T:aN)(x y:Option MO),(S++some a::(T++[x])).set (S.length+1+T.length) y=S++some a::(T++[y]):=λa T x y=>by
   rw[zau _ _ (by lia),show S.length+1+T.length - S.length=T.length+1 by lia,List.set_cons_succ,zau _ _ (zcK _)];simp
  obtain⟨W,hW⟩:∃W:Nat->bC->aN->Prop,W=λU O S2=>∃(n:Nat)(j:List Mv)(E:List Ed)(d:D)(v4 v:Option D)(T:aN),O=[some (tD p),some (.int n),some (.loc S.length),some d,v4,v]/\S2=S++some (.lst (j.map vD))::T/\(d=.lst (E.map eD)∨∃k,d=.loc (S.length+1+k)/\T[k]? =some (some (.lst (E.map eD))))/\Ry p n j E []/\
    jc p n (j.map eM++E)/\n+vs E<=oc p+1/\j.length+ws E<=oc p/\(∀m∈j,qh m.2.1)/\∀e∈E,mZ e.2.1/\dp e.2.1<U:=⟨_,rfl⟩
  have hop:=ia p;refine⟨W,⟨dp p+1,by rw[hW];exact⟨2,[],[(0,p,1)],_,none,none,[],rfl,rfl,.inl rfl,⟨0,rfl⟩,jc.start p,by simp[vs];lia,by simp[ws],by simp,λe Z=>by rw[zaO.mp Z];exact⟨hp,by simp⟩⟩⟩,?_⟩;intro U O S2 hw;rw[hW] at hw;obtain⟨n,j,E,d,v4,v,T,rfl,rfl,hd,hR,hB,hv,X,hlf,hE⟩:=hw;have N8:aT (S++some (.lst (j.map vD))::T) d=.lst (E.map eD):=by
   rcases hd with rfl|⟨k,rfl,hk⟩
   ·rfl
   ·simp only[aT,u,hk];rfl
  push_cast[true_and];refine⟨!E.isEmpty,by rw[N8];simp[dX],fc (λhw=>?_) (λhw=>?_)⟩
  ·obtain⟨N,hN⟩:∃N:bC->aN->Prop,N=λO S2=>∃(n:Nat)(j:List Mv)(E:List Ed)(d:D)(v4 v:Option D)(T:aN),O=[some (tD p),some (.int n),some (.loc S.length),some d,v4,v]/\S2=S++some (.lst (j.map vD))::T/\(d=.lst (E.map eD)∨∃k,d=.loc (S.length+1+k)/\T[k]? =some (some (.lst (E.map eD))))/\Ry p n j E []/\
     jc p n (j.map eM++E)/\n+vs E<=oc p+1/\j.length+ws E<=oc p/\(∀m∈j,qh m.2.1)/\∀e∈E,mZ e.2.1/\dp e.2.1<U - 1:=⟨_,rfl⟩
   have hmu:0<U:=by
    cases E with
    |nil=>simp at hw
    |cons e E=>have:=(hE e (by simp)).2;lia
   refine⟨N,?_,?_⟩
   ·rw[hN,hW];rintro δ' S3 h;exact⟨U - 1,by lia,h⟩
   ·push_cast[bW,d9,dw];refine⟨zcL _,?_⟩;rw[zbc,show zcJ (S++some (MO.lst (j.map vD))::T)=S.length+1+T.length by simp;lia];have Y:∀Q':List D->(aN->Prop)->aN->Prop,(∀Pr:aN->Prop,(∀(a:MO)(x:Option MO),Pr (S++some a::(T++[x])))->Q' (E.map eD) Pr (S++some (.lst (j.map vD))::(T++[some (.lst [])])))->bZ (S++some (.lst (j.map vD))::(T++[some (.lst [])])) Q' d:=λQ' h=>by
     rcases hd with rfl|⟨k,rfl,hk⟩
     ·exact h _ λ_ _=>trivial
     ·have hkT:k<T.length:=(zad.mp hk).1;refine⟨_,by rw[u,zae hkT];exact hk,h _ λa x=>by rw[u,zae hkT];exact hk⟩
    refine Y _ λPr hPr=>?_;refine bf (λrest O S3=>∃(n:Nat)(j:List Mv)(R t:List Ed)(v:Option D),rest=R.map eD/\O=[some (tD p),some (.int n),some (.loc S.length),some d,some (.loc (S.length+1+T.length)),v]/\S3=S++some (.lst (j.map vD))::(T++[some (.lst (t.map eD))])/\Ry p n j R t/\jc p n (j.map eM++(R++t))/\n+vs R+vs t<=oc p+1/\j.length+ws R+ws t<=oc p/\(∀m∈j,qh m.2.1)/\(∀e∈R,mZ e.2.1/\dp e.2.1<U)/\∀e∈t,mZ e.2.1/\dp e.2.1<U - 1) ?_ ?_ _ _ _ ⟨n,j,E,[],v,rfl,rfl,rfl,hR,by rw[zbL];exact hB,by simp[vs] at hv⊢;exact hv,by simp[ws] at X⊢;exact X,hlf,hE,by simp⟩
    ·rintro O S3 ⟨n,j,R,t,v,I,rfl,rfl,g0,g1,g2,g3,g4,g5,g6⟩;have:R=[]:=by cases R with
      |nil=>rfl
      |cons _ _=>simp at I
     subst this;refine⟨hPr _ _,?_⟩;push_cast[true_and];rw[hN];refine⟨n,j,t,_,_,_,_,rfl,rfl,  .inr ⟨T.length,rfl,by simp⟩,g0.turn,g1,by simpa[vs] using g2,by simpa[ws] using g3,g4,g6⟩
    ·rintro x rest O S3 N' ⟨n,j,R,t,v,I,rfl,rfl,g0,g1,g2,g3,g4,g5,g6⟩ hN';cases R with
     |nil=>simp at I
     |cons r R=>
      rw[zcj] at I;injection I with e1 e2;subst e1;subst e2;obtain⟨G,ok2⟩:=g5 r (by simp);refine⟨hPr _ _,?_⟩;push_cast[true_and];rw[show eD r=.tup [.int r.1,tD r.2.1,.int r.2.2] from rfl];push_cast[aE,K35.dh];have hwr:=iU r R;have hvr:=jG r R;cases L:vC r.2.1 with
      |true=>
       obtain⟨a,pr,b⟩:=r;cases pr with
       |lf l=>
        simp only[mZ] at G;refine Jw G ⟨_,rfl,?_⟩;rw[yIp rfl];push_cast[ue];refine⟨by simp only[aT,dh];rfl,S.length,_,_,rfl,rfl,dh _ _,?_,?_⟩
        ·rw[zbK,yaf];lia
        ·rw[P4,show j.map vD++[D.tup [.int a,tD (.lf l),.int b]]=(j++[(a,l,b)]).map vD by rw[zbS];rfl];refine hN' _ _ ⟨n,j++[(a,l,b)],R,t,_,rfl,rfl,rfl,Ry.go (s:=(n,j,(a,.lf l,b)::R,t)) g0 rfl,?_,?_,?_,?_,λe Z=>g5 e (zay _ Z),g6⟩
         ·refine g1.OJ λe=>?_;simp only[zbS,zbJ,zci,zcj,zct,zbA,or_false,zbw];rw[show eM (a,l,b)=(a,.lf l,b) from rfl];constructor
          ·rintro((h|h)|h|h)
           ·exact .inl h
           ·exact .inr (.inl h)
           ·exact .inr (.inr (.inl h))
           ·exact .inr (.inr (.inr h))
          ·rintro(h|h|h|h)
           ·exact .inl (.inl h)
           ·exact .inl (.inr h)
           ·exact .inr (.inl h)
           ·exact .inr (.inr h)
         ·lia
         ·simp only[oc] at hwr;rw[zaM];show j.length+1+_+_<=_;lia
         ·intro m hm;rcases zbJ.mp hm with h|h
          ·exact g4 m h
          ·rw[zaO.mp h];exact G
       |_=>cases L
      |false=>
       refine Jv L ⟨_,rfl,?_⟩;rw[yIn (by decide)];have ow:=ia r.2.1;push_cast[ue,RS];refine⟨by simp only[aT,u];simp;rfl,r.2.1,r.1,n,r.2.2,rfl,L,by lia,by lia,?_⟩;refine⟨_,t.map eD,_,_,rfl,rfl,by rw[u];simp,.inl rfl,?_,?_⟩
       ·have h1:=wZ t;have h2:=wZ (gy r.1 n r.2.2 r.2.1);have h3:=(F0 r.1 n r.2.2 r.2.1 L).1;rw[zbK,zbK,yaf];lia
       ·rw[Sw,<-zbS];refine⟨_,rfl,r.2.1,rfl,L,_,_,rfl,rfl,?_⟩;have c1:=F0 r.1 n r.2.2 r.2.1 L;have c2:=OI r.1 n r.2.2 r.2.1 L G;refine hN' _ _ ⟨n+ns r.2.1,j,R,t++gy r.1 n r.2.2 r.2.1,_,rfl,by push_cast;rfl,rfl,g0.cut L,?_,by rw[BC];lia,by rw[BB];lia,g4,λe Z=>g5 e (zay _ Z),λe Z=>?_⟩
        ·have h1:jc p n ((r.1,r.2.1,r.2.2)::(j.map eM++(R++t))):=g1.OJ λe=>by
          simp only[zbJ,zci,zbw];exact or_left_comm
         refine(h1.step L).OJ λe=>?_;simp only[zbJ];constructor
         ·rintro(h|h|h|h)
          ·exact .inr (.inl h)
          ·exact .inr (.inr (.inl h))
          ·exact .inr (.inr (.inr h))
          ·exact .inl h
         ·rintro(h|h|h|h)
          ·exact .inr (.inr (.inr h))
          ·exact .inl h
          ·exact .inr (.inl h)
          ·exact .inr (.inr (.inl h))
        ·rcases zbJ.mp Z with h|h
         ·exact g6 e h
         ·have:=c2 e h;exact⟨this.1,by lia⟩
  ·have:E=[]:=by simpa using hw
   subst this;rw[zbL] at hB;push_cast[O2];refine⟨sz rfl,S.length,_,_,rfl,dh _ _,?_⟩;rw[P4];have es:([D.int (n:Int),D.loc S.length]:List D).map (sb S.length (.lst (j.map vD)))=[.int n,.lst (j.map vD)]:=by simp[sb]
   rw[es];refine jQ ?_ (q n j hR hB (by simpa[vs] using hv) (by simpa[ws] using X) hlf);have:bH (j.map vD)=true:=cZ λm _=>by rw[<-Kx];exact tE _
   simp only[bY,bH,this,zcq]
theorem lq(h:gp x=true):(PyData.str x).canLay0=true:=by
 have:=di (n:=0) (d:=.str x) h (by decide);unfold fit PySem.SeqAt.shaped at this;simp only[zbG] at this;exact this.2.1
theorem Aq{l:Lf}(h:qh l):bJ (py (lD l))=true/\(py (lD l)).depth<=1/\bY (lD l)=true:=by
 cases l with
 |stay=>exact⟨by simp only[lD,py,dZ,bJ,ck,zcr];exact lq (by decide+kernel),by decide,rfl⟩
 |step b x=>
  refine⟨?_,by simp[lD,py,dZ,PyData.depth,PyData.depthAll],rfl⟩;simp only[lD,py,dZ,bJ,ck,zcr,zbG];exact⟨lq (by decide+kernel),lq (by cases b<;>decide+kernel),lq (Df h)⟩
 |mk b m=>
  refine⟨?_,by simp[lD,py,dZ,PyData.depth,PyData.depthAll],rfl⟩;simp only[lD,py,dZ,bJ,ck,zcr,zbG];exact⟨lq (by cases b<;>decide+kernel),lq (qJ h)⟩
theorem sN{m:Mv}(h:qh m.2.1):cX (vD m):=by
 obtain⟨h1,h2,a⟩:=Aq h;refine⟨by simp only[vD,bY,bH,a,zcq],?_,?_,_,rfl⟩
 ·simp only[vD,py,dZ,bJ,ck,h1,zcq]
 ·simp only[vD,py,dZ,PyData.depth,PyData.depthAll];lia
theorem NG(l k:Lf):bK (py (lD l)) (py (lD k))=true:=by cases l<;>cases k<;>simp[lD,py,dZ,bK,dO]
theorem sO(m k:Mv):bK (py (vD m)) (py (vD k))=true:=by simp only[vD,py,dZ,bK,dO,NG,zcq]
theorem sM(m:Mv):∃p r,py (vD m)=PyData.tuple (.int p::r):=⟨_,_,rfl⟩
theorem Jd{a:Bool}(h:Po a=Po b):a=b:=by
 cases a<;>cases b<;>first|rfl|exact absurd h (by decide)
theorem jc.same{p:Pt}{mv mv':List Mv}(h:jc p n (mv.map eM))(h1:∀m∈mv',m∈mv)(h2:∀m∈mv,∃m'∈mv',py (vD m')=py (vD m)):jc p n (mv'.map eM):=by
 have a:∀e∈mv'.map eM,e∈mv.map eM:=λe i=>by
  obtain⟨m,j,rfl⟩:=zcw.mp i;exact zcw.mpr ⟨m,h1 m j,rfl⟩
 exact⟨h.two,λe i=>h.Lb e (a e i)⟩
theorem yc{b:Nat}{es:List Nat}{mv:List Mv}:bY (mD n b es mv)=true:=by
 have:bH (mv.map vD)=true:=cZ λm _=>by rw[<-Kx];exact tE _
 simp only[mD,bY,bH,iY,this,zcq]
noncomputable def pm(mv:List Mv):List yam:=mv.map λm=>py (vD m)
def TV(p:Pt)(n:Nat)(mv:List Mv):Prop:=(∃a,Ry p n a [] []/\∀y,y∈pm mv↔y∈pm a)/\(pm mv).Nodup/\(pm mv).Pairwise λx y=>fJ y x=false
def KW:AN:=λh S Q=>∃p:Pt,h=[tD p]/\mZ p/\oc p<=50/\∀(n:Nat)(a:List Mv),TV p n a->jc p n (a.map eM)->n<=oc p+1->a.length<=oc p->(∀m∈a,qh m.2.1)->Q (.dat (mD n 0 [1] a)) S
theorem Rx(T:Txt K mg C fi)(F:Src K mg "machine_of" pL (top 18))(a:Def P w K mg base 3 "laid_out" kQ (au K DQ)):Def P w K mg base 4 "machine_of" pL (au K KW):=by
 refine cD F K3 (λds S Q h=>?_) (λf cdv A outer s H E L=>?_)
 ·obtain⟨p,rfl,_⟩:=h;rfl
 ·refine⟨_,(Ux (UD 1 K3.nd (UK a L (Uw (Uu 0)))) (Uz (UE (UJ (Uv (UC (Uu 1)) (Uv T.uY (Uv (UJ (Uw T.EZ)) (Uv (U1 Vx T.tuple (Uv (M.fq L rfl (by rfl) T.sorted (by rfl) T.set (UC (Uu 1))) UA)) UA)))))))),λds S Q h=>?_⟩;obtain⟨p,rfl,Y,Z,q⟩:=h;have e0:aH G3 [tD p]=[some (tD p),none]:=rfl;rw[e0];push_cast[true_and];refine⟨p,rfl,Y,Z,λn I h0 h1 h2 h3 O=>?_⟩;push_cast[i9,aE,cS,dh];refine⟨sz rfl,_,.inr rfl,λk x=>?_,λk x l hl=>?_,by rw[zbK];lia,λU k1 u t W=>?_⟩
  ·obtain⟨m,j,rfl⟩:=zcw.mp x;exact⟨sN (O m j),sM m⟩
  ·obtain⟨m,_,rfl⟩:=zcw.mp x;obtain⟨o,_,rfl⟩:=zcw.mp hl;exact sO m o
  ·obtain⟨i,G,rfl⟩:=oh k1;refine⟨_,rfl,?_⟩;push_cast[true_and];refine⟨sz rfl,aY (yc (es:=[1]) (b:=0)) (q n i ⟨⟨I,h0,λy=>by have:=u y;rw[zcv,zcv] at this;exact this⟩,by rw[zcv] at t;exact t,zbg.mpr (zbg.mp W)⟩ (h1.same G λm j=>?_) h2 ?_ λm j=>O m (G m j))⟩
   ·obtain⟨d,hd,e⟩:=zcw.mp ((u (py (vD m))).mpr (zcw.mpr ⟨vD m,zcw.mpr ⟨m,j,rfl⟩,rfl⟩));obtain⟨o,v,rfl⟩:=zcw.mp hd;exact⟨o,v,e⟩
   ·have:=@sub_len yam (λ_ _=>Classical.propDecidable _) ((i.map vD).map py) ((I.map vD).map py) t λy X=>(u y).mp X;simp only[zbK] at this;lia
open PySem L2 M M6
noncomputable abbrev uL:Stmt:=top 45
noncomputable abbrev Bk:List Str:=["_law_ds","_law_at","_law_deep","_law_way","_law_number","_law_part_here","_law_parts","_law_k"]
noncomputable abbrev dJ:=Bk.take 3
theorem eN:av Bk dJ (ah uL):=L2.bO
noncomputable abbrev Bj:List Str:=["_law_cell","_law_deep"]
noncomputable abbrev kK:=Bj
theorem Ma:av Bj kK (ah (top 46)):=L2.bO
noncomputable def cap:Nat->Nat
 |0=>1
 |1=>3
 |2=>10
 |_=>21
theorem J1(k:Nat):1<=cap k:=by unfold cap;split<;>lia
theorem gF{a:Nat}(h:ys[i]? =some a):fB (nL ys) (i:Int)=some (.int (a:Int)):=cR (by rw[nL,zba,h];rfl)
theorem La{a:Nat}{Q:AK}(h:0<ys.length)(q:∀y∈ys,Q (.dat (.int (y:Int))) S):zf (.lst (nL ys)) (.int ((a:Int) % (ys.length:Int))) S Q:=by
 rw[show((a:Int) % (ys.length:Int))=((a % ys.length:Nat):Int) by lia];have i:=zcP a h;exact⟨_,gF (zak i),q _ (zby i)⟩
theorem u5:∀(ps:List Pt)(p:Pt),ud (ps++[p])=ud ps+oc p
 |[],p=>by simp[ud]
 |q::ps,p=>by rw[zbw,ud,ud,u5 ps p];lia
theorem vK:∀(ps:List Pt)(p:Pt),Hx (ps++[p])=max (Hx ps) (dp p)
 |[],p=>by simp[Hx]
 |q::ps,p=>by rw[zbw,Hx,Hx,vK ps p];lia
theorem qH:∀(ps:List Pt)(p:Pt),qf ps->mZ p->qf (ps++[p])
 |[],p,_,h=>by simp[qf,h]
 |q::ps,p,g,h=>by
  rw[zbw,qf];rw[qf] at g;exact⟨g.1,qH ps p g.2 h⟩
def rR(k:Nat):AN:=λi S Q=>∃(h:List Nat)(a:Nat),i=[.lst (nL h),.int a,.int k]/\0<h.length/\h.length<=1000/\∀(p:Pt)(j:Nat),mZ p->dp p<=k->oc p<=cap k->Q (.dat (.tup [tD p,.int j])) S
theorem AX(T:Txt K mg C fi)(F:Src K mg "_law_part" dJ uL)(t:Def P w K mg base 2 "_law_leaf" gB (au K rT))(k:Nat)(hk:k<=3)(i:Def P w K mg base (k+2) "_law_part" dJ (au K (λds S Q=>∃j,j+1=k/\rR j ds S Q))):Def P w K mg base (k+3) "_law_part" dJ (au K (rR k)):=by
 refine cD F eN (λds S Q h=>?_) (λf cdv A outer s H E U=>?_)
 ·obtain⟨v,a,rfl,_⟩:=h;rfl
 ·refine⟨_,(Ux (UD 3 eN.nd (UB UU (US (Uu 0) (UB UU (Uu 1) (UO UZ T.len (Uw (Uu 0))))) (US (UM (Uv Uy (Uv Uy (Uw Uy)))) (UO (M.E6 rfl) T.min (Uv (Uu 2) (Uw Uy)))))) (Ux (UD 4 eN.nd (US (Uu 0) (UB UU (UB UQ (Uu 1) Uy) (UO UZ T.len (Uw (Uu 0)))))) (Ux (UN (UH Vs (Uu 3) Uy (aK _)) (Uz (UE (UJ (Uv (M.lI t (U.mono (by lia)) (by rfl) (Uv (Uu 3) (Uw (Uu 4)))) (Uv (UB UQ (Uu 1) Uy) UA))))) UP) (Ux (UN (UH (UR U) (Uu 3) Uy (aK _)) (Ux (M.lF (M.lI i (U.mono (by lia)) (by rfl) (Uv (Uu 0) (Uv (UB UQ (Uu 1) Uy) (Uv (UB Vv (Uu 2) Uy) UA)))) (U7 (n:=2) rfl (UL (UI 5 eN.nd) (UL (UI 1 eN.nd) U6)))) (Uz (UE (UJ (Uv (UJ (Uv UG (Uw (Uu 5)))) (Uw (Uu 1))))))) UP) (Ux (UD 1 eN.nd (UB UQ (Uu 1) Uy)) (Ux (UD 6 eN.nd (UY (UM UA))) (Ux (UW PassesOwn.never rfl (Vh (by rfl) T.range (Uv (UB UU (Uu 4) (US (UM (Uv Uy (Uv Uy (Uv Uy (Uw Uy))))) (UO (M.E6 rfl) T.min (Uv (Uu 2) (Uw Uy))))) UA)) (UI 7 eN.nd) (Ux (M.lF (M.lI i (U.mono (by lia)) (by rfl) (Uv (Uu 0) (Uv (Uu 1) (Uv (UB Vv (Uu 2) Uy) UA)))) (U7 (n:=2) rfl (UL (UI 5 eN.nd) (UL (UI 1 eN.nd) U6)))) (Uz (U0 (Vb PySem.F.plainAttrs_list PySem.F.slot_list_append PySem.F.type_list_append Vr (Uu 6) (Uw (Uu 5))))))) (Uz (UE (UJ (Uv (UJ (Uv (US (UM (Uv UG (Uw UG))) (UB UU (Uu 3) Uy)) (Uv (U1 Vx T.tuple (Uw (Uu 6))) UA))) (Uw (Uu 1))))))))))))),λds S Q h=>?_⟩;obtain⟨v,a,rfl,u,I,q⟩:=h;have e0:aH Bk [.lst (nL v),.int a,.int k]=[some (.lst (nL v)),some (.int a),some (.int k),none,none,none,none,none]:=rfl;rw[e0];refine dR λN h=>?_;push_cast[Gp];refine⟨v.length,by simp[iu,nL],by lia,La u λO _=>?_⟩;have em:(if(2:Int)<(k:Int) then(2:Int) else(k:Int))=((min k 2:Nat):Int):=by split<;>lia
  push_cast[em];refine⟨sz rfl,?_⟩;obtain⟨b,hb,hb0,hb1⟩:∃b:Nat,fB [D.int 5,D.int 8,D.int 9] ((min k 2:Nat):Int)=some (.int (b:Int))/\(k=0->b=5)/\5<=b/\b<=9:=by
   rcases(by lia:k=0∨k=1∨k=2∨k=3) with rfl|rfl|rfl|rfl
   ·exact⟨5,cS,λ_=>rfl,by lia,by lia⟩
   ·exact⟨8,dh,λh=>by lia,by lia,by lia⟩
   ·exact⟨9,at2,λh=>by lia,by lia,by lia⟩
   ·exact⟨9,at2,λh=>by lia,by lia,by lia⟩
  refine⟨_,hb,?_⟩;push_cast[true_and];refine⟨by lia,h _ _ ?_⟩;clear h;rw[show((O:Int) % (b:Int))=((O % b:Nat):Int) by lia];have hw:=zcP O (show 0<b by lia);generalize O % b=wy at hw⊢;refine dR λN h=>?_;push_cast[true_and];refine⟨v.length,by simp[iu,nL],by lia,?_⟩;rw[show((a:Int)+1)=((a+1:Nat):Int) by lia];refine La u λG _=>h _ _ ?_;clear h;by_cases h:wy<5
  ·refine sZ (λQ q=>?_) ?_
   ·push_cast[true_and];exact qT (by lia) q
   push_cast[true_and];refine⟨wy,G,rfl,h,λl y=>⟨sz rfl,aY ?_ ?_⟩⟩
   ·have:=(Aq y).2.2;simp only[lE,bY,bH,this,zcq]
   ·exact q (.lf l) (a+2) (by simp only[mZ];exact y) (by simp[dp]) (by simp only[oc];exact J1 k)
  ·refine gD (λQ q=>?_) ?_
   ·push_cast[true_and];exact qF (by lia) q
   have hk0:k≠0:=λe=>by have:=hb0 e;lia
   obtain⟨j,rfl⟩:∃j,k=j+1:=⟨k - 1,by lia⟩
   have ab:cap j+2<=cap (j+1):=by
    rcases(by lia:j=0∨j=1∨j=2) with rfl|rfl|rfl<;>simp[cap]
   by_cases h7:wy=7
   ·refine sZ (λQ q=>?_) ?_
    ·push_cast[true_and];exact qT (by lia) q
    push_cast[true_and];refine⟨j,rfl,v,a+1,?_,u,I,λp a' k1 k2 k3=>?_⟩
    ·simp only[zcR.injEq,D.int.injEq,and_true,true_and];lia
    ·push_cast[rG,iD,rH];refine⟨_,rfl,rfl,_,_,rfl,_,_,rfl,rfl,sz rfl,sz rfl,aY ?_ ?_⟩
     ·simp only[bY,bH,lg,zcq]
     ·exact q (.many p) a' (by simp only[mZ];exact k1) (by simp only[dp];lia) (by simp only[oc];lia)
   ·refine gD (λQ q=>?_) ?_
    ·push_cast[true_and];exact qF (by lia) q
    push_cast[bW,d9,mQ,Gp];have em4:(if(3:Int)<((j+1:Nat):Int) then(3:Int) else((j+1:Nat):Int))=((j+1:Nat):Int):=by rw[yIn (by lia)]
    rw[em4];obtain⟨c,hc,Z,hc1⟩:∃c:Nat,fB [D.int 1,D.int 3,D.int 4,D.int 3] ((j+1:Nat):Int)=some (.int (c:Int))/\0<c/\c<=4/\(c - 1)*cap j+1<=cap (j+1):=by
     rcases(by lia:j=0∨j=1∨j=2) with rfl|rfl|rfl
     ·exact⟨3,dh,by lia,by lia,by decide⟩
     ·exact⟨4,at2,by lia,by lia,by decide⟩
     ·exact⟨3,yZ,by lia,by lia,by decide⟩
    have hm:=zcP G Z;refine⟨sz rfl,sz rfl,⟨_,hc,?_⟩⟩;simp only[Gr,lE];refine⟨by lia,_,rfl,by lia,by lia,?_⟩;rw[show((G:Int) % (c:Int)).toNat=G % c by lia];generalize G % c=m at hm⊢;refine bf (λrest W S'=>∃(o:List Pt)(a:Nat)(Y X:Option D),W=[some (.lst (nL v)),some (.int a),some (.int ((j+1:Nat):Int)),some (.int wy),some (.int G),Y,some (.loc S.length),X]/\S'=S++[some (.lst (uw o))]/\o.length+rest.length=m/\qf o/\Hx o<=j/\ud o<=o.length*cap j) ?_ ?_ _ _ _
     ⟨[],a+2,none,none,rfl,rfl,by simp[cy],trivial,zcL _,zcL _⟩
    ·rintro W S' ⟨o,a,Y,X,rfl,rfl,y,h1,h2,h3⟩;refine⟨trivial,?_⟩;push_cast[iF];refine⟨sz rfl,by decide,?_⟩;rw[show((wy:Int) % 2)=((wy % 2:Nat):Int) by lia];have L:ud o+1<=cap (j+1):=by
      have:o.length*cap j<=(c - 1)*cap j:=Nat.mul_le_mul_right _ (by simp at y;lia);lia
     refine pick (by show wy % 2<2;lia) λe he=>?_;have es:aT (S++[some (.lst (uw o))]) (.loc S.length)=.lst (uw o):=by simp[aT,MO.d]
     rw[es];simp only[zci,zbA,or_false] at he;rcases he with rfl|rfl
     ·refine⟨sz rfl,sz rfl,jQ ?_ (q (.seq o) a (by simp only[mZ];exact h1) (by simp only[dp];lia) (by simp only[oc];exact L))⟩;simp only[lE,bY,bH,jI,zcq]
     ·refine⟨sz rfl,sz rfl,jQ ?_ (q (.alt o) a (by simp only[mZ];exact h1) (by simp only[dp];lia) (by simp only[oc];exact L))⟩;simp only[lE,bY,bH,jI,zcq]
    ·rintro x rest W S' N' ⟨o,a,Y,X,rfl,rfl,y,h1,h2,h3⟩ hN';refine⟨trivial,?_⟩;push_cast[rG,iD,rH,ue];refine⟨j,rfl,v,a,?_,u,I,λp a' k1 k2 k3=>?_⟩
     ·simp only[zcR.injEq,D.int.injEq,and_true,true_and];lia
     ·refine⟨_,rfl,rfl,_,_,rfl,_,_,rfl,rfl,by simp[aT,MO.d,Fy],S.length,uw o,_,rfl,rfl,by simp,by rw[fZ,yaf];simp at y;lia,?_⟩;rw[zau _ _ (zcK _),zcD];refine hN' _ _ ⟨o++[p],a',_,_,rfl,?_,by simp at y⊢;lia,qH o p h1 k1,by rw[vK];lia,?_⟩
      ·rw[List.set_cons_zero,jJ,jJ,zbS];rfl
      ·rw[u5,zaM,Nat.add_mul];show _<=_+1*cap j;lia
theorem JI{k:Nat}(F:Src K mg "_law_part" dJ uL)(h:∀ds S Q,¬sp ds S Q):Def P w K mg base (k+1) "_law_part" dJ (au K sp):=
 F.def eN (λvs H Q E z=>by obtain⟨_,_,_,_,_,_,q,_⟩:=z;exact(h _ _ _ q).elim) λf a A outer s H vs Q E i z=>by obtain⟨_,_,_,_,_,_,q,_⟩:=z;exact(h _ _ _ q).elim
theorem FW(T:Txt K mg C fi)(F:Src K mg "_law_part" dJ uL)(a:Def P w K mg base 2 "_law_leaf" gB (au K rT)):∀k,k<=3->Def P w K mg base (k+3) "_law_part" dJ (au K (rR k))
 |0,h=>AX T F a 0 h (JI F λi S Q ⟨j,e,_⟩=>by lia)
 |k+1,h=>AX T F a (k+1) h ((FW T F a k (by lia)).imp λvs H Q E z=>by
   obtain⟨w,i,S,l,ok,rep,⟨j,e,q⟩,bk⟩:=z;obtain rfl:j=k:=by lia
   exact⟨w,i,S,l,ok,rep,q,bk⟩)
def DJ:AN:=λa S Q=>∃z:Int,a=[.int z,.int 2]/\∀p:Pt,mZ p->dp p<=2->oc p<=21->Q (.dat (tD p)) S
theorem Ot(T:Txt K mg C fi)(F:Src K mg "_law_pattern" kK (top 46))(a:Def P w K mg base 1 "_law_draws" e7 (au K m7))(i:Def P w K mg base 5 "_law_part" dJ (au K (rR 2))):Def P w K mg base 6 "_law_pattern" kK (au K DJ):=by
 refine cD F Ma (λG S Q h=>?_) (λf I A outer s H E j=>?_)
 ·obtain⟨z,rfl,_⟩:=h;rfl
 ·refine⟨_,(Uz (UE (UC (UK i j (Uv (UK a j (Uv (Uu 0) (Uv (UB U5 (UM (Uw Uy)) Uy) UA))) (Uv Uy (Uw (Uu 1)))))))),λG S Q h=>?_⟩;obtain⟨z,rfl,q⟩:=h;have y:aH Bj [.int z,.int 2]=[some (.int z),some (.int 2)]:=rfl;rw[y];push_cast[CF];have x:(zcc (50:Int).toNat [D.int 720]).flatten=nL (zcc 50 720):=rfl;refine⟨sz rfl,by decide,by decide,by decide,z,zcc 50 720,?_,λn u=>by rw[List.eq_of_mem_replicate u];lia,by simp,λm l v=>?_⟩
  ·simp only[MO.d,x]
  ·refine⟨m,0,rfl,by rw[l];simp,by rw[l];simp,λp L k1 t o=>?_⟩;push_cast[aE,cS];exact aY (lg p) (q p k1 t (zcy o (by decide)))
open PySem L2 M M6
noncomputable abbrev wG:List Str:=["_law_machine_here","_law_stands","_law_marks_here","_law_found","_law_at","_law_one","_law_leaf_here","_law_other"]
noncomputable abbrev iI:=wG.take 3
theorem f9:av wG iI (ah (top 47)):=L2.bO
noncomputable abbrev G6:List Str:=["_law_machine_here","_law_stands","_law_side","_law_word","_law_found","_law_one","_law_leaf_here","_law_other"]
noncomputable abbrev pN:=G6.take 4
theorem uK:av G6 pN (ah (top 48)):=L2.bO
theorem uu{ns:List Nat}(h:ns.length<=100):nN 1 (.lst (nL ns))=true/\nN 1 (.tup (nL ns))=true:=by
 have:(nL ns).all (nN 0)=true:=by
  rw[zbu];intro x a;obtain⟨k,_,rfl⟩:=zcw.mp a;rfl
 simp only[nN,this,zcr,decide_eq_true_eq];rw[nL,zbK];exact⟨h,h⟩
theorem yz{k:Nat}:∀ns:List Nat,inD (.int (k:Int)) (nL ns)=decide (k∈ns)
 |[]=>rfl
 |n::ns=>by
  have a:=yz (k:=k) ns;unfold inD nL at a⊢;rw[zcj,zck,a];have e:PyData.eqv (py (.int (n:Int))) (py (.int (k:Int)))=decide (k=n):=by
   simp only[py,PyData.eqv];by_cases h:k=n
   ·subst h;simp
   ·rw[yDf h];simp;lia
  rw[e];by_cases h1:k=n<;>by_cases h2:k∈ns<;>simp[h1,h2]
theorem sX{y:D}{k:Nat}{ns:List Nat}{Q:AK}(e:aT S y=.lst (nL ns)∨aT S y=.tup (nL ns))(a:ns.length<=100)(q:Q (.dat (.bl (neg != decide (k∈ns)))) S):zh neg (.int (k:Int)) y S Q:=by
 unfold zh;rcases e with e|e<;>rw[e]
 ·exact⟨di (n:=0) (d:=.int (k:Int)) rfl (by decide),di (uu a).1 (by decide),by rw[show aT S (.int (k:Int))=.int k from rfl,yz];exact q⟩
 ·exact⟨di (n:=0) (d:=.int (k:Int)) rfl (by decide),di (uu a).2 (by decide),by rw[show aT S (.int (k:Int))=.int k from rfl,yz];exact q⟩
theorem NW{y:D}{ns:List Nat}{a:Nat}{Q:AK}(e:aT S y=.lst (nL ns))(h:ns[i]? =some a)(q:Q (.dat (.int a)) S):zf y (.int (i:Int)) S Q:=by
 unfold zf;rw[e];exact⟨_,gF h,q⟩
theorem sL{i j:Str}{Q:AK}:Lu (.str i) (.str j) S Q=Q (.dat (.bl (!decide (i=j)))) S:=rfl
theorem Og{i j:Bool}{Q:AK}:O3 (.bl i) (.bl j) S Q=Q (.dat (.bl (decide (i=j)))) S:=rfl
def zC:AN:=λl S Q=>∃(n b:Nat)(j:List Nat)(h:List Mv)(a:List Nat)(ms:List Str),l=[mD n b j h,.lst (nL a),.lst (ms.map D.str)]/\n<=62/\(∀m∈h,nH n m)/\h.length<=62/\(∀s∈a,s<n)/\a.Nodup/\texts ms/\
 ∀i:List Nat,i.Nodup->(∀x,x∈i↔Reach h ms a x)->Q (.new (.lst (nL i))) S
theorem JL(T:Txt K mg C fi)(F:Src K mg "_law_still" iI (top 47)):Def P w K mg base 1 "_law_still" iI (au K zC):=by
 refine cD F f9 (λds S Q h=>?_) (λf cdv A outer s H E G=>?_)
 ·obtain⟨n,b,X,t,y,ms,rfl,_⟩:=h;rfl
 ·refine⟨_,(Ux (UD 3 f9.nd (UY (U1 M.ic T.list (Uw (Uu 1))))) (Ux (UD 4 f9.nd Uy) (Ux (M.gV PassesOwn.never (UH Vs (Uu 4) (UO UZ T.len (Uw (Uu 3))) (aK _)) (Ux (UW PassesOwn.never rfl (UT (UC (Uu 0))) (U7 (n:=3) rfl (UL (UI 5 f9.nd) (UL (UI 6 f9.nd) (UL (UI 7 f9.nd) U6)))) (Uz (UN (U8 (Vy (UH (UR G) (Uu 5) (US (Uu 3) (Uu 4)) (aK _)) (Vy (UH (M.nj G) (Uu 7) (Uu 3) rfl) (VY (UH (Vj G) (UC (Uu 6)) UG (aK _)))))) (Uz (UN (U8 (Va (UH (UR G) (UC (Uu 6)) UG (aK _)) (Vd (UH (UR G) (U3 (Vn G) (UC (Uu 6)) (Uu 2) rfl) (U3 (UR G) (UC (Uu 6)) UG (aK _)) (aK _))))) (Uz (U0 (Vb PySem.F.plainAttrs_list PySem.F.slot_list_append PySem.F.type_list_append Vr (Uu 3) (Uw (Uu 7))))) UP)) UP))) (Uz (UD 4 f9.nd (UB UQ (Uu 4) Uy))))) (Uz (UE (Uu 3)))))),λds S Q h=>?_⟩;obtain⟨n,b,X,t,y,ms,rfl,n6,hmv,hl,hst,hsn,hms,q⟩:=h;have e0:aH wG [mD n b X t,.lst (nL y),.lst (ms.map D.str)]=[some (mD n b X t),some (.lst (nL y)),some (.lst (ms.map D.str)),none,none,none,none,none]:=rfl;rw[e0];push_cast[bW,kB];have yZ:∀a:MO,(S++[some a])[S.length]? =some (some a):=λa=>by simp
  have L6:∀a c:MO,(S++[some a]).set S.length (some c)=S++[some c]:=λa c=>by rw[zau _ _ (zcK _)];simp
  have xy:∀ds:List D,aT (S++[some (.lst ds)]) (.loc S.length)=.lst ds:=λa=>by simp only[aT,yZ];rfl
  obtain⟨W,hW⟩:∃W:Nat->bC->aN->Prop,W=λμ Y S2=>∃(i:Nat)(j:List Nat)(v u I:Option D),Y=[some (mD n b X t),some (.lst (nL y)),some (.lst (ms.map D.str)),some (.loc S.length),some (.int i),v,u,I]/\S2=S++[some (.lst (nL j))]/\μ=n - i/\i<=j.length/\
      j.Nodup/\(∀s∈y,s∈j)/\(∀k∈j,Reach t ms y k)/\(∀m∈t,m.1∈j.take i->hold m.2.1 ms=true->m.2.2∈j):=⟨_,rfl⟩
  refine⟨W,⟨n - 0,by rw[hW];exact⟨0,y,none,none,none,rfl,rfl,rfl,zcL _,hsn,λs hs=>hs,λk Z=>.base Z,λm hm h1=>by simp at h1⟩⟩,?_⟩;intro μ Y S2 hw;rw[hW] at hw;obtain⟨i,j,v,u,I,rfl,rfl,rfl,hi,hn,h1,h2,h3⟩:=hw;have hlt:∀k∈j,k<n:=λk Z=>(h2 k Z).lt hmv hst;have hkl:=bA n j hn hlt;push_cast[true_and];refine⟨j.length,by rw[xy];simp[iu,nL],fc (λhw=>?_) (λhw=>?_)⟩
  ·have hw:i<j.length:=by have:=of_decide_eq_true hw;lia
   obtain⟨a,ea⟩:∃a,j[i]? =some a:=⟨_,zak hw⟩
   obtain⟨N,hN⟩:∃N:bC->aN->Prop,N=λY S2=>∃(o:List Nat)(v u I:Option D),Y=[some (mD n b X t),some (.lst (nL y)),some (.lst (ms.map D.str)),some (.loc S.length),some (.int ((i+1:Nat):Int)),v,u,I]/\S2=S++[some (.lst (nL o))]/\i+1<=o.length/\
      o.Nodup/\(∀s∈y,s∈o)/\(∀k∈o,Reach t ms y k)/\(∀m∈t,m.1∈o.take (i+1)->hold m.2.1 ms=true->m.2.2∈o):=⟨_,rfl⟩
   refine⟨N,?_,?_⟩
   ·rw[hN,hW];rintro δ' S3 ⟨o,w5,w6,w7,g1,g2,g3,g4⟩;exact⟨n - (i+1),by lia,i+1,o,w5,w6,w7,g1,g2,rfl,g3,g4⟩
   ·push_cast[d9,dw,mD,aE,K35.yZ,bZ];refine bf (λrest Y S3=>∃(qm L:List Mv)(ex:List Nat)(v u I:Option D),rest=L.map vD/\qm++L=t/\Y=[some (mD n b X t),some (.lst (nL y)),some (.lst (ms.map D.str)),some (.loc S.length),some (.int i),v,u,I]/\S3=S++[some (.lst (nL (j++ex)))]/\(j++ex).Nodup/\(∀k∈j++ex,Reach t ms y k)/\(∀m∈qm,m.1=a->hold m.2.1 ms=true->m.2.2∈j++ex)) ?_ ?_ _ _ _ ⟨[],t,[],v,u,I,rfl,rfl,rfl,by rw[zbL],by rw[zbL];exact hn,by rw[zbL];exact h2,by simp⟩
    ·rintro Y S3 ⟨qm,L,ex,v,u,I,G,he,rfl,rfl,g1,g2,g3⟩;have:L=[]:=by cases L with
      |nil=>rfl
      |cons _ _=>simp at G
     subst this;rw[zbL] at he;subst he;refine⟨trivial,?_⟩;push_cast[true_and];rw[hN];refine⟨j++ex,_,_,_,rfl,rfl,by rw[zaM];lia,g1,λs hs=>zaz _ (h1 s hs),g2,λm hm k1 k2=>?_⟩;rw[List.take_append_of_le_length (by lia),List.take_succ,ea] at k1;rcases zbJ.mp k1 with h|h
     ·exact zaz _ (h3 m hm h k2)
     ·exact g3 m hm (by simpa using h) k2
    ·rintro x rest Y S3 N' ⟨qm,L,ex,v,u,I,G,he,rfl,rfl,g1,g2,g3⟩ hN';cases L with
     |nil=>simp at G
     |cons r L=>
      rw[zcj] at G;injection G with e1 e2;subst e1;subst e2;have hrm:r∈t:=by rw[<-he];simp
      have ok:=hmv r hrm;have he':(qm++[r])++L=t:=by rw[zbc];exact he
      have ab:=bA n _ g1 λk Z=>(g2 k Z).lt hmv hst;have l:(r.1=a->hold r.2.1 ms=true->r.2.2∈j++ex)->∀v u I,N' [some (mD n b X t),some (.lst (nL y)),some (.lst (ms.map D.str)),some (.loc S.length),some (.int i),v,u,I] (S++[some (.lst (nL (j++ex)))]):=λhh v u I=>
       hN' _ _ ⟨qm++[r],L,ex,_,_,_,rfl,he',rfl,rfl,g1,g2,λm hm=>by
        rcases zbJ.mp hm with h|h
        ·exact g3 m h
        ·rw[zaO.mp h];exact hh⟩
      have O:r.1=a->hold r.2.1 ms=true->r.2.2 ∉ j++ex->∀v u,ue "list" nE (iE 3) (jo (iE 7) jE) [some (mD n b X t),some (.lst (nL y)),some (.lst (ms.map D.str)),some (.loc S.length),some (.int i),v,u,some (.int r.2.2)] (S++[some (.lst (nL (j++ex)))]) λx S1=>N' [some (mD n b X t),some (.lst (nL y)),some (.lst (ms.map D.str)),some (.loc S.length),some (.int i),v,u,some (.int r.2.2)] S1:=λk1 k2 k3 v u=>by
       push_cast[ue];refine⟨by rw[xy];rfl,S.length,_,_,rfl,rfl,yZ _,by rw[nL,zbK,yaf];lia,?_⟩;rw[L6,show nL (j++ex)++[D.int (r.2.2:Int)]=nL (j++(ex++[r.2.2])) by simp[nL]];refine hN' _ _ ⟨qm++[r],L,ex++[r.2.2],_,_,_,rfl,he',rfl,rfl,?_,λk Z=>?_,λm hm e1 e2=>?_⟩
       ·rw[<-zbc];exact oE g1 k3
       ·rw[<-zbc] at Z;rcases zbJ.mp Z with h|h
        ·exact g2 k h
        ·rw[zaO.mp h];exact .go (k1▸g2 a (zaz _ (zaB ea))) hrm k2
       ·rw[<-zbc];rcases zbJ.mp hm with h|h
        ·exact zaz _ (g3 m h e1 e2)
        ·rw[zaO.mp h];simp
      refine⟨trivial,_,rfl,rfl,_,_,rfl,_,_,rfl,_,_,rfl,rfl,?_⟩;push_cast[true_and];refine NW (xy _) (show(j++ex)[i]? =some a by rw[zae hw];exact ea) ?_;show O3 (D.int (r.1:Int)) (D.int (a:Int)) _ _;rw[AR];refine⟨_,rfl,fc (λc1=>?_) (λc1=>l (λe=>absurd (yDt (by rw[e])) c1) _ _ _)⟩;have c1:r.1=a:=by have:=of_decide_eq_true c1;lia
      refine sX (.inl (xy _)) (by lia) ⟨_,rfl,fc (λc2=>?_) (λc2=>l (λ_ _=>Decidable.byContradiction λh=>c2 (by rw[yDf h];rfl)) _ _ _)⟩;have c2:r.2.2 ∉ j++ex:=by simpa using c2
      have U:=ok.2.1;cases hlf:r.2.1 with
      |stay=>
       rw[hlf] at l O U;push_cast[lD,aE,K35.cS,K35.dh,sL];rw[yIp (by decide),yIp (by decide)];exact O c1 rfl c2 _ _
      |step c x=>
       rw[hlf] at l O U;push_cast[lD,aE,K35.cS,K35.dh,sL];rw[yIn (by decide)];exact l (λ_ h=>by cases h) _ _ _
      |mk c m=>
       rw[hlf] at l O U;push_cast[lD,aE,K35.cS,K35.dh,sL];rw[yIp (by cases c<;>decide),yIn (by cases c<;>decide)];refine qR (n:=0) (ss:=ms) (qJ U) (by decide) (zbu.mpr hms.2) ?_ (by have:=hms.1;lia);rw[sY];show O3 (.bl _) (.bl _) _ _;rw[Og];refine⟨_,rfl,fc (λc3=>O c1 ?_ c2 _ _) (λc3=>l (λ_ h=>absurd ?_ c3) _ _ _)⟩
       ·simp only[hold];cases c<;>cases hd:decide (m∈ms)<;>rw[hd] at c3<;>first|rfl|(exact absurd c3 (by decide))
       ·simp only[hold] at h;cases c<;>cases hd:decide (m∈ms)<;>rw[hd] at h<;>first|decide|(exact absurd h (by decide))
  ·have hw:i=j.length:=by
    have:¬((i:Int)<(j.length:Int)):=λh=>hw (yDt h);lia
   subst hw;rw[zbv] at h3;refine se (n:=S.length) (zcK _) (iY j) (yZ _) (by simp) (q j hn λx=>⟨h2 x,λhx=>hx.closed h1 h3⟩)
def KZ:AN:=λl S Q=>∃(n b:Nat)(j:List Nat)(h:List Mv)(a:List Nat)(sd wd:Str),l=[mD n b j h,.lst (nL a),.str sd,.str wd]/\n<=62/\(∀m∈h,nH n m)/\h.length<=62/\(∀s∈a,s<n)/\a.length<=62/\gp wd=true/\
 ∀i:List Nat,i.Nodup->(∀x,x∈i↔O7 h a sd wd x)->Q (.new (.lst (nL i))) S
theorem RA(T:Txt K mg C fi)(F:Src K mg "_law_by" pN (top 48)):Def P w K mg base 1 "_law_by" pN (au K KZ):=by
 refine cD F uK (λds S Q h=>?_) (λf cdv A outer s H E u=>?_)
 ·obtain⟨n,b,X,t,l,sd,wd,rfl,_⟩:=h;rfl
 ·refine⟨_,(Ux (UD 4 uK.nd (UY (UM UA))) (Ux (UW PassesOwn.never rfl (UT (UC (Uu 0))) (U7 (n:=3) rfl (UL (UI 5 uK.nd) (UL (UI 6 uK.nd) (UL (UI 7 uK.nd) U6)))) (Uz (UN (U8 (Vy (UH (Vn u) (Uu 5) (Uu 1) rfl) (Vy (UH (UR u) (UC (Uu 6)) UG (aK _)) (Vy (UH (UR u) (UC (Uu 6)) (Uu 2) (aK _)) (VY (UH (Vn u) (UC (Uu 6)) (UJ (Uv UG (Uw (Uu 3)))) rfl)))))) (Uz (UN (UH (M.nj u) (Uu 7) (Uu 4) rfl) (Uz (U0 (Vb PySem.F.plainAttrs_list PySem.F.slot_list_append PySem.F.type_list_append Vr (Uu 4) (Uw (Uu 7))))) UP)) UP))) (Uz (UE (Uu 4))))),λds S Q h=>?_⟩;obtain⟨n,b,X,t,l,sd,wd,rfl,n6,hmv,hl,hst,hsl,hwd,q⟩:=h;have e0:aH G6 [mD n b X t,.lst (nL l),.str sd,.str wd]=[some (mD n b X t),some (.lst (nL l)),some (.str sd),some (.str wd),none,none,none,none]:=rfl;rw[e0];push_cast[bW,d9,dw,mD,aE,K35.yZ,bZ];have Y:∀a:MO,(S++[some a])[S.length]? =some (some a):=λa=>by simp
  have BN:∀a c:MO,(S++[some a]).set S.length (some c)=S++[some c]:=λa c=>by rw[zau _ _ (zcK _)];simp
  have uJ:∀ds:List D,aT (S++[some (.lst ds)]) (.loc S.length)=.lst ds:=λa=>by simp only[aT,Y];rfl
  refine⟨zcL _,bf (λrest δ S3=>∃(O o:List Mv)(j:List Nat)(y v Z:Option D),rest=o.map vD/\O++o=t/\δ=[some (mD n b X t),some (.lst (nL l)),some (.str sd),some (.str wd),some (.loc S.length),y,v,Z]/\S3=S++[some (.lst (nL j))]/\j.Nodup/\(∀k∈j,k<n)/\∀x,x∈j↔∃m∈O,m.1∈l/\take m.2.1 sd wd=true/\m.2.2=x) ?_ ?_ _ _ _ ⟨[],t,[],none,none,none,rfl,rfl,rfl,rfl,.nil,by simp,by simp⟩⟩
  ·rintro δ S3 ⟨O,o,j,y,v,Z,u,he,rfl,rfl,hn,I,hx⟩;have:o=[]:=by cases o with
    |nil=>rfl
    |cons _ _=>simp at u
   subst this;rw[zbL] at he;subst he;refine⟨trivial,?_⟩;push_cast[true_and];exact se (n:=S.length) (zcK _) (iY j) (Y _) (by simp) (q j hn hx)
  ·rintro x rest δ S3 N' ⟨O,o,j,y,v,Z,u,he,rfl,rfl,hn,I,hx⟩ hN';cases o with
   |nil=>simp at u
   |cons r o=>
    rw[zcj] at u;injection u with e1 e2;subst e1;subst e2;have hrm:r∈t:=by rw[<-he];simp
    have ok:=hmv r hrm;have he':(O++[r])++o=t:=by rw[zbc];exact he
    have hkl:=bA n j hn I;have i:((r.1∈l/\take r.2.1 sd wd=true)->r.2.2∈j)->∀y v Z,N' [some (mD n b X t),some (.lst (nL l)),some (.str sd),some (.str wd),some (.loc S.length),y,v,Z] (S++[some (.lst (nL j))]):=λhh y v Z=>
     hN' _ _ ⟨O++[r],o,j,_,_,_,rfl,he',rfl,rfl,hn,I,λx=>⟨λh=>by
       obtain⟨m,h1,h2⟩:=(hx x).mp h;exact⟨m,zaz _ h1,h2⟩,λ⟨m,h1,h2,h3,W⟩=>by
       rcases zbJ.mp h1 with h|h
       ·exact(hx x).mpr ⟨m,h,h2,h3,W⟩
       ·rw[zaO.mp h] at h2 h3 W;rw[<-W];exact hh ⟨h2,h3⟩⟩⟩
    have L:r.1∈l->take r.2.1 sd wd=true->r.2.2 ∉ j->∀y v,ue "list" nE (iE 4) (jo (iE 7) jE) [some (mD n b X t),some (.lst (nL l)),some (.str sd),some (.str wd),some (.loc S.length),y,v,some (.int r.2.2)] (S++[some (.lst (nL j))]) λx S1=>N' [some (mD n b X t),some (.lst (nL l)),some (.str sd),some (.str wd),some (.loc S.length),y,v,some (.int r.2.2)] S1:=λk1 k2 k3 y v=>by
     push_cast[ue];refine⟨by rw[uJ];rfl,S.length,_,_,rfl,rfl,Y _,by rw[nL,zbK,yaf];lia,?_⟩;rw[BN,show nL j++[D.int (r.2.2:Int)]=nL (j++[r.2.2]) by simp[nL]];refine hN' _ _ ⟨O++[r],o,j++[r.2.2],_,_,_,rfl,he',rfl,rfl,oE hn k3,λk hk=>?_,λx=>⟨λh=>?_,λ⟨m,h1,h2,h3,W⟩=>?_⟩⟩
     ·rcases zbJ.mp hk with h|h
      ·exact I k h
      ·rw[zaO.mp h];exact ok.2.2
     ·rcases zbJ.mp h with h|h
      ·obtain⟨m,h1,h2⟩:=(hx x).mp h;exact⟨m,zaz _ h1,h2⟩
      ·exact⟨r,by simp,k1,k2,(zaO.mp h).symm⟩
     ·rcases zbJ.mp h1 with h|h
      ·exact zaz _ ((hx x).mpr ⟨m,h,h2,h3,W⟩)
      ·rw[zaO.mp h] at W;rw[<-W];simp
    refine⟨trivial,_,rfl,rfl,_,_,rfl,_,_,rfl,_,_,rfl,rfl,?_⟩;push_cast[true_and];refine sX (.inl rfl) (by lia) ⟨_,rfl,fc (λc1=>?_) (λc1=>i (λh=>absurd (by rw[yDt h.1];rfl) c1) _ _ _)⟩;have c1:r.1∈l:=by simpa using c1
    have G:=ok.2.1;cases U:r.2.1 with
    |stay=>
     rw[U] at i L G;push_cast[lD,aE,K35.cS,K35.dh,K35.at2];rw[yIn (by decide)];exact i (λh=>by cases h.2) _ _ _
    |mk c m=>
     rw[U] at i L G;push_cast[lD,aE,K35.cS,K35.dh,K35.at2];rw[yIn (by cases c<;>decide)];exact i (λh=>by cases h.2) _ _ _
    |step c x=>
     rw[U] at i L G;push_cast[lD,aE,K35.cS,K35.dh,K35.at2];rw[yIp (by decide)];refine fc (λc2=>?_) (λc2=>i (λh=>absurd ?_ c2) _ _ _)
     ·refine⟨sz rfl,fU (n:=0) (ss:=["*",wd]) (Df G) (by decide) (by simp only[zcl,List.all_nil,hwd,zcr];decide+kernel) ⟨_,rfl,fc (λc3=>?_) (λc3=>i (λh=>absurd ?_ c3) _ _ _)⟩ (by simp)⟩
      ·have ht:take (.step c x) sd wd=true:=by
        simp only[C8,zck,List.any_nil,zco,Lh,Bool.false_bne] at c3;simp only[take,c2,zcp];rw[Bool.or_comm];exact c3
       refine sX (.inl (uJ _)) (by lia) ⟨_,rfl,fc (λc4=>?_) (λc4=>i (λ_=>Decidable.byContradiction λh=>c4 (by rw[yDf h];rfl)) _ _ _)⟩;exact L c1 ht (by simpa using c4) _ _
      ·have h:=h.2;simp only[take,zbG] at h;simp only[C8,zck,List.any_nil,zco,Lh,Bool.false_bne];rw[Bool.or_comm];exact h.2
     ·have h:=h.2;simp only[take,zbG] at h;exact h.1
open PySem PySem.Spec L2 M M6 PyProof.Rows
noncomputable abbrev uM:Stmt:=inClass (top 34) 0
noncomputable abbrev Br:List Str:=["self"]
noncomputable abbrev jb:=Br
theorem Mh:av Br jb (ah uM):=L2.bO
noncomputable abbrev Eg:Stmt:=inClass (top 34) 1
noncomputable abbrev Bh:List Str:=["self","name","marks"]
noncomputable abbrev kJ:=Bh
theorem L8:av Bh kJ (ah Eg):=L2.bO
noncomputable abbrev Ef:Stmt:=inClass (top 34) 3
noncomputable abbrev Bg:List Str:=["self","one","word","other"]
noncomputable abbrev kI:=Bg
theorem L7:av Bg kI (ah Ef):=L2.bO
noncomputable abbrev MC:Stmt:=inClass (top 34) 8
noncomputable abbrev GZ:List Str:=["self","knot"]
noncomputable abbrev pK:=GZ
theorem P8:av GZ pK (ah MC):=L2.bO
noncomputable abbrev MH:Stmt:=inClass (top 34) 9
noncomputable abbrev G7:List Str:=["self","one","word","other"]
noncomputable abbrev pO:=G7
theorem Qe:av G7 pO (ah MH):=L2.bO
noncomputable abbrev Ei:Stmt:=inClass (top 34) 13
noncomputable abbrev Bl:List Str:=["self","name"]
noncomputable abbrev ja:=Bl
theorem Mb:av Bl ja (ah Ei):=L2.bO
noncomputable abbrev El:Stmt:=inClass (top 34) 14
noncomputable abbrev Bp:List Str:=["self","name","marks"]
noncomputable abbrev kP:=Bp
theorem Mg:av Bp kP (ah El):=L2.bO
noncomputable abbrev zW:Stmt:=inClass (top 34) 15
noncomputable abbrev t7:List Str:=["self","one","word","other"]
noncomputable abbrev kO:=t7
theorem Mf:av t7 kO (ah zW):=L2.bO
abbrev Kw(a b:Str):Prop:=a.cps.toList<b.cps.toList
theorem rW(a:Str):¬Kw a a:=List.lt_irrefl _
theorem L4{a b:Str}(h:¬Kw a b)(g:¬Kw b a):a=b:=by
 have e:a.cps.toList=b.cps.toList:=List.le_antisymm (List.not_lt.mp g) (List.not_lt.mp h);obtain⟨a⟩:=a;obtain⟨b⟩:=b;have e:a.toList=b.toList:=e;rw[Array.toList_inj.mp e]
def SU(l:List Str):Prop:=l.Pairwise Kw
theorem zZ:∀(l:List Str)(p:Str),risingS p l=true->(p::l).Pairwise λa b=>¬Kw b a
 |[],p,_=>List.pairwise_singleton ..
 |x::r,p,h=>by
  have h:(!ltCps x.cps.toList p.cps.toList&&risingS x r)=true:=h;rw[zbG] at h;have m:=zZ r x h.2;have n:¬Kw x p:=by
   have:=h.1;rw[ltCps_eq] at this;simpa using this
  refine zaQ.mpr ⟨λy i=>?_,m⟩;rcases zci.mp i with rfl|i
  ·exact n
  ·intro j;have h2:¬Kw y x:=(zaQ.mp m).1 y i;exact n (List.lt_of_le_of_lt (List.not_lt.mp h2) j)
theorem BJ{l:List Str}(h:sortedS l=true):l.Pairwise λa b=>¬Kw b a:=by
 cases l with
 |nil=>exact .nil
 |cons x r=>exact zZ r x h
theorem KP{l:List Str}(i:l.Nodup)(h:sortedS l=true):SU l:=by
 have h2:l.Pairwise λa b=>a≠b:=i;refine((BJ h).and h2).imp λ{a b} ⟨h1,h2⟩=>?_;by_cases c:Kw a b
 ·exact c
 ·exact absurd (L4 c h1) h2
theorem KQ:∀{l m:List Str},SU l->SU m->(∀y,y∈l↔y∈m)->l=m
 |[],[],_,_,_=>rfl
 |[],y::m,_,_,h=>by have:=(h y).mpr (by simp);simp at this
 |x::l,[],_,_,h=>by have:=(h x).mp (by simp);simp at this
 |x::l,y::m,hl,hm,h=>by
  have h1:=zaQ.mp hl;have h2:=zaQ.mp hm;have e:x=y:=by
   have a:=(h x).mp (by simp);have b:=(h y).mpr (by simp);rcases zci.mp a with a|a
   ·exact a
   ·rcases zci.mp b with b|b
    ·exact b.symm
    ·exact absurd (List.lt_trans (h1.1 y b) (h2.1 x a)) (rW x)
  subst e;rw[KQ (m:=m) h1.2 h2.2 λz=>?_];have:=h z;simp only[zci] at this;constructor
  ·intro hz;rcases this.mp (.inr hz) with e|e
   ·subst e;exact absurd (h1.1 z hz) (rW z)
   ·exact e
  ·intro hz;rcases this.mpr (.inr hz) with e|e
   ·subst e;exact absurd (h2.1 z hz) (rW z)
   ·exact e
theorem HM{l m n:List Str}(a:n.Nodup)(h1:l.Perm n)(h2:m.Perm n)(s1:sortedS l=true)(h:sortedS m=true):l=m:=
 KQ (KP (h1.nodup_iff.mpr a) s1) (KP (h2.nodup_iff.mpr a) h) λy=>h1.mem_iff.trans h2.mem_iff.symm
noncomputable abbrev T3(t:Str×Str×Str):D:=.tup [.str t.1,.str t.2.1,.str t.2.2]
theorem qB(t:Str×Str×Str):py (T3 t)=.tuple [.str t.1,.str t.2.1,.str t.2.2]:=by simp[T3,py,dZ]
theorem EM{a b:Str×Str×Str}(h:py (T3 a)=py (T3 b)):a=b:=by
 obtain⟨o,n,m⟩:=a;obtain⟨l,j,i⟩:=b;simp only[qB,PyData.tuple.injEq,zcR.injEq,PyData.str.injEq] at h;rw[h.1,h.2.1,h.2.2.1]
noncomputable def pS(t:Str×Str×Str):Bool:=gp t.1&&gp t.2.1&&gp t.2.2
theorem good3{t:Str×Str×Str}(h:pS t=true):cX (T3 t):=by
 unfold pS at h;rw[zbG,zbG] at h;refine⟨by simp[T3,bY,bH],?_,?_,_,rfl⟩
 ·rw[qB];simp[bJ,ck,PyData.canLay0,oz h.1.1,oz h.1.2,oz h.2]
 ·rw[qB];simp[PyData.depth,PyData.depthAll]
theorem Tz(a b:Str×Str×Str):bK (py (T3 a)) (py (T3 b))=true:=by
 rw[qB,qB];simp[bK,dO]
theorem DV(h:∀t∈ts,pS t=true):Lw (ts.map T3):=
 ⟨λk a=>by obtain⟨t,i,rfl⟩:=zcw.mp a;exact good3 (h t i),λk a=>by obtain⟨t,_,rfl⟩:=zcw.mp a;exact⟨_,_,qB t⟩,λk a l j=>by obtain⟨t,_,rfl⟩:=zcw.mp a;obtain⟨u,_,rfl⟩:=zcw.mp j;exact Tz t u⟩
theorem Ra(ts:List (Str×Str×Str))(t:Str×Str×Str):FG (ts.map T3) (T3 t)=decide (t∈ts):=by
 unfold FG;rw[zcu];by_cases h:t∈ts
 ·rw[yDt h];exact zbC.mpr ⟨t,h,by simp⟩
 ·rw[yDf h];refine zaZ.mpr λx a z=>h ?_;have:py (T3 x)=py (T3 t):=of_decide_eq_true z;rw[<-EM this];exact a
theorem put3{t:Str×Str×Str}(h:t ∉ ts):putN (ts.map T3) (T3 t)=(ts++[t]).map T3:=by
 have:=Ra ts t;rw[yDf h] at this;unfold putN;unfold FG at this;rw[this,yIn (by decide),zbS];rfl
theorem LK{ks:List D}(a:ks.Perm (ts.map T3)):∃us:List (Str×Str×Str),us.Perm ts/\ks=us.map T3:=cK a
abbrev Kn:=Str×List Str
abbrev Ti:=Str×Str×Str
noncomputable abbrev fl:List Str:=["marked","tied","near"]
noncomputable def gJ(ks:List Kn):List Key:=ks.map λk=>.inr k.1
noncomputable def Hu(ms:List Str):List (Key×D):=ms.map λm=>(.inr m,.bl true)
noncomputable def Hv(ms:List Str):D:=.dct (mV (Hu ms)).1 (mV (Hu ms)).2
structure cM(C:Addr)(W:yak)(b L:Nat)(S:aN)(n m t e:Nat)(ns:List Nat)(ks:List Kn)(ts:List Ti):Prop where
 at_:S[n]? =some (some (.ins C fl [.loc m,.loc t,.loc e]))
 B8:S[m]? =some (some (.dct (gJ ks) (ks.map λk=>Hv k.2)))
 ti:S[t]? =some (some (nO W (ts.map T3)))
 ne:S[e]? =some (some (.dct (gJ ks) (ns.map D.loc)))
 len:ns.length=ks.length
 me:m≠e
 tn:t ∉ ns
 near:∀i∈ns,∃js,S[i]? =some (some (nO W js))/\(∀j∈js,cX j)/\js.length<=L
 lo:b<=m/\b<=t/\b<=e/\∀i∈ns,b<=i
 Hs:∀t∈ts,pS t=true
 Se:∀k∈ks,gp k.1=true/\∀m∈k.2,gp m=true
 kb:ks.length<64
 mb:∀k∈ks,k.2.length<64
def gG(C:Addr)(W:yak)(b:Nat)(S:aN)(n:Nat)(ks:List Kn)(ts:List Ti):Prop:=∃m t e ns,cM C W b (2*ts.length) S n m t e ns ks ts
noncomputable abbrev nms(ks:List Kn):List Str:=ks.map (·.1)
theorem qK{o:Option MO}(h:S[n]? =some o):n<S.length:=by
 rcases zcC n S.length with z|z
 ·exact z
 ·rw[zat z] at h;cases h
theorem jt{o o':Option MO}(h:S[n]? =some o):(S.set n o')[n]? =some o':=by
 rw[zbd,yIp rfl,yIp (qK h)]
theorem iB{o:Option MO}{X:aN}(h:S[n]? =some o):(S++X)[n]? =some o:=by
 rw[zae (qK h)];exact h
theorem A7{o:Option MO}:(S++[o])[S.length]? =some o:=by
 rw[zab (zcK _),zcD];rfl
theorem ju{k:Nat}{o x y:Option MO}(a:k≠n)(h:S[k]? =some o):((S++[x]).set n y)[k]? =some o:=by
 rw[zaA (Ne.symm a)];exact iB h
theorem m9{k:Nat}{x y:Option MO}(a:k≠n)(h:k<S.length):((S++[x]).set n y)[k]? =S[k]?:=by
 rw[zaA (Ne.symm a),zae h]
theorem rY{k:Nat}{x y:Option MO}(a:k≠n)(h:k=S.length):((S++[x]).set n y)[k]? =some x:=by
 rw[zaA (Ne.symm a),h];exact A7
theorem yG{ks a:List Str}{h:List D}{f:Str}{o:MO}{v:AE}{l:jr}(j:δ[i]? =some (some (.loc n)))(t:S[n]? =some (some (.ins C ks ds)))(s:ks.length<1000)(m:∀Q:AK,Q (.dat (.loc S.length)) (S++[some o])->v δ S Q)(q:putD f (.loc S.length) ks ds=(a,h))(nx:l.nx δ ((S++[some o]).set n (some (.ins C a h)))):K5 C (iE i) v f l δ S:=by
 refine m _ ⟨_,j,n,ks,ds,rfl,iB t,s,?_⟩;show l.nx δ ((S++[some o]).set n (some (.ins C (putD f (.loc S.length) ks ds).1 (putD f (.loc S.length) ks ds).2)));rw[q];exact nx
section
variable {W:yak}{b:Nat}{t e:Nat}{ns:List Nat}{ks:List Kn}{ts:List Ti}
theorem jN{n:Nat}{o:MO}(h:S[n]? =some (some o)):aT S (.loc n)=o.d:=by simp only[aT,h]
theorem vG(X:cM C W b L S n m t e ns ks ts){Q:AK}(a:δ[i]? =some (some (.loc n)))(q:Q (.dat (.loc m)) S):Kh C (iE i) "marked" δ S Q:=⟨_,a,n,_,_,_,rfl,X.at_,rfl,q⟩
theorem FI(X:cM C W b L S n m t e ns ks ts){Q:AK}(a:δ[i]? =some (some (.loc n)))(q:Q (.dat (.loc t)) S):Kh C (iE i) "tied" δ S Q:=⟨_,a,n,_,_,_,rfl,X.at_,rfl,q⟩
theorem Ln(X:cM C W b L S n m t e ns ks ts){Q:AK}(a:δ[i]? =some (some (.loc n)))(q:Q (.dat (.loc e)) S):Kh C (iE i) "near" δ S Q:=⟨_,a,n,_,_,_,rfl,X.at_,rfl,q⟩
theorem FF(ks:List Kn)(x:Str):kh (gJ ks) (.inr x)=decide (x∈nms ks):=by
 unfold kh gJ;rw[zcu];by_cases h:x∈nms ks
 ·rw[yDt h];obtain⟨k,a,rfl⟩:=zcw.mp h;exact zbC.mpr ⟨k,a,by simp⟩
 ·rw[yDf h];refine zaZ.mpr λk a z=>h ?_;have z:(Sum.inr k.1:Key)=.inr x:=of_decide_eq_true z;injection z with z;exact zcw.mpr ⟨k,a,z⟩
theorem Q6(X:cM C W b L S n m t e ns ks ts){Q:AK}(q:Q (.dat (.bl (neg != decide (x∈nms ks)))) S):zg neg (.str x) (.loc m) S Q:=by
 unfold zg;rw[jN X.B8];refine⟨.inr x,rfl,?_⟩;rw[FF];exact q
theorem yF:∀{ks:List Kn}{ds:List D}{x:Str},ds.length=ks.length->x∈nms ks->∃(i:Nat)(d:D),ki (gJ ks) ds (.inr x)=some d/\ds[i]? =some d/\∃k:Kn,ks[i]? =some k/\k.1=x
 |[],_,x,_,h=>by simp at h
 |k::ks,[],x,hl,_=>by simp at hl
 |k::ks,d::ds,x,hl,h=>by
  unfold ki gJ;rw[zcj,zaN,zbO];by_cases e:k.1=x
  ·refine⟨0,d,?_,rfl,k,rfl,e⟩;rw[yDt (show(Sum.inr k.1:Key)=.inr x by rw[e])];rfl
  ·have j:x∈nms ks:=by
    rcases zci.mp (show x∈k.1::nms ks from h) with z|z
    ·exact absurd z.symm e
    ·exact z
   obtain⟨i,n,h1,h2,a,m,l⟩:=yF (ks:=ks) (ds:=ds) (by simpa using hl) j;refine⟨i+1,n,?_,by simpa using h2,a,by simpa using m,l⟩;rw[yDf (λz=>e (by injection z))];exact h1
theorem EN{d:D}(h:x ∉ nms ks):pq (gJ ks) ds (.inr x) d=.dct (gJ (ks++[(x,ms)])) (ds++[d]):=by
 have:=FF ks x;rw[yDf h] at this;unfold kh at this;unfold pq;rw[this,yIn (by decide)];unfold gJ;rw[zbS];rfl
end
theorem dG{m:Str}{t:AA}{Q:AK}(a:δ[i]? =some (some (.loc n)))(l:S[n]? =some (some (.ins C fl ds)))(j:m ∉ fl)(h:t δ S λes o=>sp (.loc n::es) o Q):Gq C m sp (iE i) t δ S Q:=⟨_,a,n,_,_,rfl,l,j,h⟩
def xq(C:Addr)(W:yak):AN:=λi S Q=>∃n x b a h,i=[.loc n,.str x]/\(∃L m t e ns,cM C W b L S n m t e ns a h)/\x∈nms a/\Q (.dat .bD) S
theorem Ou(T:Txt K mg C fi)(F:tY K C "need_knot" "Web.need_knot" ja Ei):iS P w K mg base 1 C "need_knot" ja (xq C w):=by
 refine o9 F Mb (λu S Q h=>?_) (λf v A outer s H E l=>?_)
 ·obtain⟨n,x,b,i,a,rfl,_⟩:=h;rfl
 ·refine⟨_,(Uz (UN (UH (M.u9 l) (Uu 1) (Ve (Uu 0) T.cl T.n_marked) rfl) (Uz M.eU) UP)),λu S Q h=>?_⟩;obtain⟨n,x,b,i,a,rfl,⟨L,m,t,e,ns,X⟩,j,q⟩:=h;have o:aH Bl [.loc n,.str x]=[some (.loc n),some (.str x)]:=rfl;rw[o];push_cast[true_and];refine vG X rfl (Q6 X ⟨_,rfl,?_⟩);rw[yDt j,yIn (by decide)];exact q
def K0(C:Addr)(W:yak):AN:=λi S Q=>∃n x b h a,i=[.loc n,.str x.1,.str x.2.1,.str x.2.2]/\(∃L m t e ns,cM C W b L S n m t e ns h a)/\pS x=true/\Q (.dat (.bl (decide (x∈a)))) S
theorem RB(T:Txt K mg C fi)(F:tY K C "has_tie" "Web.has_tie" pO MH):iS P w K mg base 1 C "has_tie" pO (K0 C w):=by
 refine o9 F Qe (λu S Q h=>?_) (λf v A outer s H E l=>?_)
 ·obtain⟨n,x,b,i,a,rfl,_⟩:=h;rfl
 ·refine⟨_,(Uz (UE (U3 (M.QT l) (UJ (Uv (Uu 1) (Uv (Uu 2) (Uw (Uu 3))))) (Ve (Uu 0) T.cl T.n_tied) rfl))),λu S Q h=>?_⟩;obtain⟨n,x,b,i,a,rfl,⟨L,m,t,e,ns,X⟩,j,q⟩:=h;have o:aH G7 [.loc n,.str x.1,.str x.2.1,.str x.2.2]=[some (.loc n),some (.str x.1),some (.str x.2.1),some (.str x.2.2)]:=rfl;rw[o];push_cast[true_and];refine⟨ySz 3,FI X rfl ⟨t,_,rfl,X.ti,good3 j,(DV X.Hs).good,?_⟩⟩;rw[Ra,show(false != decide (x∈a))=decide (x∈a) by cases decide (x∈a)<;>rfl];exact q
def DR(C:Addr)(W:yak):AN:=λh S Q=>∃n,h=[.loc n]/\S.length=n+1/\S[n]? =some (some (.ins C [] []))/\∀a,gG C W n a n [] []->(∀k,k<n->a[k]? =S[k]?)->n<=a.length->Q (.dat .bD) a
theorem OD(T:Txt K mg C fi)(F:Hg K "__init__" "Web.__init__" uM f fd):dS P w K mg base m5 1 f fd jb (au K (DR C w)):=by
 refine Ue F Mh (λL S Q h=>?_) (λf O A outer s H E W=>?_)
 ·obtain⟨n,rfl,_⟩:=h;rfl
 ·refine⟨_,(Ux (M.n8 (Uu 0) (UY M.fR) T.cl T.n_marked) (Ux (M.n8 (Uu 0) (UY M.fQ) T.cl T.n_tied) (Uz (M.n8 (Uu 0) (UY M.fR) T.cl T.n_near)))),λL S Q h=>?_⟩;obtain⟨n,rfl,v,u,q⟩:=h;have I:aH Br [.loc n]=[some (.loc n)]:=rfl;rw[I];push_cast[true_and];have G:∀a c:D,putD "tied" c ["marked"] [a]=((["marked","tied"]:List Str),[a,c]):=λa c=>by
   unfold putD;rw[yIn (by decide+kernel)];rfl
  have p3:∀a c d:D,putD "near" d ["marked","tied"] [a,c]=((["marked","tied","near"]:List Str),[a,c,d]):=λa c d=>by
   unfold putD;rw[yIn (by decide+kernel)];unfold putD;rw[yIn (by decide+kernel)];rfl
  refine yG (o:=.dct [] []) rfl u (by decide) (λ_ q=>q) rfl ?_;generalize l:(S++[some (MO.dct [] [])]).set n _=S1;have t:S1.length=n+2:=by rw[<-l,zbT,zaM];simp;lia
  have y:S1[n]? =some (some (.ins C ["marked"] [.loc S.length])):=by rw[<-l];exact jt (iB u)
  simp only[qe];refine yG (o:=nO w []) rfl y (by decide) (λ_ q=>q) (G _ _) ?_;generalize j:(S1++[some (nO w [])]).set n _=S2;have m:S2.length=n+3:=by rw[<-j,zbT,zaM];simp;lia
  have x:S2[n]? =some (some (.ins C ["marked","tied"] [.loc S.length,.loc S1.length])):=by rw[<-j];exact jt (iB y)
  try simp only[qe]
  refine yG (o:=.dct [] []) rfl x (by decide) (λ_ q=>q) (p3 _ _ _) ?_;generalize i:(S2++[some (MO.dct [] [])]).set n _=S3;have U:S3.length=n+4:=by rw[<-i,zbT,zaM];simp;lia
  refine q S3 ⟨n+1,n+2,n+3,[],⟨?_,?_,?_,?_,rfl,by lia,by simp,by simp,⟨by lia,by lia,by lia,by simp⟩,by simp,by simp,by decide,by simp⟩⟩ (λk Y=>?_) (by lia)
  ·rw[<-i];have:=jt (o':=some (.ins C ["marked","tied","near"] [.loc S.length,.loc S1.length,.loc S2.length])) (iB (X:=[some (.dct [] [])]) x);rw[this,v,t,m]
  ·rw[<-i];refine ju (by lia) ?_;rw[<-j];refine ju (by lia) ?_;rw[<-l];exact rY (by lia) v.symm
  ·rw[<-i];refine ju (by lia) ?_;rw[<-j];exact rY (by lia) t.symm
  ·rw[<-i];exact rY (by lia) m.symm
  ·rw[<-i,m9 (by lia) (by lia),<-j,m9 (by lia) (by lia),<-l,m9 (by lia) (by lia)]
def DO(C:Addr)(W:yak):AN:=λj S Q=>∃n x ms b a i,j=[.loc n,.str x,.lst (ms.map D.str)]/\gG C W b S n a i/\x ∉ nms a/\a.length<63/\ms.length<64/\gp x=true/\(∀m∈ms,gp m=true)/\
 ∀h,gG C W b h n (a++[(x,ms)]) i->(∀k,k<b->h[k]? =S[k]?)->S.length<=h.length->Q (.dat .bD) h
theorem ie{a c:Nat}{o u:MO}(h1:S[a]? =some (some o))(h2:S[c]? =some (some u))(h:o≠u):a≠c:=λz=>by
 subst z;rw[h1] at h2;exact h (by simpa using h2)
theorem cM.dist{C:Addr}{W:yak}{b:Nat}{t e:Nat}{ns:List Nat}{ks:List Kn}{ts:List Ti}(X:cM C W b L S n m t e ns ks ts):n≠m/\n≠t/\n≠e/\m≠t/\e≠t/\n ∉ ns/\m ∉ ns/\e ∉ ns:=by
 refine⟨ie X.at_ X.B8 (by intro z;cases z),ie X.at_ X.ti (by intro z;simp[nO] at z),ie X.at_ X.ne (by intro z;cases z),ie X.B8 X.ti (by intro z;simp[nO] at z),ie X.ne X.ti (by intro z;simp[nO] at z),λh=>?_,λh=>?_,λh=>?_⟩
 ·obtain⟨a,h1,_⟩:=X.near _ h;exact ie X.at_ h1 (by intro z;simp[nO] at z) rfl
 ·obtain⟨a,h1,_⟩:=X.near _ h;exact ie X.B8 h1 (by intro z;simp[nO] at z) rfl
 ·obtain⟨a,h1,_⟩:=X.near _ h;exact ie X.ne h1 (by intro z;simp[nO] at z) rfl
theorem sG{W:yak}{a b:AE}{o:jr}(h:a δ S λm l=>b δ l λi j=>∃n ks,m.d=.loc n/\j[n]? =some (some (nO W ks))/\cX i.d/\(∀k∈ks,cX k)/\ks.length<1000/\o.nx δ (j.set n (some (nO W (putN ks i.d))))):
  wo W a b (aC (.bl true)) o δ S:=by
 have mono:∀(Q q:AK),(∀r S,Q r S->q r S)->True:=λ_ _ _=>trivial;refine cast (congrArg (λz=>a δ S z) ?_) h;funext m l;refine congrArg (λz=>b δ l z) ?_;funext i j;refine propext ⟨?_,?_⟩
 ·rintro⟨n,ks,h1,h2⟩;exact⟨n,ks,rfl,h1,h2⟩
 ·rintro⟨n,ks,_,h1,h2⟩;exact⟨n,ks,h1,h2⟩
theorem o8{a b:AE}{Q:AK}(h:a δ S λl m=>b δ m λj i=>∃ks ds k d,aT i l.d=.dct ks ds/\keyOf j.d=some k/\ki ks ds k=some d/\Q (.dat d) i):gA a b δ S Q:=h
theorem Fd{ks:List D}{k j:D}(h:j∈putN ks k):j∈ks∨j=k:=by
 unfold putN at h;split at h
 ·exact .inl h
 ·rcases zbJ.mp h with h|h
  ·exact .inl h
  ·exact .inr (by simpa using h)
theorem Fq(ks:List D)(k:D):(putN ks k).length<=ks.length+1:=by
 unfold putN;split
 ·lia
 ·rw[zaM];simp
theorem cM.vd{C:Addr}{W:yak}{b:Nat}{t e:Nat}{ns:List Nat}{ks:List Kn}{ts:List Ti}{l:List D}{k:D}(X:cM C W b L S n m t e ns ks ts)(hi:i∈ns)(u:S[i]? =some (some (nO W l)))(x:∀j∈l,cX j)(G:l.length<=L)(v:cX k):
  cM C W b (L+1) (S.set i (some (nO W (putN l k)))) n m t e ns ks ts:=by
 obtain⟨U,Q,P,O,I,F,E,y⟩:=X.dist;have ne:∀{a:Nat},a ∉ ns->i≠a:=λh z=>h (z▸hi);refine⟨by rw[zaA (ne F)];exact X.at_,by rw[zaA (ne E)];exact X.B8,by rw[zaA (ne X.tn)];exact X.ti,by rw[zaA (ne y)];exact X.ne,X.len,X.me,X.tn,λs q=>?_,X.lo,X.Hs,X.Se,X.kb,X.mb⟩;by_cases z:i=s
 ·subst z;refine⟨putN l k,jt u,λj h=>?_,zcy (Fq l k) (by lia)⟩;rcases Fd h with h|h
  ·exact x j h
  ·rw[h];exact v
 ·obtain⟨o,h1,h2,H⟩:=X.near s q;exact⟨o,by rw[zaA z];exact h1,h2,by lia⟩
theorem cM.mono{C:Addr}{W:yak}{b a:Nat}{t e:Nat}{ns:List Nat}{ks:List Kn}{ts:List Ti}(X:cM C W b L S n m t e ns ks ts)(h:L<=a):cM C W b a S n m t e ns ks ts:=
 ⟨X.at_,X.B8,X.ti,X.ne,X.len,X.me,X.tn,λi l=>by obtain⟨j,h1,h2,o⟩:=X.near i l;exact⟨j,h1,h2,by lia⟩,X.lo,X.Hs,X.Se,X.kb,X.mb⟩
theorem cM.ve{C:Addr}{W:yak}{b:Nat}{t e:Nat}{ns:List Nat}{ks:List Kn}{ts:List Ti}(X:cM C W b L S n m t e ns ks ts)(o:x∈nms ks):
  ∃i h,ki (gJ ks) (ns.map D.loc) (.inr x)=some (.loc i)/\i∈ns/\S[i]? =some (some (nO W h))/\(∀j∈h,cX j)/\h.length<=L:=by
 obtain⟨i,d,h1,h2,_⟩:=yF (ds:=ns.map D.loc) (by rw[zbK];exact X.len) o;rw[zba] at h2;cases z:ns[i]? with
 |none=>rw[z] at h2;cases h2
 |some a=>
  rw[z] at h2;have:D.loc a=d:=by simpa using h2
  subst this;have l:=zaB z;obtain⟨h,g⟩:=X.near a l;exact⟨a,h,h1,l,g⟩
theorem OA(T:Txt K mg C fi)(F:tY K C "lay_knot" "Web.lay_knot" kP El):iS P w K mg base 1 C "lay_knot" kP (DO C w):=by
 refine o9 F Mg (λds S Q h=>?_) (λf cdv A outer s H E v=>?_)
 ·obtain⟨n,x,ms,b,o,U,rfl,_⟩:=h;rfl
 ·refine⟨_,(Ux (M.gW (dW v) (Ve (Uu 0) T.cl T.n_marked) (Uu 1) (U1 (M.sF v) T.dict (Uv (Vc ["mark"] [none] (UT (Uu 2)) (λ_ _ _ _=>Vi) (λ_ _ _ _=>(UJ (Uv (Uu 0) (Uw UX))))) UA)) rfl) (Uz (M.gW (dW v) (Ve (Uu 0) T.cl T.n_near) (Uu 1) (UY M.fQ) rfl))),λds S Q h=>?_⟩;obtain⟨n,x,ms,b,o,U,rfl,⟨m,t,e,ns,X⟩,L,hkl,G,Y,u,q⟩:=h;have e0:aH Bp [.loc n,.str x,.lst (ms.map D.str)]=[some (.loc n),some (.str x),some (.lst (ms.map D.str))]:=rfl;rw[e0];push_cast[true_and];obtain⟨O,d2,d3,d4,d5,d6,d7,d8⟩:=X.dist;refine⟨_,rfl,?_⟩;show iy (λ_=>True) (bV 0) wm _ (ms.map D.str) [] _ S _;refine comp_map (δ:=ri [none] [some (.loc n),some (.str x),some (.lst (ms.map D.str))]) (λd=>.tup [d,.bl true]) trivial (ms.map D.str) [] _ rfl (λy hy Q' W=>⟨_,rfl,ySz 2,W⟩) (by rw[zbK,yaf];simp;lia) ?_;refine⟨_,Hu ms,rfl,?_,by unfold Hu;rw[zbK];lia,?_⟩
  ·show D.lst _=D.lst _;rw[zbR,zcv];unfold Hu;rw[zcv];rfl
  refine vG X rfl ⟨_,rfl,m,_,_,.inr x,rfl,rfl,X.B8,by rw[zbK];lia,?_⟩;dsimp only;rw[show(R.new (MO.dct (mV (Hu ms)).fst (mV (Hu ms)).snd)).d=Hv ms from rfl,EN (ms:=ms) L];generalize I:S.set m _=S1;have Z:S1.length=S.length:=by rw[<-I,zbT]
  have l:∀k,k≠m->S1[k]? =S[k]?:=λk a=>by rw[<-I,zaA (Ne.symm a)]
  have m1:S1[m]? =some (some (.dct (gJ (o++[(x,ms)])) ((o.map λk=>Hv k.2)++[Hv ms]))):=by rw[<-I];exact jt X.B8
  have bS:b<=S.length:=by have:=qK X.B8;have:=X.lo.1;lia
  refine⟨_,rfl,n,_,_,_,rfl,iB (by rw[l n O];exact X.at_),rfl,_,rfl,e,_,_,.inr x,rfl,rfl,iB (by rw[l e (Ne.symm X.me)];exact X.ne),by rw[zbK,X.len];lia,?_⟩;show Q (.dat .bD) ((S1++[some (nO w [])]).set e (some (pq (gJ o) (ns.map D.loc) (.inr x) (.loc S1.length))));rw[EN (ms:=ms) L];have el:=qK X.ne;have tl:=qK X.ti;have ml:=qK X.B8;refine q _ ⟨m,t,e,ns++[S1.length],⟨?_,?_,?_,?_,by rw[zaM,zaM,X.len];rfl,X.me,?_,?_,⟨X.lo.1,X.lo.2.1,X.lo.2.2.1,?_⟩,X.Hs,?_,by rw[zaM];simp;lia,λk a=>?_⟩⟩ (λk a=>?_) ?_
  ·exact ju d3 (by rw[l n O];exact X.at_)
  ·refine ju X.me ?_;rw[m1,zbS];rfl
  ·exact ju (Ne.symm d5) (by rw[l t (Ne.symm d4)];exact X.ti)
  ·rw[zbS];exact jt (iB (by rw[l e (Ne.symm X.me)];exact X.ne))
  ·intro h;rcases zbJ.mp h with h|h
   ·exact X.tn h
   ·have:t=S1.length:=by simpa using h
    lia
  ·intro i j;rcases zbJ.mp j with j|j
   ·obtain⟨js,g1,g2,g3⟩:=X.near i j;exact⟨js,ju (λz=>d8 (z▸j)) (by rw[l i (λz=>d7 (z▸j))];exact g1),g2,g3⟩
   ·have:i=S1.length:=by simpa using j
    subst this;exact⟨[],rY (by lia) rfl,by simp,by simp⟩
  ·intro i j;rcases zbJ.mp j with j|j
   ·exact X.lo.2.2.2 i j
   ·have:i=S1.length:=by simpa using j
    lia
  ·intro k a;rcases zbJ.mp a with a|a
   ·exact X.Se k a
   ·have:k=(x,ms):=by simpa using a
    subst this;exact⟨Y,u⟩
  ·rcases zbJ.mp a with a|a
   ·exact X.mb k a
   ·have:k=(x,ms):=by simpa using a
    subst this;exact G
  ·have:=X.lo;rw[m9 (by lia) (by lia),l k (by lia)]
  ·rw[zbT,zaM,Z];lia
def DN(C:Addr)(W:yak):AN:=λj S Q=>∃n x b h a,j=[.loc n,.str x.1,.str x.2.1,.str x.2.2]/\gG C W b S n h a/\x.1∈nms h/\x.2.2∈nms h/\x ∉ a/\a.length<=300/\pS x=true/\
 ∀i,gG C W b i n h (a++[x])->(∀k,k<b->i[k]? =S[k]?)->i.length=S.length->Q (.dat .bD) i
theorem Oz(T:Txt K mg C fi)(F:tY K C "lay_tie" "Web.lay_tie" kO zW):iS P w K mg base 1 C "lay_tie" kO (DN C w):=by
 refine o9 F Mf (λds S Q h=>?_) (λf cdv A outer s H E u=>?_)
 ·obtain⟨n,x,b,ks,G,rfl,_⟩:=h;rfl
 ·refine⟨_,(Ux (M.gi u (Ve (Uu 0) T.cl T.n_tied) (UJ (Uv (Uu 1) (Uv (Uu 2) (Uw (Uu 3))))) UX rfl) (Ux (M.gi u (Vo (dW u) (Ve (Uu 0) T.cl T.n_near) (Uu 1) (λ_ _=>rfl)) (UJ (Uv UG (Uv (Uu 2) (Uw (Uu 3))))) UX rfl) (Uz (M.gi u (Vo (dW u) (Ve (Uu 0) T.cl T.n_near) (Uu 3) (λ_ _=>rfl)) (UJ (Uv UG (Uv (Uu 2) (Uw (Uu 1))))) UX rfl)))),λds S Q h=>?_⟩;obtain⟨n,x,b,ks,G,rfl,⟨m,t,e,ns,X⟩,hx1,hx2,hx,hkl,W,q⟩:=h;have e0:aH t7 [.loc n,.str x.1,.str x.2.1,.str x.2.2]=[some (.loc n),some (.str x.1),some (.str x.2.1),some (.str x.2.2)]:=rfl;rw[e0];push_cast[true_and];obtain⟨d1,d2,d3,d4,d5,d6,d7,d8⟩:=X.dist;have hw:(kj m5 P w K mg base t7 "Web.lay_tie" (ah zW) f cdv A outer s H E).w=w:=rfl;have a:=W;unfold pS at a;rw[zbG,zbG] at a;refine sG (FI X rfl ?_);refine⟨_,rfl,_,rfl,_,rfl,ySz 3,t,G.map T3,rfl,X.ti,good3 W,(DV X.Hs).good,by rw[zbK];lia,?_⟩;dsimp only;rw[hw,show(R.dat (D.tup [(R.dat (D.str x.1)).d,(R.dat (D.str x.2.1)).d,(R.dat (D.str x.2.2)).d])).d=T3 x from rfl,put3 hx];generalize e1:S.set t _=S1;have j:∀k,k≠t->S1[k]? =S[k]?:=λk I=>by rw[<-e1,zaA (Ne.symm I)]
  have U:cM C w b (2*G.length) S1 n m t e ns ks (G++[x]):=by
   refine⟨by rw[j n d2];exact X.at_,by rw[j m d4];exact X.B8,by rw[<-e1];exact jt X.ti,by rw[j e d5];exact X.ne,X.len,X.me,X.tn,λi hi=>?_,X.lo,λy o=>?_,X.Se,X.kb,X.mb⟩
   ·obtain⟨Y,g1,O,L⟩:=X.near i hi;exact⟨Y,by rw[j i (λz=>X.tn (z▸hi))];exact g1,O,L⟩
   ·rcases zbJ.mp o with o|o
    ·exact X.Hs y o
    ·have:y=x:=by simpa using o
     subst this;exact W
  obtain⟨i,Y,g1,O,L,g4,g5⟩:=U.ve hx1;simp only[qe];refine sG (o8 (Ln U rfl ?_));refine⟨_,rfl,_,_,_,_,jN U.ne,rfl,g1,⟨_,rfl,_,rfl,ySz 3,i,Y,rfl,L,good3 (t:=("on",x.2.1,x.2.2)) ?_,g4,by lia,?_⟩⟩
  ·unfold pS;rw[zbG,zbG];exact⟨⟨show gp "on"=true by decide+kernel,a.1.2⟩,a.2⟩
  have v:=U.vd (k:=T3 ("on",x.2.1,x.2.2)) O L g4 g5 (good3 (by unfold pS;rw[zbG,zbG];exact⟨⟨show gp "on"=true by decide+kernel,a.1.2⟩,a.2⟩));dsimp only;rw[show(R.dat (D.tup [(R.dat (D.str "on")).d,(R.dat (D.str x.2.1)).d,(R.dat (D.str x.2.2)).d])).d=T3 ("on",x.2.1,x.2.2) from rfl];generalize e2:S1.set i _=S2 at v;have o2:∀k,k≠i->S2[k]? =S1[k]?:=λk I=>by rw[<-e2,zaA (Ne.symm I)]
  obtain⟨Z,l,k1,k2,k3,k4,k5⟩:=v.ve hx2;have gb:pS ("back",x.2.1,x.1)=true:=by unfold pS;rw[zbG,zbG];exact⟨⟨show gp "back"=true by decide+kernel,a.1.2⟩,a.1.1⟩
  refine sG (o8 (Ln v rfl ?_));refine⟨_,rfl,_,_,_,_,jN v.ne,rfl,k1,⟨_,rfl,_,rfl,ySz 3,Z,l,rfl,k3,good3 (t:=("back",x.2.1,x.1)) gb,k4,by lia,?_⟩⟩;have X3:=v.vd (k:=T3 ("back",x.2.1,x.1)) k2 k3 k4 k5 (good3 gb);show Q (.dat .bD) (S2.set Z (some (nO w (putN l (T3 ("back",x.2.1,x.1))))));refine q _ ⟨m,t,e,ns,X3.mono (by rw[zaM];simp;lia)⟩ (λk I=>?_) ?_
  ·have:=X.lo;have b1:=X.lo.2.2.2 i O;have b2:=X.lo.2.2.2 Z k2;rw[zaA (by lia),o2 k (by lia),j k (by lia)]
  ·rw[zbT,<-e2,zbT,<-e1,zbT]
def DI(C:Addr)(W:yak):AN:=λj S Q=>∃n x ms b a i,j=[.loc n,.str x,.lst (ms.map D.str)]/\gG C W b S n a i/\x ∉ nms a/\a.length<40/\ms.length<64/\gp x=true/\(∀m∈ms,gp m=true)/\
 ∀h,gG C W b h n (a++[(x,ms)]) i->(∀k,k<b->h[k]? =S[k]?)->S.length<=h.length->Q (.dat .bD) h
theorem Oq(T:Txt K mg C fi)(F:tY K C "put_knot" "Web.put_knot" kJ Eg)(a:iS P w K mg base 1 C "lay_knot" kP (DO C w)):iS P w K mg base 2 C "put_knot" kJ (DI C w):=by
 refine o9 F L8 (λL S Q h=>?_) (λf O A outer s H E v=>?_)
 ·obtain⟨n,x,ms,b,i,o,rfl,_⟩:=h;rfl
 ·refine⟨_,(Ux (UN (UH (M.QU v) (Uu 1) (Ve (Uu 0) T.cl T.n_marked) rfl) (Uz M.eU) UP) (Ux (UN (UH M.Nv (UO UZ T.len (Uv (Ve (Uu 0) T.cl T.n_marked) UA)) T.pY (aK _)) (Uz M.eU) UP) (Uz (U0 (Vk (Uu 0) T.cl a (v.mono (by decide)) (Uv (Uu 1) (Uw (Uu 2)))))))),λL S Q h=>?_⟩;obtain⟨n,x,ms,b,i,o,rfl,⟨m,t,e,ns,X⟩,u,G,l,y,j,q⟩:=h;have I:aH Bh [.loc n,.str x,.lst (ms.map D.str)]=[some (.loc n),some (.str x),some (.lst (ms.map D.str))]:=rfl;rw[I];push_cast[true_and];refine vG X rfl (Q6 X ⟨_,rfl,?_⟩);rw[yDf u,yIn (by decide)];refine vG X rfl ⟨i.length,?_,?_⟩
  ·rw[lE,jN X.B8];show some (gJ i).length=_;unfold gJ;rw[zbK]
  rw[yDf (by lia),yIn (by decide)];exact dG rfl X.at_ (by decide+kernel) ⟨_,rfl,_,rfl,n,x,ms,b,i,o,rfl,⟨m,t,e,ns,X⟩,u,by lia,l,y,j,q⟩
def DH(C:Addr)(W:yak):AN:=λj S Q=>∃n x b h a,j=[.loc n,.str x.1,.str x.2.1,.str x.2.2]/\gG C W b S n h a/\x.1∈nms h/\x.2.2∈nms h/\x ∉ a/\a.length<300/\pS x=true/\
 ∀i,gG C W b i n h (a++[x])->(∀k,k<b->i[k]? =S[k]?)->i.length=S.length->Q (.dat .bD) i
theorem Oo(T:Txt K mg C fi)(F:tY K C "put_tie" "Web.put_tie" kI Ef)(a:iS P w K mg base 1 C "need_knot" ja (xq C w))(j:iS P w K mg base 1 C "has_tie" pO (K0 C w))(i:iS P w K mg base 1 C "lay_tie" kO (DN C w)):iS P w K mg base 2 C "put_tie" kI (DH C w):=by
 refine o9 F L7 (λU S Q h=>?_) (λf W A outer s H E y=>?_)
 ·obtain⟨n,x,b,o,l,rfl,_⟩:=h;rfl
 ·refine⟨_,(Ux (U0 (Vk (Uu 0) T.cl a (y.mono (by decide)) (Uw (Uu 1)))) (Ux (U0 (Vk (Uu 0) T.cl a (y.mono (by decide)) (Uw (Uu 3)))) (Ux (UN (U4 (Vk (Uu 0) T.cl j (y.mono (by decide)) (Uv (Uu 1) (Uv (Uu 2) (Uw (Uu 3)))))) (Uz M.eU) UP) (Ux (UN (UH M.Nv (UO M.Nr T.len (Uv (Ve (Uu 0) T.cl T.n_tied) UA)) T.sy (aK _)) (Uz M.eU) UP) (Uz (U0 (Vk (Uu 0) T.cl i (y.mono (by decide)) (Uv (Uu 1) (Uv (Uu 2) (Uw (Uu 3))))))))))),λU S Q h=>?_⟩;obtain⟨n,x,b,o,l,rfl,⟨m,t,e,ns,X⟩,v,u,I,L,G,q⟩:=h;have O:aH Bg [.loc n,.str x.1,.str x.2.1,.str x.2.2]=[some (.loc n),some (.str x.1),some (.str x.2.1),some (.str x.2.2)]:=rfl;rw[O];push_cast[true_and];refine dG rfl X.at_ (by decide+kernel) ⟨_,rfl,n,x.1,b,o,l,rfl,⟨_,m,t,e,ns,X⟩,v,?_⟩;refine dG rfl X.at_ (by decide+kernel) ⟨_,rfl,n,x.2.2,b,o,l,rfl,⟨_,m,t,e,ns,X⟩,u,?_⟩;refine dG rfl X.at_ (by decide+kernel) ⟨_,rfl,_,rfl,_,rfl,n,x,b,o,l,rfl,⟨_,m,t,e,ns,X⟩,G,?_⟩;refine⟨false,by rw[yDf I];rfl,?_⟩;rw[yIn (by decide)];refine FI X rfl ⟨t,l.map T3,rfl,X.ti,by rw[zbK];lia,?_⟩;refine⟨_,_,rfl,rfl,trivial,_,rfl,?_⟩;rw[zbK,yDf (by lia),yIn (by decide)];exact dG rfl X.at_ (by decide+kernel) ⟨_,rfl,_,rfl,_,rfl,n,x,b,o,l,rfl,⟨m,t,e,ns,X⟩,v,u,I,by lia,G,q⟩
noncomputable def KS(l:List Str):List Str:=open Classical in if h:∃s:List Str,s.Perm l/\sortedS s=true then h.choose else []
theorem L0{l s:List Str}(j:l.Nodup)(i:s.Perm l)(a:sortedS s=true):s=KS l:=by
 have h:∃s:List Str,s.Perm l/\sortedS s=true:=⟨s,i,a⟩
 unfold KS;rw[dif_pos h];exact HM j i h.choose_spec.1 a h.choose_spec.2
noncomputable def mk1(a:List Str)(m:Str):List Str:=if m∈a then a else a++[m]
noncomputable def wV(ms:List Str):List Str:=ms.foldl mk1 []
theorem vO(a:List Str)(m:Str):kh (a.map Sum.inr) (.inr m)=decide (m∈a):=by
 unfold kh;rw[zcu];by_cases h:m∈a
 ·rw[yDt h];exact zbC.mpr ⟨m,h,by simp⟩
 ·rw[yDf h];refine zaZ.mpr λk i z=>h ?_;have z:(Sum.inr k:Key)=.inr m:=of_decide_eq_true z;injection z with z;rw[<-z];exact i
theorem oK:∀(ms a:List Str)(ds:List D),∃es,(Hu ms).foldl vN (a.map Sum.inr,ds)=((ms.foldl mk1 a).map Sum.inr,es)
 |[],a,ds=>⟨ds,rfl⟩
 |m::ms,a,ds=>by
  show∃es,(Hu ms).foldl vN (vN (a.map Sum.inr,ds) (.inr m,.bl true))=_;rw[zbQ];unfold vN mk1;rw[vO];by_cases h:m∈a
  ·rw[yDt h,yIp rfl,yIp h];exact oK ms a _
  ·rw[yDf h,yIn (by decide),yIn h];have:=oK ms (a++[m]) (ds++[.bl true]);rw[zbS] at this;exact this
theorem NC(ms:List Str):∃es,Hv ms=.dct ((wV ms).map Sum.inr) es:=by
 obtain⟨es,h⟩:=oK ms [] [];refine⟨es,?_⟩;unfold Hv mV wV;have h:(Hu ms).foldl vN ([],[])=_:=h;rw[h]
theorem sP:∀(ms a:List Str),a.Nodup->(ms.foldl mk1 a).Nodup/\∀y∈ms.foldl mk1 a,y∈a∨y∈ms
 |[],a,h=>⟨h,λy i=>.inl i⟩
 |m::ms,a,h=>by
  rw[zbQ];by_cases j:m∈a
  ·have e:mk1 a m=a:=yIp j;rw[e];obtain⟨h1,h2⟩:=sP ms a h;exact⟨h1,λy i=>(h2 y i).imp id (zay _)⟩
  ·have e:mk1 a m=a++[m]:=yIn j;rw[e];obtain⟨h1,h2⟩:=sP ms (a++[m]) (zbf.mpr ⟨h,by simp,λx l y i z=>by
    have:y=m:=by simpa using i
    exact j (by rw[<-this,<-z];exact l)⟩)
   refine⟨h1,λy i=>?_⟩;rcases h2 y i with z|z
   ·rcases zbJ.mp z with z|z
    ·exact .inl z
    ·have n:y=m:=by simpa using z
     exact .inr (by rw[n];simp)
   ·exact .inr (zay _ z)
theorem lP(ms:List Str):(wV ms).Nodup:=(sP ms [] .nil).1
theorem sQ{y:Str}(h:y∈wV ms):y∈ms:=((sP ms [] .nil).2 y h).resolve_left (by simp)
theorem sH{k j:Kn}:∀{ks:List Kn},(nms ks).Nodup->k∈ks->j∈ks->k.1=j.1->k=j
 |[],_,h,_,_=>by simp at h
 |a::ks,i,h,h',e=>by
  have i:(a.1::nms ks).Nodup:=i;rw[zbM] at i;rcases zci.mp h with z|g
  ·rcases zci.mp h' with l|m
   ·rw[z,l]
   ·exact absurd (show a.1∈nms ks from zcw.mpr ⟨j,m,by rw[<-e,z]⟩) i.1
  ·rcases zci.mp h' with l|m
   ·exact absurd (show a.1∈nms ks from zcw.mpr ⟨k,g,by rw[e,l]⟩) i.1
   ·exact sH i.2 g m e
noncomputable def aQ(ks:List Kn)(x:Str):List Str:=((ks.find? λk=>decide (k.1=x)).map (·.2)).getD []
theorem cA{x:Str}:∀{ks:List Kn},x∈nms ks->(x,aQ ks x)∈ks
 |[],h=>by simp at h
 |k::ks,h=>by
  unfold aQ;rw[zbO];by_cases e:k.1=x
  ·rw[yDt e];subst e;exact zaL ..
  ·rw[yDf e];rcases zci.mp (show x∈k.1::nms ks from h) with z|z
   ·exact absurd z.symm e
   ·exact zay _ (cA (ks:=ks) z)
def KU(C:Addr)(W:yak):AN:=λi S Q=>∃n b a h k,i=[.loc n,.str k.1]/\(∃L m t e ns,cM C W b L S n m t e ns a h)/\(nms a).Nodup/\k∈a/\((KS (wV k.2)).Perm (wV k.2)->Q (.new (.lst ((KS (wV k.2)).map D.str))) S)
theorem Ru(T:Txt K mg C fi)(F:tY K C "marks" "Web.marks" pK MC)(a:iS P w K mg base 1 C "need_knot" ja (xq C w)):iS P w K mg base 2 C "marks" pK (KU C w):=by
 refine o9 F P8 (λds S Q h=>?_) (λf cdv A outer s H E u=>?_)
 ·obtain⟨n,b,o,x,k,rfl,_⟩:=h;rfl
 ·refine⟨_,(Ux (U0 (Vk (Uu 0) T.cl a (u.mono (by decide)) (Uw (Uu 1)))) (Uz (UE (UO (M.E4 u) T.sorted (Uv (Vo (dW u) (Ve (Uu 0) T.cl T.n_marked) (Uu 1) (λ_ _=>rfl)) UA))))),λds S Q h=>?_⟩;obtain⟨n,b,o,x,k,rfl,⟨L,m,t,e,ns,X⟩,W,v,q⟩:=h;have e0:aH GZ [.loc n,.str k.1]=[some (.loc n),some (.str k.1)]:=rfl;rw[e0];push_cast[true_and];have l:k.1∈nms o:=zcw.mpr ⟨k,v,rfl⟩;refine dG rfl X.at_ (by decide+kernel) ⟨_,rfl,n,k.1,b,o,x,rfl,⟨_,m,t,e,ns,X⟩,l,?_⟩;obtain⟨i,d,h1,h2,j,I,Y⟩:=yF (ds:=o.map λk=>Hv k.2) (by rw[zbK]) l;have ek:j=k:=sH W (zaB I) v Y;subst ek;have ed:d=Hv j.2:=by
   rw[zba,I] at h2;simpa using h2.symm
  subst ed;obtain⟨Z,em⟩:=NC j.2;refine o8 (vG X rfl ⟨_,rfl,_,_,_,_,jN X.B8,rfl,h1,⟨_,Z,wV j.2,rfl,?_,Nat.lt_of_le_of_lt (L2.lM (lP _) λy O=>sQ O) (X.mb j v),λss G U=>?_⟩⟩)
  ·rw[show(R.dat (Hv j.2)).d=Hv j.2 from rfl,em];rfl
  ·have e:=L0 (lP _) G U;subst e;exact q G
open PySem L2 M M6
noncomputable abbrev wQ:List Str:=["leaf","marks"]
noncomputable abbrev iQ:=wQ
theorem Ie:av wQ iQ (ah (top 4)):=L2.bO
noncomputable abbrev wF:List Str:=["leaf","side","word"]
noncomputable abbrev iH:=wF
theorem HY:av wF iH (ah (top 5)):=L2.bO
noncomputable abbrev LA:List Str:=["many","moves","near","one","leaf","other"]
noncomputable abbrev wB:=LA.take 2
theorem D6:av LA wB (ah (top 13)):=L2.bO
noncomputable abbrev Bm:List Str:=["machine"]
noncomputable abbrev kL:=Bm
theorem Mc:av Bm kL (ah (top 20)):=L2.bO
noncomputable abbrev Bs:List Str:=["near","stands","marks","found","waiting","stand","leaf","other"]
noncomputable abbrev kR:=Bs.take 3
theorem lA:av Bs kR (ah (top 14)):=L2.bO
noncomputable abbrev Bu:List Str:=["near","stands","side","word","found","stand","leaf","other"]
noncomputable abbrev kU:=Bu.take 4
theorem nT:av Bu kU (ah (top 15)):=L2.bO
noncomputable def o5(ks:List Nat):List Key:=ks.map λk:Nat=>Sum.inl (k:Int)
noncomputable def oZ(ks:List Nat):List D:=ks.map λ_=>D.bl true
noncomputable def fO(ks:List Nat):MO:=.dct (o5 ks) (oZ ks)
theorem Rn(ks:List Nat):(fO ks).d=.dct (o5 ks) (oZ ks):=rfl
noncomputable def ins(ks:List Nat)(k:Nat):List Nat:=if k∈ks then ks else ks++[k]
theorem sR{ks:List Nat}{k x:Nat}:x∈ins ks k↔x∈ks∨x=k:=by
 unfold ins;split
 ·next h=>exact⟨.inl,λa=>a.elim id λe=>e▸h⟩
 ·simp
theorem lN{ks:List Nat}{k:Nat}(h:ks.Nodup):(ins ks k).Nodup:=by
 unfold ins;split
 ·exact h
 ·next hk=>
  rw[zbf];refine⟨h,by simp,λa j b i=>?_⟩;rw[zaO.mp i];intro e;exact hk (e▸j)
theorem Ay{ks:List Nat}{k:Nat}:kh (o5 ks) (.inl (k:Int))=decide (k∈ks):=by
 unfold kh o5;rw[zcu];by_cases h:k∈ks
 ·rw[yDt h,zbC];exact⟨k,h,by simp⟩
 ·rw[yDf h,zaZ];intro j a;simp;intro e;exact h (by rw[<-show j=k by lia];exact a)
theorem FZ(ks:List Nat)(k:Nat):vN (o5 ks,oZ ks) (.inl (k:Int),.bl true)=(o5 (ins ks k),oZ (ins ks k)):=by
 unfold vN;dsimp only;rw[Ay];by_cases h:k∈ks
 ·rw[yIp (yDt h)];have e:ins ks k=ks:=yIp h;rw[e];congr 1;unfold o5 oZ;rw[List.zip_map',zcv];refine zaF λj _=>?_;show(if _ then _ else _)=_;split<;>rfl
 ·rw[yIn (by simpa using h)];have e:ins ks k=ks++[k]:=yIn h;rw[e];unfold o5 oZ;simp
theorem EO(ks:List Nat)(k:Nat):pq (o5 ks) (oZ ks) (.inl (k:Int)) (.bl true)=fO (ins ks k):=by
 have:=tH (o5 ks,oZ ks) (.inl (k:Int),.bl true);rw[FZ] at this;exact this
noncomputable def gx(ks st:List Nat):List Nat:=st.foldl ins ks
theorem AY:∀(st ks:List Nat),(st.map λs:Nat=>((Sum.inl (s:Int):Key),D.bl true)).foldl vN (o5 ks,oZ ks)=(o5 (gx ks st),oZ (gx ks st))
 |[],ks=>rfl
 |s::st,ks=>by
  rw[zcj,zbQ,FZ];exact AY st (ins ks s)
theorem oM{x:Nat}:∀(st ks:List Nat),x∈gx ks st↔x∈ks∨x∈st
 |[],ks=>by simp[gx]
 |s::st,ks=>by
  show x∈gx (ins ks s) st↔_;rw[oM st,sR,zci,or_assoc]
theorem j6:∀(st ks:List Nat),ks.Nodup->(gx ks st).Nodup
 |[],ks,h=>h
 |s::st,ks,h=>j6 st (ins ks s) (lN h)
noncomputable def pT(S:aN)(n:Nat)(g:Nat->Option MO)(d:Option MO):aN:=S++((zcO n).map g++[d])
section
variable {g g':Nat->Option MO}{d d' x:Option MO}
theorem yV(h:i<n):(pT S n g d)[S.length+i]? =some (g i):=by
 unfold pT;rw[zab (by lia),zan,zae (by simpa using h)];simp[h]
theorem F8:(pT S n g d)[S.length+n]? =some d:=by
 unfold pT;rw[zab (by lia),zan,zab (by simp)];simp
theorem A0(h:i<n):(pT S n g d).set (S.length+i) x=pT S n (λj=>if j=i then x else g j) d:=by
 unfold pT;rw[zau _ _ (by lia),zan,List.set_append_left _ _ (by simpa using h)];congr 2;refine zbx (by simp) λj h1 h2=>?_;rw[List.getElem_set];simp only[zbz,zaP];by_cases e:i=j
 ·rw[yIp e,yIp e.symm]
 ·rw[yIn e,yIn (Ne.symm e)]
theorem F7:(pT S n g d).set (S.length+n) x=pT S n g x:=by
 unfold pT;rw[zau _ _ (by lia),zan,zau _ _ (by simp)];simp
theorem F6:(pT S n g d).take S.length=S:=by unfold pT;rw[zcd]
theorem lT(h:∀i,i<n->g i=g' i):pT S n g d=pT S n g' d:=by
 unfold pT;congr 2;exact zaF λi a=>h i (by simpa using a)
end
theorem EC{a:aN}{o:MO}{Q:AK}(s:S.length<=m)(e:a[m]? =some (some o))(i:a.take S.length=S)(h:lU S.length o=true)(q:Q (.new o) S):VD S a (.dat (.loc m)) Q:=by
 refine⟨.new o,?_,λk n j l=>.inl ?_,by rw[i];exact q⟩
 ·simp only[out];rw[yIn (by lia),e];show(if _ then _ else _)=_;rw[yIp h]
 ·rw[<-i,List.getElem?_take,yIp j];exact l
noncomputable def kN(n:Nat):List Key:=(zcO n).map λi:Nat=>Sum.inl (i:Int)
noncomputable def pD(m:Mv):D:=.tup [lD m.2.1,.int m.2.2]
noncomputable def eX(mv:List Mv)(i:Nat):List D:=(mv.filter λm=>decide (m.1=i)).map pD
noncomputable def dg(n:Nat)(mv:List Mv):MO:=.dct (kN n) ((zcO n).map λi=>.lst (eX mv i))
theorem JX:kh (kN n) (.inl (i:Int))=decide (i<n):=by
 unfold kh kN;rw[zcu];by_cases h:i<n
 ·rw[yDt h,zbC];exact⟨i,by simpa using h,by simp⟩
 ·rw[yDf h,zaZ];intro j a;simp only[zcb] at a;simp;lia
theorem tK{f:Nat->D}(h:i<n):ki (kN n) ((zcO n).map f) (.inl (i:Int))=some (f i):=by
 unfold ki kN;have e:((zcO n).map (λi:Nat=>(Sum.inl (i:Int):Key))).zip ((zcO n).map f)=(zcO n).map λj:Nat=>((Sum.inl (j:Int):Key),f j):=by
  rw[List.zip_map']
 rw[e,List.find?_map];have:(zcO n).find? ((λp:Key×D=>decide (p.1=Sum.inl (i:Int))) ∘ λj:Nat=>(Sum.inl (j:Int),f j))=some i:=by
  rw[List.find?_eq_some_iff_getElem];refine⟨by simp,i,by simpa using h,by simp,λj a=>?_⟩;simp;lia
 rw[this];rfl
theorem JY{f:Nat->D}:mV ((zcO n).map λi:Nat=>(Sum.inl (i:Int),f i))=(kN n,(zcO n).map f):=by
 induction n with
 |zero=>rfl
 |succ n ih=>
  unfold mV at ih⊢;rw[zbV,zbS,List.foldl_append,ih];show vN (kN n,(zcO n).map f) (Sum.inl (n:Int),f n)=_;unfold vN;rw[yIn (by rw[JX];simp)];simp[kN,zbV]
theorem yo(a:List Mv)(r:Mv)(i:Nat):eX (a++[r]) i=if i=r.1 then eX a i++[pD r] else eX a i:=by
 unfold eX;rw[List.filter_append,zbS];by_cases h:i=r.1
 ·subst h;simp
 ·rw[yIn h];have:¬r.1=i:=λe=>h e.symm;simp[this]
theorem AH{S:aN}{n:Nat}{f:Nat->List D}:∀(j k:Nat),k+j=n->C3 (S.length+n) (kN n) ((zcO n).map λi=>if i<k then D.lst (f i) else .loc (S.length+i)) (pT S n (λi=>if i<k then none else some (.lst (f i))) (some (.dct (kN n) ((zcO n).map λi=>if i<k then D.lst (f i) else .loc (S.length+i)))))
  ((zcO n).map λi=>D.lst (f i)) (pT S n (λ_=>none) (some (.dct (kN n) ((zcO n).map λi=>D.lst (f i)))))
 |0,k,h=>by
  have e:((zcO n).map λi=>if i<k then D.lst (f i) else .loc (S.length+i))=(zcO n).map λi=>D.lst (f i):=zaF λi a=>by
   rw[yIp (by simp at a;lia)]
  rw[e,lT (g:=λi=>if i<k then none else some (.lst (f i))) (g':=λ_=>none) (λi a=>by rw[yIp (by lia)])];exact .nil
 |j+1,k,h=>by
  have l:k<n:=by lia
  refine .step (m:=S.length+k) (es:=f k) ?_ (by lia) ?_
  ·rw[yV l,yIn (by lia)]
  ·have q:(((zcO n).map λi=>if i<k then D.lst (f i) else .loc (S.length+i)).map (sb (S.length+k) (.lst (f k))))=(zcO n).map λi=>if i<k+1 then D.lst (f i) else .loc (S.length+i):=by
    rw[zcv];refine zaF λi a=>?_;show sb (S.length+k) (.lst (f k)) (if i<k then D.lst (f i) else .loc (S.length+i))=_;rcases zbj i k with h|h|h
    ·rw[yIp h,yIp (by lia)];rfl
    ·subst h;rw[yIn (by lia),yIp (by lia)];show(if S.length+i=S.length+i then _ else _)=_;rw[yIp rfl]
    ·rw[yIn (by lia),yIn (by lia)];show(if S.length+i=S.length+k then _ else _)=_;rw[yIn (by lia)]
   rw[q,A0 l,F7];have o:=lT (S:=S) (n:=n) (d:=some (.dct (kN n) ((zcO n).map λi=>if i<k+1 then D.lst (f i) else .loc (S.length+i)))) (g:=λj=>if j=k then none else if j<k then none else some (MO.lst (f j))) (g':=λi=>if i<k+1 then none else some (.lst (f i))) (λi a=>by
    rcases zbj i k with h|h|h
    ·rw[yIn (by lia),yIp h,yIp (by lia)]
    ·rw[yIp h,yIp (by lia)]
    ·rw[yIn (by lia),yIn (by lia),yIn (by lia)])
   rw[o];exact AH j (k+1) (by lia)
theorem Aa{n:Nat}:∀{mv:List Mv},(∀m∈mv,nH n m)->bH (mv.map pD)=true
 |[],_=>rfl
 |m::mv,h=>by
  have h1:=(Aq (h m (by simp)).2.1).2.2;simp only[zcj,bH,pD,bY,h1,Aa λk a=>h k (zay _ a),zcq]
theorem vZ{mv:List Mv}(h:∀x∈mv,nH n x):lU m (dg n mv)=true:=by
 show je m ((zcO n).map λi=>D.lst (eX mv i))=true;refine cL m _ ?_;generalize zcO n=l
 induction l with
 |nil=>rfl
 |cons i l ih=>
  have h1:bH (eX mv i)=true:=Aa λx a=>h x (zbI.mp a).1;simp only[zcj,bH,bY,h1,ih,zcq]
def P0:AN:=λh S Q=>∃(n:Nat)(a:List Mv),h=[.int n,.tup (a.map vD)]/\n<=62/\(∀m∈a,nH n m)/\a.length<=62/\Q (.new (dg n a)) S
theorem Tw(T:Txt K mg C fi)(F:Src K mg "by_stand" wB (top 13)):Def P w K mg base 1 "by_stand" wB (au K P0):=by
 refine cD F D6 (λds S Q h=>?_) (λf cdv A outer s H E a=>?_)
 ·obtain⟨n,t,rfl,_⟩:=h;rfl
 ·refine⟨_,(Ux (UD 2 D6.nd (UY (U1 (M.sF a) T.dict (Uv (Vc ["stand"] [none] (Vh (by rfl) T.range (Uw (Uu 0))) (λ_ _ _ _=>Vi) (λ_ _ _ _=>(UJ (Uv (Uu 0) (Uv (UY (UM UA)) UA))))) UA)))) (Ux (UW PassesOwn.never rfl (UT (Uu 1)) (U7 (n:=3) rfl (UL (UI 3 D6.nd) (UL (UI 4 D6.nd) (UL (UI 5 D6.nd) U6)))) (Uz (U0 (Vb PySem.F.plainAttrs_list PySem.F.slot_list_append PySem.F.type_list_append Vr (Vo (dW a) (Uu 2) (Uu 3) (λ_ _=>rfl)) (Uv (UJ (Uv (Uu 4) (Uw (Uu 5)))) UA))))) (Uz (UE (M.Tp (Uu 2)))))),λds S Q h=>?_⟩;obtain⟨n,t,rfl,n6,L,hl,q⟩:=h;have e0:aH LA [.int n,.tup (t.map vD)]=[some (.int n),some (.tup (t.map vD)),none,none,none,none]:=rfl;rw[e0];push_cast[cW,mQ,bW];refine⟨by lia,by lia,?_⟩;refine nD (λrest y m G=>∃(k:Nat)(v:Option D),k<=n/\rest=((zcO n).drop k).map (λi:Nat=>D.int i)/\y=(zcO k).map (λi:Nat=>D.tup [.int i,.loc (S.length+i)])/\G=S++(zcO k).map (λ_=>some (MO.lst []))/\m=[v]) ?_ ?_ _ [] _ _ ⟨0,none,zcL _,by simp[cy],rfl,by simp,rfl⟩
  ·rintro y m G ⟨k,v,hk,a,rfl,rfl,rfl⟩;obtain rfl:k=n:=by
    have:=congrArg zcJ a;simp at this;lia
   refine⟨trivial,_,(zcO k).map (λi:Nat=>(Sum.inl (i:Int),D.loc (S.length+i))),rfl,?_,by simp;lia,?_⟩
   ·rw[b9,zcv];rfl
   ·rw[JY];dsimp only;push_cast[d9,dw,bZ];have eb:∀o:MO,S++(zcO k).map (λ_=>some (MO.lst []))++[some o]=pT S k (λi=>some (.lst (eX [] i))) (some o):=λo=>by
     unfold pT eX;rw[zbc];rfl
    rw[eb,show zcJ (S++(zcO k).map (λ_=>some (MO.lst [])))=S.length+k by simp];refine bf (λrest m G=>∃(j l:List Mv)(W U O:Option D),rest=l.map vD/\j++l=t/\G=pT S k (λi=>some (.lst (eX j i))) (some (.dct (kN k) ((zcO k).map λi=>.loc (S.length+i))))/\m=[some (.int k),some (.tup (t.map vD)),some (.loc (S.length+k)),W,U,O]) ?_ ?_ _ _ _ ⟨[],t,none,none,none,rfl,rfl,rfl,rfl⟩
    ·rintro m G ⟨j,l,W,U,O,a,I,rfl,rfl⟩;have:l=[]:=by cases l with
      |nil=>rfl
      |cons _ _=>simp at a
     subst this;rw[zbL] at I;subst I;refine⟨trivial,?_⟩;push_cast[Gu];have Y:=AH (S:=S) (n:=k) (f:=eX j) k 0 (by lia);simp only[zbW,if_false] at Y;refine⟨_,rfl,_,_,F8,_,_,Y,?_⟩;exact EC (by lia) F8 F6 (vZ L) q
    ·rintro x rest m G N' ⟨j,l,W,U,O,a,I,rfl,rfl⟩ u;cases l with
     |nil=>simp at a
     |cons r l=>
      rw[zcj] at a;injection a with h1 h2;subst h1;subst h2;have hm:r∈t:=by rw[<-I];simp
      have ok:=L r hm;have hqs:j.length<=62:=by have:=congrArg zcJ I;simp at this;lia
      refine⟨trivial,_,rfl,rfl,_,_,rfl,_,_,rfl,_,_,rfl,rfl,?_⟩;have sd:∀g:Nat->Option MO,aT (pT S k g (some (.dct (kN k) ((zcO k).map λi=>D.loc (S.length+i))))) (.loc (S.length+k))=.dct (kN k) ((zcO k).map λi=>.loc (S.length+i)):=λg=>by simp only[aT,F8];rfl
      push_cast[ue,gA];refine⟨_,_,sd _,_,rfl,_,tK ok.1,?_⟩;have Z:aT (pT S k (λi=>some (.lst (eX j i))) (some (.dct (kN k) ((zcO k).map λi=>D.loc (S.length+i))))) (.loc (S.length+r.1))=.lst (eX j r.1):=by simp only[aT,yV ok.1];rfl
      rw[Z];refine⟨rfl,sz rfl,S.length+r.1,_,_,rfl,rfl,yV ok.1,?_,?_⟩
      ·have h1:(eX j r.1).length<=j.length:=by rw[eX,zbK];exact zav ..
       rw[yaf];lia
      ·rw[A0 ok.1];refine u _ _ ⟨j++[r],l,_,_,_,rfl,by rw[zbc];exact I,?_,rfl⟩;refine lT λi X=>?_;rw[yo];by_cases e:i=r.1
       ·rw[yIp e,yIp e,e];rfl
       ·rw[yIn e,yIn e]
  ·rintro x rest y m G N' ⟨k,v,hk,a,rfl,rfl,rfl⟩ u;have X:k<n:=by
    rcases zcC k n with h|h
    ·exact h
    ·rw[List.drop_of_length_le (by simpa using h)] at a;simp at a
   rw[zag (by simpa using X),zcj,zaP] at a;injection a with e1 e2;subst e1;subst e2;refine⟨trivial,?_⟩;push_cast[wm,if_true,bW,wu,jE];refine⟨zcL _,sz rfl,by rw[zbK,zbe,yaf];lia,u _ _ _ ⟨k+1,_,X,rfl,?_,?_,rfl⟩⟩
   ·rw[zbV,zbS];simp
   ·rw[zbV,zbS,<-zbc];rfl
def DL:AN:=λi S Q=>∃(n b:Nat)(h:List Nat)(a:List Mv),i=[mD n b h a]/\n<=62/\(∀m∈a,nH n m)/\a.length<=62/\Q (.new (dg n a)) S
theorem Ov(T:Txt K mg C fi)(F:Src K mg "moves_near" kL (top 20))(a:Def P w K mg base 1 "by_stand" wB (au K P0)):Def P w K mg base 2 "moves_near" kL (au K DL):=by
 refine cD F Mc (λu S Q h=>?_) (λf v A outer s H E m=>?_)
 ·obtain⟨n,b,l,i,rfl,_⟩:=h;rfl
 ·refine⟨_,(Uz (UE (UK a m (Uv (UC (Uu 0)) (Uv (UC (Uu 0)) UA))))),λu S Q h=>?_⟩;obtain⟨n,b,l,i,rfl,n6,j,o,q⟩:=h;have t:aH Bm [mD n b l i]=[some (mD n b l i)]:=rfl;rw[t];push_cast[mD,aE,cS,dh,at2,yZ];refine⟨n,i,rfl,n6,j,o,⟨.new (dg n i),?_,pF,by rw[zbv];exact q⟩⟩;simp only[out];rw[yIp (vZ j)]
def zJ:AN:=λa S Q=>∃(l:Lf)(ms:List Str),a=[lD l,.lst (ms.map D.str)]/\qh l/\texts ms/\Q (.dat (.bl (hold l ms))) S
theorem JU(T:Txt K mg C fi)(F:Src K mg "holds" iQ (top 4)):Def P w K mg base 1 "holds" iQ (au K zJ):=by
 refine cD F Ie (λy S Q h=>?_) (λf G A outer s H E i=>?_)
 ·obtain⟨l,ms,rfl,_⟩:=h;rfl
 ·refine⟨_,(Ux (UN (UH (UR i) (UC (Uu 0)) UG (aK _)) (Uz (UE (U3 (Vn i) (UC (Uu 0)) (Uu 1) rfl))) UP) (Ux (UN (UH (UR i) (UC (Uu 0)) UG (aK _)) (Uz (UE (U3 (M.nj i) (UC (Uu 0)) (Uu 1) rfl))) UP) (Uz (UE (U3 (UR i) (UC (Uu 0)) UG (aK _)))))),λy S Q h=>?_⟩;obtain⟨l,ms,rfl,t,o,q⟩:=h;have v:aH wQ [lD l,.lst (ms.map D.str)]=[some (lD l),some (.lst (ms.map D.str))]:=rfl;rw[v];push_cast[true_and];have inl:∀{a:Bool}{m:Str}{j:AK},gp m=true->j (.dat (.bl (a != decide (m∈ms)))) S->zh a (.str m) (.lst (ms.map D.str)) S j:=λ{a m j} h1 u=>
   qR (n:=0) (ss:=ms) h1 (by decide) (zbu.mpr o.2) (by rw[sY];exact u) (by have:=o.1;lia)
  cases l with
  |stay=>
   push_cast[lD,aE,cS,dh,at2];rw[yIn (by decide),yIn (by decide)];exact q
  |step b x=>
   push_cast[lD,aE,cS,dh,at2];rw[yIn (by decide),yIn (by decide),yDf (by decide)];exact q
  |mk b m=>
   push_cast[lD,aE,cS,dh,at2];cases b
   ·rw[yIn (by decide),yIp (by decide)];refine inl (qJ t) (aY rfl ?_);have e:(true != decide (m∈ms))=hold (.mk false m) ms:=by simp only[hold];cases decide (m∈ms)<;>rfl
    rw[e];exact q
   ·rw[yIp (by decide)];refine inl (qJ t) (aY rfl ?_);have e:(false != decide (m∈ms))=hold (.mk true m) ms:=by simp only[hold];cases decide (m∈ms)<;>rfl
    rw[e];exact q
def zB:AN:=λa S Q=>∃(l:Lf)(sd wd:Str),a=[lD l,.str sd,.str wd]/\qh l/\gp wd=true/\Q (.dat (.bl (take l sd wd))) S
theorem JK(T:Txt K mg C fi)(F:Src K mg "takes" iH (top 5)):Def P w K mg base 1 "takes" iH (au K zB):=by
 refine cD F HY (λo S Q h=>?_) (λf t A outer s H E a=>?_)
 ·obtain⟨l,sd,wd,rfl,_⟩:=h;rfl
 ·refine⟨_,(Uz (UE (Vt (U3 (UR a) (UC (Uu 0)) UG (aK _)) (Vt (U3 (UR a) (UC (Uu 0)) (Uu 1) (aK _)) (M.jz (U3 (Vn a) (UC (Uu 0)) (UJ (Uv (Uu 2) (Uw T.Nb))) rfl)))))),λo S Q h=>?_⟩;obtain⟨l,sd,wd,rfl,i,hw,q⟩:=h;have j:aH wF [lD l,.str sd,.str wd]=[some (lD l),some (.str sd),some (.str wd)]:=rfl;rw[j];push_cast[true_and];cases l with
  |stay=>
   push_cast[lD,aE,cS,dh,at2];rw[yIn (by decide)];exact q
  |step b x=>
   push_cast[lD,aE,cS,dh,at2];rw[yIp (by decide)];refine fc (λh=>⟨sz rfl,fU (n:=0) (ss:=[wd,"*"]) (Df i) (by decide) (by simp only[zcl,List.all_nil,hw,zcr];decide+kernel) (aY rfl ?_) (by simp)⟩) (λh=>?_)
   ·have h:side b=sd:=of_decide_eq_true h;have e:(false != C8 (.str x) [wd,"*"])=take (.step b x) sd wd:=by
     simp only[take,h,decide_true,zcp,C8,zck,List.any_nil,zco,Lh,Bool.false_bne]
    rw[e];exact q
   ·have h:¬side b=sd:=λe=>h (yDt e);have e:take (.step b x) sd wd=false:=by simp only[take,yDf h,Bool.false_and]
    rw[e] at q;exact q
  |mk b m=>
   push_cast[lD,aE,cS,dh,at2];rw[yIn (by cases b<;>decide)];exact q
theorem nW{T:aN}{o:MO}{Q:AK}(h:lU S.length o=true)(q:Q (.new o) S):VD S (S++T) (.new o) Q:=by
 refine⟨.new o,?_,λk j i a=>.inl ?_,by rw[zcd];exact q⟩
 ·simp only[out];rw[yIp h]
 ·rw[zae i] at a;exact a
theorem Ga(m:Nat)(ns:List Nat):lU m (.lst (nL ns))=true:=cL m _ (iY ns)
theorem uE{ks:List Nat}{a:List Int}(l:a.Perm (ks.map λk:Nat=>(k:Int)))(j:a.Pairwise (· <=·)):∃i:List Nat,i.Perm ks/\i.Pairwise (· <=·)/\a.map D.int=nL i:=by
 obtain⟨i,h1,rfl⟩:=cK l;refine⟨i,h1,?_,by rw[zcv];rfl⟩;rw[zbg] at j;exact j.imp λh=>by lia
def DS:AN:=λj S Q=>∃(n:Nat)(i:List Mv)(a:List Nat)(ms:List Str),j=[(dg n i).d,.lst (nL a),.lst (ms.map D.str)]/\n<=62/\(∀m∈i,nH n m)/\i.length<=62/\(∀s∈a,s<n)/\a.length<=62/\texts ms/\
 ∀h:List Nat,h.Pairwise (· <=·)->h.Nodup->(∀x,x∈h↔Reach i ms a x)->Q (.new (.lst (nL h))) S
theorem OE(T:Txt K mg C fi)(F:Src K mg "gone_without_steps" kR (top 14))(ab:Def P w K mg base 1 "holds" iQ (au K zJ)):Def P w K mg base 2 "gone_without_steps" kR (au K DS):=by
 refine cD F lA (λds S Q h=>?_) (λf cdv A outer s H E y=>?_)
 ·obtain⟨n,O,st,ms,rfl,_⟩:=h;rfl
 ·refine⟨_,(Ux (UD 3 lA.nd (UY (U1 (M.sF y) T.dict (Uv (Vc ["stand"] [none] (UT (Uu 1)) (λ_ _ _ _=>Vi) (λ_ _ _ _=>(UJ (Uv (Uu 0) (Uw UX))))) UA)))) (Ux (UD 4 lA.nd (UY (U1 (M.sD y) T.list (Uw (Uu 3))))) (Ux (M.gV PassesOwn.never (U4 (Uu 4)) (Ux (UD 5 lA.nd (M.yf PySem.F.plainAttrs_list PySem.F.slot_list_pop PySem.F.type_list_pop M.Q0 (Uu 4))) (Uz (UW PassesOwn.never rfl (UT (Vo (dW y) (Uu 0) (Uu 5) (λ_ _=>rfl))) (U7 (n:=2) rfl (UL (UI 6 lA.nd) (UL (UI 7 lA.nd) U6))) (Uz (UN (U8 (Vy (UH (M.u9 y) (Uu 7) (Uu 3) rfl) (VY (U4 (UK ab y (Uv (Uu 6) (Uw (Uu 2)))))))) (Ux (M.gW (dW y) (Uu 3) (Uu 7) UX rfl) (Uz (U0 (Vb PySem.F.plainAttrs_list PySem.F.slot_list_append PySem.F.type_list_append Vr (Uu 4) (Uw (Uu 7)))))) UP)))))) (Uz (UE (UO (M.Ai y) T.sorted (Uw (Uu 3)))))))),λds S Q h=>?_⟩;obtain⟨n,O,st,ms,rfl,n6,hmv,hl,hst,hsl,hms,q⟩:=h;have e0:aH Bs [(dg n O).d,.lst (nL st),.lst (ms.map D.str)]=[some (dg n O).d,some (.lst (nL st)),some (.lst (ms.map D.str)),none,none,none,none,none]:=rfl;rw[e0];push_cast[bW,cW,dw,bZ];refine nD (λrest acc X t=>∃(u Z:List Nat)(v:Option D),rest=nL Z/\u++Z=st/\acc=u.map (λi:Nat=>D.tup [.int i,.bl true])/\t=S/\X=[v]) ?_ ?_ _ [] _ _ ⟨[],st,none,rfl,rfl,rfl,rfl,rfl⟩
  ·rintro acc X t ⟨u,Z,v,y,he,rfl,rfl,rfl⟩;have:Z=[]:=by cases Z with
    |nil=>rfl
    |cons _ _=>simp[nL] at y
   subst this;rw[zbL] at he;subst he;refine⟨trivial,_,u.map (λi:Nat=>(Sum.inl (i:Int),D.bl true)),rfl,?_,by rw[zbK];lia,?_⟩
   ·rw[b9,zcv];rfl
   ·have e1:mV (u.map (λi:Nat=>(Sum.inl (i:Int),D.bl true)))=(o5 (gx [] u),oZ (gx [] u)):=AY u [];rw[e1];dsimp only;obtain⟨U,hk0⟩:∃U,U=gx [] u:=⟨_,rfl⟩
    rw[<-hk0];have hm0:∀x,x∈U↔x∈u:=λx=>by rw[hk0,oM];simp
    have hn0:U.Nodup:=by rw[hk0];exact j6 u [] .nil
    have yZ:∀a b:MO,(t++[some a,some b])[t.length]? =some (some a):=λa b=>by simp
    have at4:∀a b:MO,(t++[some a,some b])[t.length+1]? =some (some b):=λa b=>by rw[zab (by lia)];simp
    have L6:∀a b c:MO,(t++[some a,some b]).set t.length (some c)=t++[some c,some b]:=λa b c=>by rw[zau _ _ (zcK _)];simp
    have BN:∀a b c:MO,(t++[some a,some b]).set (t.length+1) (some c)=t++[some a,some c]:=λa b c=>by rw[zau _ _ (by lia)];simp
    have xy:∀a b:MO,aT (t++[some a,some b]) (.loc t.length)=a.d:=λa b=>by simp only[aT,yZ]
    have uJ:∀a b:MO,aT (t++[some a,some b]) (.loc (t.length+1))=b.d:=λa b=>by simp only[aT,at4]
    refine⟨_,o5 U,oZ U,rfl,by simp only[aT,zab (zcK _),zcD];rfl,?_⟩;dsimp only;rw[show(o5 U).map kD=nL U by unfold o5 nL;rw[zcv];rfl,show t++[some (MO.dct (o5 U) (oZ U))]++[some (MO.lst (nL U))]=t++[some (fO U),some (.lst (nL U))] by rw[zbc];rfl,show zcJ (t++[some (MO.dct (o5 U) (oZ U))])=t.length+1 by simp];refine⟨λμ X S2=>∃(I ws:List Nat)(v5 v6 v7:Option D),X=[some (dg n O).d,some (.lst (nL u)),some (.lst (ms.map D.str)),some (.loc t.length),some (.loc (t.length+1)),v5,v6,v7]/\S2=t++[some (fO I),some (.lst (nL ws))]/\μ=n - I.length+ws.length/\I.Nodup/\(∀s∈u,s∈I)/\(∀k∈I,Reach O ms u k)/\(∀k∈ws,k∈I)/\(∀m∈O,m.1∈I->m.1 ∉ ws->hold m.2.1 ms=true->m.2.2∈I)/\ws.length<=I.length,⟨_,U,U,none,none,none,rfl,rfl,rfl,hn0,λs hs=>(hm0 s).mpr hs,λk W=>.base ((hm0 k).mp W),λk W=>W,λm hm h1 h2=>absurd h1 h2,zcK _⟩,?_⟩;rintro μ X S2 ⟨I,ws,v5,v6,v7,rfl,rfl,rfl,hn,h1,h2,h3,h4,h5⟩;have hlt:∀k∈I,k<n:=λk W=>(h2 k W).lt hmv hst;have hkl:=bA n I hn hlt;refine⟨_,rfl,!ws.isEmpty,by show dX (aT _ (.loc (t.length+1)))=_;rw[uJ];cases ws<;>rfl,fc (λhw=>?_) (λhw=>?_)⟩
    ·obtain⟨L,a,rfl⟩:∃L a,ws=L++[a]:=by
      rcases List.eq_nil_or_concat ws with rfl|⟨l,a,rfl⟩
      ·simp at hw
      ·exact⟨l,a,by simp⟩
     have ha:a∈I:=h3 a (by simp);obtain⟨N,hN⟩:∃N:bC->aN->Prop,N=λX S2=>∃(j o:List Nat)(v5 v6 v7:Option D),X=[some (dg n O).d,some (.lst (nL u)),some (.lst (ms.map D.str)),some (.loc t.length),some (.loc (t.length+1)),v5,v6,v7]/\S2=t++[some (fO j),some (.lst (nL o))]/\n - j.length+o.length<n - I.length+(L++[a]).length/\
      j.Nodup/\(∀s∈u,s∈j)/\(∀k∈j,Reach O ms u k)/\(∀k∈o,k∈j)/\(∀m∈O,m.1∈j->m.1 ∉ o->hold m.2.1 ms=true->m.2.2∈j)/\o.length<=j.length:=⟨_,rfl⟩
     refine⟨N,?_,?_⟩
     ·rw[hN];rintro δ' S3 ⟨j,o,w5,w6,w7,g1,g2,g3,g4⟩;exact⟨_,g3,j,o,w5,w6,w7,g1,g2,rfl,g4⟩
     ·push_cast[O5,RL];have et:nL (L++[a])=nL L++[.int (a:Int)]:=by simp[nL]
      refine⟨by rw[uJ];rfl,_,rfl,_,at4 _ _,.int (a:Int),by rw[et];simp,?_⟩;rw[BN,show(nL (L++[a])).dropLast=nL L by rw[et];simp];push_cast[d9,dw,gA];refine⟨kN n,_,rfl,_,rfl,_,tK (hlt a ha),?_⟩;push_cast[bZ];refine bf (λrest X S3=>∃(qm Y:List Mv)(j o:List Nat)(v6 v7:Option D),rest=Y.map pD/\qm++Y=O.filter (λm=>decide (m.1=a))/\X=[some (dg n O).d,some (.lst (nL u)),some (.lst (ms.map D.str)),some (.loc t.length),some (.loc (t.length+1)),some (.int a),v6,v7]/\S3=t++[some (fO j),some (.lst (nL o))]/\n - j.length+o.length=n - I.length+L.length/\j.Nodup/\(∀s∈u,s∈j)/\(∀k∈j,Reach O ms u k)/\(∀k∈o,k∈j)/\(∀m∈O,m.1∈j->m.1 ∉ o->m.1≠a->hold m.2.1 ms=true->m.2.2∈j)/\(∀m∈qm,hold m.2.1 ms=true->m.2.2∈j)/\o.length<=j.length/\a∈j) ?_ ?_ _ _ _ ⟨[],O.filter (λm=>decide (m.1=a)),I,L,v6,v7,rfl,rfl,rfl,rfl,rfl,hn,h1,h2,λk W=>h3 k (by simp[W]),λm hm g1 g2 g3=>h4 m hm g1 (by simp[g2,g3]),by simp,by simp at h5;lia,ha⟩
      ·rintro X S3 ⟨qm,Y,j,o,v6,v7,y,he,rfl,rfl,hm,g1,g2,g3,g4,g5,g6,g7,g8⟩;have:Y=[]:=by cases Y with
        |nil=>rfl
        |cons _ _=>simp at y
       subst this;rw[zbL] at he;refine⟨trivial,?_⟩;rw[hN];refine⟨j,o,_,_,_,rfl,rfl,by rw[zaM];show _<_+(_+1);lia,g1,g2,g3,g4,λm G k1 k2 k3=>?_,g7⟩;by_cases e:m.1=a
       ·exact g6 m (by rw[he];exact zbI.mpr ⟨G,yDt e⟩) k3
       ·exact g5 m G k1 k2 e k3
      ·rintro x rest X S3 N' ⟨qm,Y,j,o,v6,v7,y,he,rfl,rfl,hm,g1,g2,g3,g4,g5,g6,g7,g8⟩ hN';cases Y with
       |nil=>simp at y
       |cons r Y=>
        rw[zcj] at y;injection y with e1 e2;subst e1;subst e2;have y:r∈O.filter (λm=>decide (m.1=a)):=by rw[<-he];simp
        have hrm:=(zbI.mp y).1;have hra:r.1=a:=of_decide_eq_true (zbI.mp y).2;have ok:=hmv r hrm;have he':(qm++[r])++Y=O.filter (λm=>decide (m.1=a)):=by rw[zbc];exact he
        refine⟨trivial,_,rfl,rfl,_,_,rfl,_,_,rfl,rfl,?_⟩;push_cast[zg,xy,Rn];refine⟨_,rfl,?_⟩;rw[Ay];refine fc (λhb=>?_) (λhb=>?_)
        ·have hb:r.2.2 ∉ j:=by simpa using hb
         refine⟨r.2.1,ms,rfl,ok.2.1,hms,_,rfl,fc (λhh=>?_) (λhh=>?_)⟩
         ·push_cast[pJ,Ba,ue];refine⟨_,rfl,o5 j,oZ j,_,rfl,yZ _ _,?_,?_⟩
          ·show(oZ j).length<1000;rw[oZ,zbK];have:=bA n j g1 λk W=>(g3 k W).lt hmv hst;lia
          ·rw[L6,EO,show ins j r.2.2=j++[r.2.2] from yIn hb];have nd:(j++[r.2.2]).Nodup:=by
            have:=lN (k:=r.2.2) g1
            rwa [show ins j r.2.2=j++[r.2.2] from yIn hb] at this
           have rc:∀k∈j++[r.2.2],Reach O ms u k:=λk W=>by
            rcases zbJ.mp W with h|h
            ·exact g3 k h
            ·rw[zaO.mp h];exact .go (hra▸g3 a g8) hrm hh
           have hk1:=bA n _ nd λk W=>(rc k W).lt hmv hst;rw[zaM] at hk1;have hk1:j.length+1<=n:=hk1;refine⟨by rw[uJ];rfl,_,nL o,_,rfl,rfl,at4 _ _,by rw[nL,zbK,yaf];lia,?_⟩;rw[BN,show nL o++[D.int (r.2.2:Int)]=nL (o++[r.2.2]) by simp[nL]];refine hN' _ _ ⟨qm++[r],Y,j++[r.2.2],o++[r.2.2],_,_,rfl,he',rfl,rfl,by rw[zaM,zaM];show n - (j.length+1)+(o.length+1)=_;lia,nd,λs hs=>zaz _ (g2 s hs),rc,λk W=>?_,λm G k1 k2 k3 k4=>?_,λm G k=>?_,by rw[zaM,zaM];lia,zaz _ g8⟩
           ·rcases zbJ.mp W with h|h
            ·exact zaz _ (g4 k h)
            ·exact zas _ h
           ·rcases zbJ.mp k1 with h|h
            ·exact zaz _ (g5 m G h (λh'=>k2 (zaz _ h')) k3 k4)
            ·exact absurd (zas _ h) k2
           ·rcases zbJ.mp G with h|h
            ·exact zaz _ (g6 m h k)
            ·rw[zaO.mp h];simp
         ·exact hN' _ _ ⟨qm++[r],Y,j,o,_,_,rfl,he',rfl,rfl,hm,g1,g2,g3,g4,g5,λm G k=>by
           rcases zbJ.mp G with h|h
           ·exact g6 m h k
           ·rw[zaO.mp h] at k;exact absurd k hh,g7,g8⟩
        ·have hb:r.2.2∈j:=by simpa using hb
         exact hN' _ _ ⟨qm++[r],Y,j,o,_,_,rfl,he',rfl,rfl,hm,g1,g2,g3,g4,g5,λm G k=>by
          rcases zbJ.mp G with h|h
          ·exact g6 m h k
          ·rw[zaO.mp h];exact hb,g7,g8⟩
    ·have:ws=[]:=by simpa using hw
     subst this;refine⟨_,rfl,_,oZ I,I.map (λk:Nat=>(k:Int)),rfl,?_,by rw[zbK];lia,λns' hp hs=>?_⟩
     ·show aT _ (.loc t.length)=_;rw[xy];show D.dct (o5 I) (oZ I)=_;unfold o5;rw[zcv];rfl
     ·obtain⟨Z,p1,p2,p3⟩:=uE hp hs;rw[p3];refine nW (Ga _ _) (q Z p2 (p1.symm.nodup hn) λx=>?_);rw[p1.mem_iff];exact⟨h2 x,λhx=>hx.closed h1 λm hm W hh=>h4 m hm W (by simp) hh⟩
  ·rintro x rest acc X t N' ⟨u,Z,v,y,he,rfl,rfl,rfl⟩ hN';cases Z with
   |nil=>simp[nL] at y
   |cons r Z=>
    rw[nL,zcj] at y;injection y with h1 h2;subst h1;subst h2;refine⟨trivial,?_⟩;push_cast[wm,if_true];refine⟨sz rfl,by rw[zbK,yaf];have:=congrArg zcJ he;simp at this;lia,hN' _ _ _ ⟨u++[r],Z,_,rfl,by rw[zbc];exact he,by rw[zbS];rfl,rfl,rfl⟩⟩
def DT:AN:=λj S Q=>∃(n:Nat)(h:List Mv)(i:List Nat)(sd wd:Str),j=[(dg n h).d,.lst (nL i),.str sd,.str wd]/\n<=62/\(∀m∈h,nH n m)/\h.length<=62/\(∀s∈i,s<n)/\gp wd=true/\
 ∀a:List Nat,a.Pairwise (· <=·)->a.Nodup->(∀x,x∈a↔O7 h i sd wd x)->Q (.new (.lst (nL a))) S
theorem Dz{mv:List Mv}{st:List Nat}{a:Nat}{sd wd:Str}{x:Nat}:O7 mv (st++[a]) sd wd x↔O7 mv st sd wd x∨∃m∈mv.filter (λm=>decide (m.1=a)),take m.2.1 sd wd=true/\m.2.2=x:=by
 constructor
 ·rintro⟨m,h1,h2,i⟩;rcases zbJ.mp h2 with h|h
  ·exact .inl ⟨m,h1,h,i⟩
  ·exact .inr ⟨m,zbI.mpr ⟨h1,yDt (zaO.mp h)⟩,i⟩
 ·rintro(⟨m,h1,h2,i⟩|⟨m,h1,h2⟩)
  ·exact⟨m,h1,zaz _ h2,i⟩
  ·obtain⟨h1,i⟩:=zbI.mp h1;exact⟨m,h1,zas _ (by rw[of_decide_eq_true i];simp),h2⟩
theorem OG(T:Txt K mg C fi)(F:Src K mg "gone_by_step" kU (top 15))(y:Def P w K mg base 1 "takes" iH (au K zB)):Def P w K mg base 2 "gone_by_step" kU (au K DT):=by
 refine cD F nT (λds S Q h=>?_) (λf cdv A outer s H E j=>?_)
 ·obtain⟨n,t,X,sd,wd,rfl,_⟩:=h;rfl
 ·refine⟨_,(Ux (UD 4 nT.nd (UY M.fR)) (Ux (UW PassesOwn.never rfl (UT (Uu 1)) (UI 5 nT.nd) (Uz (UW PassesOwn.never rfl (UT (Vo (dW j) (Uu 0) (Uu 5) (λ_ _=>rfl))) (U7 (n:=2) rfl (UL (UI 6 nT.nd) (UL (UI 7 nT.nd) U6))) (Uz (UN (U4 (UK y j (Uv (Uu 6) (Uv (Uu 2) (Uw (Uu 3)))))) (Uz (M.gW (dW j) (Uu 4) (Uu 7) UX rfl)) UP))))) (Uz (UE (UO (M.Ai j) T.sorted (Uw (Uu 4))))))),λds S Q h=>?_⟩;obtain⟨n,t,X,sd,wd,rfl,n6,hmv,hl,hst,hwd,q⟩:=h;have e0:aH Bu [(dg n t).d,.lst (nL X),.str sd,.str wd]=[some (dg n t).d,some (.lst (nL X)),some (.str sd),some (.str wd),none,none,none,none]:=rfl;rw[e0];have at4:∀a:MO,(S++[some a])[S.length]? =some (some a):=λa=>by simp
  have BN:∀a c:MO,(S++[some a]).set S.length (some c)=S++[some c]:=λa c=>by rw[zau _ _ (zcK _)];simp
  have uJ:∀a:MO,aT (S++[some a]) (.loc S.length)=a.d:=λa=>by simp only[aT,at4]
  push_cast[d9,dw,bZ,bW,tW];refine bf (λrest W S2=>∃(s1 I G:List Nat)(v5 U O:Option D),rest=nL I/\s1++I=X/\W=[some (dg n t).d,some (.lst (nL X)),some (.str sd),some (.str wd),some (.loc S.length),v5,U,O]/\S2=S++[some (fO G)]/\G.Nodup/\(∀k∈G,k<n)/\∀x,x∈G↔O7 t s1 sd wd x) ?_ ?_ _ _ _
   ⟨[],X,[],none,none,none,rfl,rfl,rfl,rfl,.nil,by simp,λx=>⟨λh=>by simp at h,λ⟨m,_,h,_⟩=>by simp at h⟩⟩
  ·rintro W S2 ⟨s1,I,G,v5,U,O,j,he,rfl,rfl,hn,Z,hx⟩;have:I=[]:=by cases I with
    |nil=>rfl
    |cons _ _=>simp[nL] at j
   subst this;rw[zbL] at he;subst he;have hkl:=bA n G hn Z;refine⟨trivial,?_⟩;push_cast[true_and];refine⟨_,oZ G,G.map (λk:Nat=>(k:Int)),rfl,?_,by rw[zbK];lia,λns' hp hs=>?_⟩
   ·rw[uJ,Rn];unfold o5;rw[zcv];rfl
   ·obtain⟨rs,p1,p2,p3⟩:=uE hp hs;rw[p3];refine nW (Ga _ _) (q rs p2 (p1.symm.nodup hn) λx=>?_);rw[p1.mem_iff,hx]
  ·rintro x rest W S2 N' ⟨s1,I,G,v5,U,O,j,he,rfl,rfl,hn,Z,hx⟩ hN';cases I with
   |nil=>simp[nL] at j
   |cons a I=>
    rw[nL,zcj] at j;injection j with e1 e2;subst e1;subst e2;have ha:a<n:=hst a (by rw[<-he];simp);refine⟨trivial,?_⟩;push_cast[d9,dw,gA];refine⟨kN n,_,rfl,_,rfl,_,tK ha,?_⟩;push_cast[bZ];refine bf (λrest W S3=>∃(Y o:List Mv)(i:List Nat)(U O:Option D),rest=o.map pD/\Y++o=t.filter (λm=>decide (m.1=a))/\W=[some (dg n t).d,some (.lst (nL X)),some (.str sd),some (.str wd),some (.loc S.length),some (.int a),U,O]/\S3=S++[some (fO i)]/\i.Nodup/\(∀k∈i,k<n)/\∀x,x∈i↔O7 t s1 sd wd x∨∃m∈Y,take m.2.1 sd wd=true/\m.2.2=x) ?_ ?_ _ _ _ ⟨[],t.filter (λm=>decide (m.1=a)),G,U,O,rfl,rfl,rfl,rfl,hn,Z,λx=>by rw[hx];simp⟩
    ·rintro W S3 ⟨Y,o,i,U,O,j,v,rfl,rfl,u,l,L⟩;have:o=[]:=by cases o with
      |nil=>rfl
      |cons _ _=>simp at j
     subst this;rw[zbL] at v;subst v;exact⟨trivial,hN' _ _ ⟨s1++[a],I,i,_,_,_,rfl,by rw[zbc];exact he,rfl,rfl,u,l,λx=>by rw[L,Dz]⟩⟩
    ·rintro x rest W S3 N2 ⟨Y,o,i,U,O,j,v,rfl,rfl,u,l,L⟩ hN2;cases o with
     |nil=>simp at j
     |cons r o=>
      rw[zcj] at j;injection j with e1 e2;subst e1;subst e2;have j:r∈t.filter (λm=>decide (m.1=a)):=by rw[<-v];simp
      have hrm:=(zbI.mp j).1;have ok:=hmv r hrm;have he':(Y++[r])++o=t.filter (λm=>decide (m.1=a)):=by rw[zbc];exact v
      refine⟨trivial,_,rfl,rfl,_,_,rfl,_,_,rfl,rfl,?_⟩;push_cast[true_and];refine⟨r.2.1,sd,wd,rfl,ok.2.1,hwd,_,rfl,fc (λhh=>?_) (λhh=>?_)⟩
      ·push_cast[pJ];refine⟨_,rfl,o5 i,oZ i,_,rfl,at4 _,?_,?_⟩
       ·show(oZ i).length<1000;rw[oZ,zbK];have:=bA n i u l;lia
       ·rw[BN,EO];refine hN2 _ _ ⟨Y++[r],o,_,_,_,rfl,he',rfl,rfl,lN u,λk hk=>?_,λx=>?_⟩
        ·rcases sR.mp hk with h|h
         ·exact l k h
         ·rw[h];exact ok.2.2
        ·rw[sR,L,or_assoc];refine or_congr Iff.rfl ⟨?_,?_⟩
         ·rintro(⟨m,h1,h2⟩|rfl)
          ·exact⟨m,zaz _ h1,h2⟩
          ·exact⟨r,by simp,hh,rfl⟩
         ·rintro⟨m,h1,h2⟩;rcases zbJ.mp h1 with h|h
          ·exact .inl ⟨m,h,h2⟩
          ·rw[zaO.mp h] at h2;exact .inr h2.2.symm
      ·refine hN2 _ _ ⟨Y++[r],o,i,_,_,rfl,he',rfl,rfl,u,l,λx=>?_⟩;rw[L];refine or_congr Iff.rfl ⟨?_,?_⟩
       ·rintro⟨m,h1,h2⟩;exact⟨m,zaz _ h1,h2⟩
       ·rintro⟨m,h1,h2⟩;rcases zbJ.mp h1 with h|h
        ·exact⟨m,h,h2⟩
        ·rw[zaO.mp h] at h2;exact absurd h2.1 hh
open PySem L2 M M6
noncomputable abbrev wU:List Str:=["web","near","begin","ends","way","stands","side","word","knot"]
noncomputable abbrev iR:=wU.take 5
theorem gf:av wU iR (ah (top 16)):=L2.bO
noncomputable abbrev Bt:List Str:=["web","machine","way"]
noncomputable abbrev kT:=Bt
theorem Mi:av Bt kT (ah (top 19)):=L2.bO
abbrev Sp:=Bool×Str×Str
noncomputable def iV(s:Sp):D:=.tup [.str (side s.1),.str s.2.1,.str s.2.2]
noncomputable def k7(k:Str)(ss:List Sp):D:=.tup [.str k,.tup (ss.map iV)]
noncomputable def NK(k:Str)(ss:List Sp):Nat->Str
 |0=>k
 |i+1=>(ss[i]?.map (·.2.2)).getD k
noncomputable def wr(mk:Str->List Str)(k:Str)(ss:List Sp):Wr:=⟨λi=>mk (NK k ss i),λi=>(ss[i]?.map (side ·.1)).getD "",λi=>(ss[i]?.map (·.2.1)).getD ""⟩
theorem vh{y:Str}:∀(ms a:List Str),y∈a∨y∈ms->y∈ms.foldl mk1 a
 |[],a,h=>h.elim id λz=>by simp at z
 |m::ms,a,h=>by
  rw[zbQ];refine vh ms _ ?_;unfold mk1;rcases h with h|h
  ·left;split
   ·exact h
   ·exact zaz _ h
  ·rcases zci.mp h with rfl|h
   ·left;split
    ·assumption
    ·simp
   ·exact .inr h
theorem Jc{y:Str}:y∈wV ms↔y∈ms:=⟨sQ,λh=>vh ms [] (.inr h)⟩
theorem oX{l:Lf}{a b:List Str}(h:∀y,y∈a↔y∈b):hold l a=hold l b:=by
 cases l with
 |mk c m=>unfold hold;simp only[h m]
 |_=>rfl
theorem l8{mv:List Mv}{a b:List Str}{st:List Nat}{x:Nat}(h:∀y,y∈a↔y∈b):Reach mv a st x↔Reach mv b st x:=by
 constructor
 ·intro r
  induction r with
  |base z=>exact .base z
  |go _ h1 h2 ih=>exact .go ih h1 (oX h▸h2)
 ·intro r
  induction r with
  |base z=>exact .base z
  |go _ h1 h2 ih=>exact .go ih h1 ((oX h).trans h2)
theorem A5{W:Wr}{mv:List Mv}{a:Nat}(x:Nat):x∈[a]↔Bb W mv a 0 x:=by
 unfold Bb;simp
def jq(ks:List Kn)(k:Str)(ss:List Sp):Prop:=k∈nms ks/\∀s∈ss,s.2.2∈nms ks/\gp s.2.1=true
def zK(C:Addr)(W:yak):AN:=λs S Q=>∃(a n b o:Nat)(l:List Nat)(j:List Mv)(h:List Kn)(q:List Ti)(k:Str)(i:List Sp),s=[.loc a,(dg n j).d,.int (o:Nat),.tup (nL l),k7 k i]/\(∃L m t e ns,cM C W b L S a m t e ns h q)/\(nms h).Nodup/\jq h k i/\o<n/\(∀e∈l,e<n)/\l.Nodup/\n<=62/\(∀m∈j,nH n m)/\j.length<=62/\
 (∀k∈h,texts k.2)/\∀v:Bool,(v=true↔∃e∈l,Rb (wr (aQ h) k i) j o e i.length)->Q (.dat (.bl v)) S
theorem JW(T:Txt K mg C fi)(F:Src K mg "goes_along" iR (top 16))(i:Def P w K mg base 2 "gone_without_steps" kR (au K DS))(j:Def P w K mg base 2 "gone_by_step" kU (au K DT))(kY:iS P w K mg base 2 C "marks" pK (KU C w)):Def P w K mg base 3 "goes_along" iR (au K (zK C w)):=by
 refine cD F gf (λds S Q h=>?_) (λf cdv A outer s H E v=>?_)
 ·obtain⟨a,n,b,b0,es,U,l,ts,k,o,rfl,_⟩:=h;rfl
 ·refine⟨_,(Ux (UD 5 gf.nd (UK i v (Uv (Uu 1) (Uv (UM (Uw (Uu 2))) (Uv (Vk (Uu 0) T.cl kY (v.mono (by decide)) (Uv (UC (Uu 4)) UA)) UA))))) (Ux (UW PassesOwn.never rfl (UT (UC (Uu 4))) (U7 (n:=3) rfl (UL (UI 6 gf.nd) (UL (UI 7 gf.nd) (UL (UI 8 gf.nd) U6)))) (Ux (UD 5 gf.nd (UK j v (Uv (Uu 1) (Uv (Uu 5) (Uv (Uu 6) (Uw (Uu 7))))))) (Uz (UD 5 gf.nd (UK i v (Uv (Uu 1) (Uv (Uu 5) (Uv (Vk (Uu 0) T.cl kY (v.mono (by decide)) (Uw (Uu 8))) UA)))))))) (Uz (UE (U3 M.Tc (M.lJ rfl (by rfl) T.len (by rfl) T.set (Uu 5) (Uu 3)) Uy (aK _)))))),λds S Q h=>?_⟩;obtain⟨a,n,b,b0,es,U,l,ts,k,o,rfl,⟨L,m,t,e,ns,X⟩,hn,hw,n0,hes,hen,n6,G,hl,htx,q⟩:=h;have e0:aH wU [.loc a,(dg n U).d,.int (b0:Nat),.tup (nL es),k7 k o]=[some (.loc a),some (dg n U).d,some (.int (b0:Nat)),some (.tup (nL es)),some (k7 k o),none,none,none,none]:=rfl;rw[e0];push_cast[k7,aE,cS,dh];have tx:∀y,y∈nms l->(KS (wV (aQ l y))).Perm (wV (aQ l y))->texts (KS (wV (aQ l y)))/\∀z,z∈KS (wV (aQ l y))↔z∈aQ l y:=λy hy Y=>by
   have h1:=htx _ (cA hy);have h2:∀z,z∈KS (wV (aQ l y))↔z∈aQ l y:=λz=>by rw[Y.mem_iff,Jc]
   refine⟨⟨?_,λz hz=>h1.2 z ((h2 z).mp hz)⟩,h2⟩;rw[Y.length_eq];exact zcy (L2.lM (lP _) λy hy=>sQ hy) h1.1
  refine⟨sz rfl,dG rfl X.at_ (by decide+kernel) ?_⟩;push_cast[aE,cS,dh];refine⟨a,b,l,ts,(k,aQ l k),rfl,⟨L,m,t,e,ns,X⟩,hn,cA hw.1,λY=>?_⟩;obtain⟨t1,t2⟩:=tx k hw.1 Y;refine⟨n,U,[b0],_,rfl,n6,G,hl,by simp;exact n0,by simp,t1,λrs r1 r2 r3=>?_⟩;push_cast[d9,dw,bZ,aE,cS,dh];refine bf (λrest δ S2=>∃(O q2:List Sp)(I:List Nat)(v6 v7 v8:Option D),rest=q2.map iV/\O++q2=o/\S2=S/\δ=[some (.loc a),some (dg n U).d,some (.int (b0:Nat)),some (.tup (nL es)),some (.tup [.str k,.tup (o.map iV)]),some (.lst (nL I)),v6,v7,v8]/\I.Nodup/\(∀x∈I,x<n)/\∀x,x∈I↔Rb (wr (aQ l) k o) U b0 x O.length) ?_ ?_ _ _ _ ⟨[],o,rs,none,none,none,rfl,rfl,rfl,rfl,r2,λx hx=>((r3 x).mp hx).lt G (by simp;exact n0),λx=>?_⟩
  ·rintro δ S2 ⟨O,q2,I,v6,v7,v8,v,Z,rfl,rfl,h1,h2,h3⟩;have:q2=[]:=by cases q2 with
    |nil=>rfl
    |cons _ _=>simp at v
   subst this;rw[zbL] at Z;subst Z;refine⟨trivial,?_⟩;push_cast[tU,Jr];have hsl:=bA n I h1 h2;have hel:=bA n es hen hes;refine⟨I.map (λk:Nat=>(k:Int)),.inr (by rw[zcv];rfl),by rw[zbK];lia,es.map (λk:Nat=>(k:Int)),.inl (by rw[zcv];rfl),by rw[zbK];lia,λu hu=>?_⟩;refine q _ ?_;rw[decide_eq_true_iff];constructor
   ·intro hlt;cases u with
    |nil=>simp at hlt
    |cons y u=>
     obtain⟨g1,g2⟩:=(hu y).mp (by simp);obtain⟨z,hz,rfl⟩:=zcw.mp g1;obtain⟨z',hz',e'⟩:=zcw.mp g2;obtain rfl:z'=z:=by lia
     exact⟨z',hz',(h3 z').mp hz⟩
   ·rintro⟨z,hz,v⟩;have:(z:Int)∈u:=(hu z).mpr ⟨zcw.mpr ⟨z,(h3 z).mpr v,rfl⟩,zcw.mpr ⟨z,hz,rfl⟩⟩;have:=zao this;lia
  ·rintro x rest δ S2 N' ⟨O,q2,I,v6,v7,v8,v,Z,rfl,rfl,h1,h2,h3⟩ hN';cases q2 with
   |nil=>simp at v
   |cons r q2=>
    rw[zcj] at v;injection v with e1 e2;subst e1;subst e2;have hrm:r∈o:=by rw[<-Z];simp
    obtain⟨o1,o2⟩:=hw.2 r hrm;have hsl:=bA n I h1 h2;have ai:o[O.length]? =some r:=by rw[<-Z,zab (zcK _)];simp
    refine⟨trivial,_,rfl,rfl,_,_,rfl,_,_,rfl,_,_,rfl,rfl,?_⟩;push_cast[true_and];refine⟨n,U,I,side r.1,r.2.1,rfl,n6,G,hl,h2,o2,λt3 _ n3 m3=>?_⟩;refine dG rfl X.at_ (by decide+kernel) ?_;push_cast[true_and];refine⟨a,b,l,ts,(r.2.2,aQ l r.2.2),rfl,⟨L,m,t,e,ns,X⟩,hn,cA o1,λY=>?_⟩;obtain⟨t1,t2⟩:=tx _ o1 Y;have l3:∀x∈t3,x<n:=λx hx=>by
     obtain⟨m',g1,g2,g3,rfl⟩:=(m3 x).mp hx;exact(G m' g1).2.2
    refine⟨n,U,t3,_,rfl,n6,G,hl,l3,by have:=bA n t3 n3 l3;lia,t1,λt4 _ n4 m4=>?_⟩;refine hN' _ _ ⟨O++[r],q2,t4,_,_,_,rfl,by rw[zbc];exact Z,rfl,rfl,n4,λx hx=>((m4 x).mp hx).lt G l3,λx=>?_⟩;have w1:(wr (aQ l) k o).sd O.length=side r.1:=by simp[wr,ai]
    have w2:(wr (aQ l) k o).wd O.length=r.2.1:=by simp[wr,ai]
    have w3:(wr (aQ l) k o).ms (O.length+1)=aQ l r.2.2:=by simp[wr,NK,ai]
    rw[m4,l8 t2,<-w3,zaM];refine jW (λy=>?_) x;rw[m3,<-w1,<-w2];exact DA h3 y
  ·rw[r3,l8 t2];exact jW (W:=wr (aQ l) k o) A5 x
def xr(C:Addr)(W:yak):AN:=λs S Q=>∃(a n b o:Nat)(l:List Nat)(j:List Mv)(h:List Kn)(q:List Ti)(k:Str)(i:List Sp),s=[.loc a,mD n o l j,k7 k i]/\(∃L m t e ns,cM C W b L S a m t e ns h q)/\(nms h).Nodup/\jq h k i/\o<n/\(∀e∈l,e<n)/\l.Nodup/\n<=62/\(∀m∈j,nH n m)/\j.length<=62/\
 (∀k∈h,texts k.2)/\∀v:Bool,(v=true↔∃e∈l,Rb (wr (aQ h) k i) j o e i.length)->Q (.dat (.bl v)) S
theorem OF(T:Txt K mg C fi)(F:Src K mg "goes" kT (top 19))(i:Def P w K mg base 2 "moves_near" kL (au K DL))(j:Def P w K mg base 3 "goes_along" iR (au K (zK C w))):Def P w K mg base 4 "goes" kT (au K (xr C w)):=by
 refine cD F Mi (λds S Q h=>?_) (λf cdv A outer s H E O=>?_)
 ·obtain⟨a,n,b,t,o,l,L,I,k,u,rfl,_⟩:=h;rfl
 ·refine⟨_,(Uz (UE (UK j O (Uv (Uu 0) (Uv (UK i O (Uw (Uu 1))) (Uv (UC (Uu 1)) (Uv (UC (Uu 1)) (Uw (Uu 2))))))))),λds S Q h=>?_⟩;obtain⟨a,n,b,t,o,l,L,I,k,u,rfl,X,Z,hw,W,y,G,n6,m,U,x,q⟩:=h;have e0:aH Bt [.loc a,mD n t o l,k7 k u]=[some (.loc a),some (mD n t o l),some (k7 k u)]:=rfl;rw[e0];push_cast[true_and];refine⟨n,t,o,l,rfl,n6,m,U,?_⟩;push_cast[mD,aE,cS,dh,at2,yZ];refine⟨a,n,b,t,o,l,L,I,k,u,rfl,X,Z,hw,W,y,G,n6,m,U,x,λv Y=>?_⟩;exact aY rfl (q v Y)
open PySem L2 M M6
noncomputable abbrev wN:List Str:=["_law_rows_here","_law_machine_here","_law_way","_law_stands","_law_side","_law_word","_law_knot"]
noncomputable abbrev iO:=wN.take 3
theorem iX:av wN iO (ah (top 49)):=L2.bO
noncomputable def jj(ks:List Kn)(ts:List Ti):D:=.tup [.dct (gJ ks) (ks.map λk=>.lst (k.2.map D.str)),.lst (ts.map T3)]
theorem tu{x:Str}:∀{ks:List Kn},x∈nms ks->ki (gJ ks) (ks.map λk=>D.lst (k.2.map D.str)) (.inr x)=some (.lst ((aQ ks x).map D.str))
 |[],h=>by simp[nms] at h
 |k::ks,h=>by
  have a:=tu (x:=x) (ks:=ks);unfold ki gJ aQ at a⊢;rw[zcj,zcj,zaN,zbO,zbO];by_cases e:k.1=x
  ·subst e;simp
  ·have i:¬(Sum.inr k.1:Key)=.inr x:=λz=>e (by injection z);rw[yDf e,yDf i];rcases zci.mp (show x∈k.1::nms ks from h) with z|z
   ·exact absurd z.symm e
   ·exact a z
theorem b6{α:Type}{P:aN->Prop}{t:AT}{e:AE}{Q:List D->aN->Prop}{δ:bC}{S:aN}(g:α->D)(c:α->Bool)(f:α->D)(m:P S):∀(as:List α)(i:List D)(h:bC),h.set 0 none=δ.set 0 none->
  (∀a∈as,∀Q:Bool->aN->Prop,Q (c a) S->t (δ.set 0 (some (g a))) S Q)->(∀a∈as,∀Q:AK,Q (.dat (f a)) S->e (δ.set 0 (some (g a))) S Q)->i.length+as.length<=yag->Q (i++(as.filter c).map f) S->
  iy P (bV 0) t e (as.map g) i h S Q
 |[],i,h,_,_,_,_,q=>⟨m,by simpa using q⟩
 |a::as,i,h,hd,ht,he,hl,q=>by
  refine⟨m,?_⟩;have o:h.set 0 (some (g a))=δ.set 0 (some (g a)):=by
   have:=congrArg (λl=>l.set 0 (some (g a))) hd;simpa[List.set_set] using this
  show bV 0 (g a) h S _;simp only[bV];rw[o];simp only[zbq] at hl;refine ht a (by simp) _ ?_;cases n:c a with
  |true=>
   rw[yIp rfl];refine he a (by simp) _ ⟨by lia,?_⟩;refine b6 g c f m as _ _ (by simp[List.set_set]) (λx j=>ht x (by simp[j])) (λx j=>he x (by simp[j])) (by simp;lia) ?_;rw[zbD,n,yIp rfl,zcj] at q;simpa[R.d,zbc] using q
  |false=>
   rw[yIn (by decide)];refine b6 g c f m as _ _ (by simp[List.set_set]) (λx j=>ht x (by simp[j])) (λx j=>he x (by simp[j])) (by lia) ?_;rw[zbD,n,yIn (by decide)] at q;exact q
theorem ne_nil{d:D}{ns:List Nat}{Q:AK}(hd:aT S d=.lst (nL ns))(h:ns.length<=100)(q:Q (.dat (.bl (!decide (ns=[])))) S):Lu d (.lst []) S Q:=by
 unfold Lu;rw[hd,b9];refine⟨di (uu h).1 (by decide),rfl,?_⟩;have:PyData.eqv (py (.lst (nL ns))) (py (.lst []))=decide (ns=[]):=by
  cases ns with
  |nil=>rfl
  |cons a r=>simp[nL,py,dZ,PyData.eqv,PyData.eqvAll]
 rw[this];exact q
def rV:AN:=λq S Q=>∃(n l:Nat)(j:List Nat)(i:List Mv)(a:List Kn)(o:List Ti)(k:Str)(h:List Sp),q=[jj a o,mD n l j i,k7 k h]/\(nms a).Nodup/\jq a k h/\l<n/\(∀e∈j,e<n)/\j.Nodup/\n<=62/\(∀m∈i,nH n m)/\i.length<=62/\
 (∀k∈a,texts k.2)/\∀v:Bool,(v=true↔∃e∈j,Rb (wr (aQ a) k h) i l e h.length)->Q (.dat (.bl v)) S
theorem JS(T:Txt K mg C fi)(F:Src K mg "_law_gone" iO (top 49))(a:Def P w K mg base 1 "_law_still" iI (au K zC))(t:Def P w K mg base 1 "_law_by" pN (au K KZ)):Def P w K mg base 2 "_law_gone" iO (au K rV):=by
 refine cD F iX (λds S Q h=>?_) (λf cdv A outer s H E i=>?_)
 ·obtain⟨n,v,o,I,u,Y,k,l,rfl,_⟩:=h;rfl
 ·refine⟨_,(Ux (UD 3 iX.nd (UK a i (Uv (Uu 1) (Uv (UM (Uv (UC (Uu 1)) UA)) (Uv (Vo (dW i) (UC (Uu 0)) (UC (Uu 2)) (λ_ _=>rfl)) UA))))) (Ux (UW PassesOwn.never rfl (UT (UC (Uu 2))) (U7 (n:=3) rfl (UL (UI 4 iX.nd) (UL (UI 5 iX.nd) (UL (UI 6 iX.nd) U6)))) (Uz (UD 3 iX.nd (UK a i (Uv (Uu 1) (Uv (UK t i (Uv (Uu 1) (Uv (Uu 3) (Uv (Uu 4) (Uw (Uu 5)))))) (Uv (Vo (dW i) (UC (Uu 0)) (Uu 6) (λ_ _=>rfl)) UA))))))) (Uz (UE (U3 (Vj i) (Vc ["_law_stand","_law_machine_here"] [none,some 1] (UT (Uu 3)) (λ_ _ _ _=>(Vz (UH (Vn i) (Uu 0) (UC (Uu 1)) rfl))) (λ_ _ _ _=>(Uu 0))) (UM UA) (aK _)))))),λds S Q h=>?_⟩;obtain⟨n,v,o,I,u,Y,k,l,rfl,hn,hw,n0,hes,hen,n6,m,hl,U,q⟩:=h;have e0:aH wN [jj u Y,mD n v o I,k7 k l]=[some (jj u Y),some (mD n v o I),some (k7 k l),none,none,none,none]:=rfl;rw[e0];push_cast[jj,k7,mD,aE,cS,dh,at2,yZ,gA];refine⟨sz rfl,_,_,rfl,_,rfl,_,tu hw.1,n,v,o,I,[v],_,rfl,n6,m,hl,by simp;exact n0,by simp,U _ (cA hw.1),λrs r2 r3=>?_⟩;push_cast[d9,dw,bZ,aE,cS,dh];refine bf (λrest δ S2=>∃(G q2:List Sp)(j:List Nat)(v6 v7 v8:Option D),rest=q2.map iV/\G++q2=l/\S2=S/\δ=[some (jj u Y),some (mD n v o I),some (k7 k l),some (.lst (nL j)),v6,v7,v8]/\j.Nodup/\(∀x∈j,x<n)/\∀x,x∈j↔Rb (wr (aQ u) k l) I v x G.length) ?_ ?_ _ _ _ ⟨[],l,rs,none,none,none,rfl,rfl,rfl,rfl,r2,λx O=>((r3 x).mp O).lt m (by simp;exact n0),λx=>?_⟩
  ·rintro δ S2 ⟨G,q2,j,v6,v7,v8,i,L,rfl,rfl,h1,h2,Z⟩;have:q2=[]:=by cases q2 with
    |nil=>rfl
    |cons _ _=>simp at i
   subst this;rw[zbL] at L;subst L;have hsl:=bA n j h1 h2;refine⟨trivial,?_⟩;push_cast[cW,dw,bZ];refine b6 (α:=Nat) (δ:=[none,some (mD n v o I)]) (λz:Nat=>D.int z) (λz=>decide (z∈o)) (λz:Nat=>D.int z) trivial j [] _ rfl (λz hz Q' q'=>?_) (λz hz Q' q'=>⟨_,rfl,q'⟩) (by rw[yaf];show 0+j.length<=_;lia) ?_
   ·push_cast[mD,aE,cS,dh,at2,yZ];refine sX (.inr rfl) (by have:=bA n o hen hes;lia) ?_;exact⟨_,rfl,by simpa using q'⟩
   ·refine⟨zcL _,ne_nil (ns:=j.filter λz=>decide (z∈o)) rfl (zcy (zav ..) (by lia)) (aY rfl (q _ ?_))⟩;constructor
    ·intro X;have X:j.filter (λz=>decide (z∈o))≠[]:=by simpa using X
     obtain⟨z,hz⟩:=List.exists_mem_of_ne_nil _ X;obtain⟨g1,g2⟩:=zbI.mp hz;exact⟨z,of_decide_eq_true g2,(Z z).mp g1⟩
    ·rintro⟨z,hz,i⟩;have X:j.filter (λz=>decide (z∈o))≠[]:=List.ne_nil_of_mem (zbI.mpr ⟨(Z z).mpr i,yDt hz⟩);rw[yDf X];rfl
  ·rintro x rest δ S2 N' ⟨G,q2,j,v6,v7,v8,i,L,rfl,rfl,h1,h2,Z⟩ hN';cases q2 with
   |nil=>simp at i
   |cons r q2=>
    rw[zcj] at i;injection i with e1 e2;subst e1;subst e2;have hrm:r∈l:=by rw[<-L];simp
    obtain⟨o1,o2⟩:=hw.2 r hrm;have hsl:=bA n j h1 h2;have ai:l[G.length]? =some r:=by rw[<-L,zab (zcK _)];simp
    refine⟨trivial,_,rfl,rfl,_,_,rfl,_,_,rfl,_,_,rfl,rfl,?_⟩;push_cast[true_and];refine⟨n,v,o,I,j,side r.1,r.2.1,rfl,n6,m,hl,h2,by lia,o2,λt3 n3 m3=>?_⟩;push_cast[gA,jj,aE,cS];have l3:∀x∈t3,x<n:=λx O=>by
     obtain⟨m',g1,g2,g3,rfl⟩:=(m3 x).mp O;exact(m m' g1).2.2
    refine⟨_,_,rfl,_,rfl,_,tu o1,n,v,o,I,t3,_,rfl,n6,m,hl,l3,n3,U _ (cA o1),λt4 n4 m4=>?_⟩;refine hN' _ _ ⟨G++[r],q2,t4,_,_,_,rfl,by rw[zbc];exact L,rfl,rfl,n4,λx O=>((m4 x).mp O).lt m l3,λx=>?_⟩;have w1:(wr (aQ u) k l).sd G.length=side r.1:=by simp[wr,ai]
    have w2:(wr (aQ u) k l).wd G.length=r.2.1:=by simp[wr,ai]
    have w3:(wr (aQ u) k l).ms (G.length+1)=aQ u r.2.2:=by simp[wr,NK,ai]
    rw[m4,<-w3,zaM];refine jW (λy=>?_) x;rw[m3,<-w1,<-w2];exact DA Z y
  ·rw[r3];exact jW (W:=wr (aQ u) k l) A5 x
open PySem L2 M M6
noncomputable abbrev rL:List Str:=["_law_thing","_law_many"]
noncomputable abbrev fX:=rL
theorem D5:av rL fX (ah (top 53)):=L2.bO
noncomputable abbrev wK:List Str:=["_law_thing"]
noncomputable abbrev iL:=wK
theorem Ia:av wK iL (ah (top 54)):=L2.bO
noncomputable abbrev wM:List Str:=["_law_thing"]
noncomputable abbrev iN:=wM
theorem Ib:av wM iN (ah (top 55)):=L2.bO
noncomputable abbrev Lz:List Str:=["_law_thing","_law_most","_law_many","_law_begin","_law_ends","_law_moves","_law_stands","_law_move"]
noncomputable abbrev wA:=Lz.take 2
theorem xB:av Lz wA (ah (top 52)):=L2.bO
theorem ng:∀es:List D,dZ es=es.map py
 |[]=>rfl
 |e::es=>by simp only[dZ,zcj,ng es]
theorem JB(bs:List Bool):fit (.lst (bs.map D.bl))=true:=by
 have h:∀bs:List Bool,bH (bs.map D.bl)=true/\PyData.canLayAll0 (dZ (bs.map D.bl))=true/\PyData.depthAll (dZ (bs.map D.bl))=0:=λbs=>by
  induction bs with
  |nil=>exact⟨rfl,rfl,rfl⟩
  |cons b bs ih=>
   obtain⟨h1,h2,a⟩:=ih;refine⟨by simp only[zcj,bH,bY,h1,zcq],?_,?_⟩
   ·simp only[zcj,dZ,py,PyData.canLayAll0,PyData.canLay0,h2,zcq]
   ·simp only[zcj,dZ,py,PyData.depthAll,PyData.depth,a];rfl
 obtain⟨h1,h2,a⟩:=h bs;unfold fit PySem.SeqAt.shaped;simp only[bY,py,PyData.canLay0,PyData.depth,h1,h2,a];decide
theorem vH{es:List D}(h:∀e∈es,bY e=true/\bJ (py e)=true/\(py e).depth<=6):fit (.lst es)=true:=by
 have g:∀es:List D,(∀e∈es,bY e=true/\bJ (py e)=true/\(py e).depth<=6)->bH es=true/\PyData.canLayAll0 (dZ es)=true/\PyData.depthAll (dZ es)<=6:=λes=>by
  induction es with
  |nil=>exact λ_=>⟨rfl,rfl,zcL _⟩
  |cons e es ih=>
   intro h;obtain⟨h1,h2,i⟩:=ih λx a=>h x (zay _ a);obtain⟨l,j,m⟩:=h e (by simp);refine⟨by simp only[bH,l,h1,zcq],?_,?_⟩
   ·simp only[dZ,PyData.canLayAll0,fH _ j,h2,zcq]
   ·simp only[dZ,PyData.depthAll];lia
 obtain⟨h1,h2,i⟩:=g es h;unfold fit PySem.SeqAt.shaped;simp only[bY,py,PyData.canLay0,PyData.depth,h1,h2,zcp];exact yDt (by lia)
theorem NZ(bs:List Bool):inD (.bl false) (bs.map D.bl)= !(bs.all id):=by
 unfold inD
 induction bs with
 |nil=>rfl
 |cons b bs ih=>
  rw[zcj,zck,ih,zcl];cases b<;>rfl
theorem Tr{as bs:List yam}(h1:ck as=true)(h2:ck bs=true):PyData.eqv (.list as) (.list bs)=decide (as=bs):=by
 simp only[PyData.eqv];exact o6 as bs h1 h2
theorem Af:∀{as:List yam},(∀x∈as,bJ x=true)->ck as=true
 |[],_=>rfl
 |a::as,h=>by simp only[ck,h a (by simp),Af λx i=>h x (zay _ i),zcq]
theorem ED{o:Option MO}{Q:AK}(q:Q (.dat (.bl b)) S):VD S (S++[o]) (.dat (.bl b)) Q:=jQ rfl q
noncomputable def RW:List Str:=["a","ab","stay","many"]
def uy:AN:=λa S Q=>∃n x:Nat,a=[.int x,.int n]/\x<n/\Q (.dat (.bl true)) S
theorem FY(T:Txt K mg C fi)(F:Src K mg "_law_is_stand" fX (top 53)):Def P w K mg base 1 "_law_is_stand" fX (au K uy):=by
 refine cD F D5 (λi S Q h=>?_) (λf j A outer s H E l=>?_)
 ·obtain⟨n,x,rfl,_⟩:=h;rfl
 ·refine⟨_,(Uz (UE (Vt (UO Vp T.isinstance (Uv (Uu 0) (Uv (Vq "int" (by rfl) T.int (by decide+kernel)) UA))) (Vt (M.ye (UO Vp T.isinstance (Uv (Uu 0) (Uv (Vq "bool" (by rfl) T.bool (by decide+kernel)) UA)))) (M.jz (M.oq M.Nt Vs Uy (Uu 0) (Uu 1))))))),λi S Q h=>?_⟩;obtain⟨n,x,rfl,m,q⟩:=h;have a:aH rL [.int x,.int n]=[some (.int x),some (.int n)]:=rfl;rw[a];push_cast[true_and];refine⟨true,rfl,?_⟩;rw[yIp rfl];refine⟨false,rfl,?_⟩;rw[yIp (by decide),yIp (yDt (by lia)),yDt (by lia)];exact q
def zF:AN:=λa S Q=>∃y,a=[.str y]/\y∈RW/\Q (.dat (.bl true)) S
theorem JP(T:Txt K mg C fi)(F:Src K mg "_law_is_name" iL (top 54)):Def P w K mg base 1 "_law_is_name" iL (au K zF):=by
 refine cD F Ia (λo S Q h=>?_) (λf t A outer s H E m=>?_)
 ·obtain⟨x,rfl,_⟩:=h;rfl
 ·refine⟨_,(Ux (UN (U8 (Va (U9 (U4 (UO Vp T.isinstance (Uv (Uu 0) (Uv (Vq "str" (by rfl) T.str (by decide+kernel)) UA))))) (Vd (U9 (M.n5 M.Nt M.Nt Uy (UO UZ T.len (Uw (Uu 0))) Uy))))) (Uz (UE UX)) UP) (Uz (UE (U3 (UR m) (Vc ["_law_sign"] [none] (UT (Uu 0)) (λ_ _ _ _=>(Vz (UH M.E5 (Uu 0) UG rfl))) (λ_ _ _ _=>(Uu 0))) (UM UA) (aK _))))),λo S Q h=>?_⟩;obtain⟨y,rfl,i,q⟩:=h;have n:aH wK [.str y]=[some (.str y)]:=rfl;rw[n];have u:1<=y.length/\y.length<=8:=by
   simp only[RW,zci,zbA,or_false] at i;rcases i with rfl|rfl|rfl|rfl<;>decide+kernel
  push_cast[cW,dw,bZ];refine⟨true,rfl,?_⟩;rw[yIn (by decide)];refine⟨y.length,by simp only[iu];rw[yIp (by rw[yaf];lia)],?_⟩;rw[yIp (yDt (by lia)),yDt (by lia),yIn (by decide)];have a:∀c∈y.cps.toList,c∈("abcdefghijklmnopqrstuvwxyz":Str).cps.toList:=by
   simp only[RW,zci,zbA,or_false] at i;rcases i with rfl|rfl|rfl|rfl<;>decide+kernel
  have j:y.cps.toList.length=y.length:=by simp[Str.length]
  refine b6 (α:=Nat) (P:=λ_=>True) (δ:=[none]) (λc=>D.str ⟨#[c]⟩) (λ_=>false) (λc=>D.str ⟨#[c]⟩) trivial y.cps.toList [] _ rfl (λz hz v q2=>?_) (λz hz G l=>⟨_,rfl,l⟩) (by rw[yaf,j];show 0+y.length<=_;lia) ?_
  ·push_cast[true_and];refine⟨_,_,rfl,rfl,?_⟩;push_cast[true_and];rw[HR,yDt (a z hz)];exact q2
  ·rw[List.filter_eq_nil_iff.mpr (by simp)];exact⟨zcL _,rfl,rfl,aY rfl q⟩
def zH:AN:=λa S Q=>∃l,a=[lD l]/\qh l/\Q (.dat (.bl true)) S
theorem JR(T:Txt K mg C fi)(F:Src K mg "_law_is_leaf" iN (top 55))(a:Def P w K mg base 1 "_law_is_name" iL (au K zF)):Def P w K mg base 2 "_law_is_leaf" iN (au K zH):=by
 refine cD F Ib (λy S Q h=>?_) (λf G A outer s H E j=>?_)
 ·obtain⟨x,rfl,_⟩:=h;rfl
 ·refine⟨_,(Ux (UN (U8 (Va (U9 (U4 (UO Vp T.isinstance (Uv (Uu 0) (Uv (Vq "tuple" (by rfl) T.tuple (by decide+kernel)) UA))))) (Va (UH Vs (UO UZ T.len (Uw (Uu 0))) Uy (aK _)) (Vd (U9 (U4 (UO Vp T.isinstance (Uv (UC (Uu 0)) (Uv (Vq "str" (by rfl) T.str (by decide+kernel)) UA))))))))) (Uz (UE UX)) UP) (Ux (UN (UH (UR j) (UC (Uu 0)) UG (aK _)) (Uz (UE (U3 (UR j) (UO UZ T.len (Uw (Uu 0))) Uy (aK _)))) UP) (Ux (UN (UH (UR j) (UC (Uu 0)) UG (aK _)) (Ux (UN (U8 (Va (UH (Vj j) (UO UZ T.len (Uw (Uu 0))) Uy (aK _)) (Vd (UH (M.nj j) (UC (Uu 0)) (UJ (Uv UG (Uw UG))) rfl)))) (Uz (UE UX)) UP) (Uz (UE (M.EW (U3 (UR j) (UC (Uu 0)) UG (aK _)) (M.jz (UK a j (Uv (UC (Uu 0)) UA))))))) UP) (Uz (UE (Vt (U3 (Vn j) (UC (Uu 0)) (UJ (Uv UG (Uw UG))) rfl) (Vt (U3 (UR j) (UO UZ T.len (Uw (Uu 0))) Uy (aK _)) (M.jz (UK a j (Uv (UC (Uu 0)) UA)))))))))),λy S Q h=>?_⟩;obtain⟨l,rfl,t,q⟩:=h;have v:aH wM [lD l]=[some (lD l)]:=rfl;rw[v];obtain⟨hd,tl,u⟩:∃hd tl,lD l=.tup (.str hd::tl):=by cases l<;>exact⟨_,_,rfl⟩
  refine gD (λo i=>?_) ?_
  ·rw[u];push_cast[aE,cS];refine⟨true,rfl,?_⟩;rw[yIn (by decide)];refine⟨_,rfl,?_⟩;rw[yDf (by simp;lia),yIn (by decide)];exact⟨true,rfl,i⟩
  cases l with
  |stay=>
   refine sZ (λo i=>?_) ?_
   ·push_cast[lD,aE,cS];exact qT trivial i
   ·push_cast[lD];exact⟨_,rfl,q⟩
  |step b x=>
   refine gD (λo i=>?_) (sZ (λo i=>?_) (gD (λo i=>?_) ?_))
   ·push_cast[lD,aE,cS];exact qF (by decide+kernel) i
   ·push_cast[lD,aE,cS];exact qT trivial i
   ·push_cast[lD,aE,dh];refine⟨_,rfl,false,rfl,?_⟩;rw[yIn (by decide)];exact⟨sz rfl,fU (n:=0) (ss:=["on","back"]) (show gp (side b)=true by cases b<;>decide+kernel) (by decide) (by decide+kernel) ⟨false,congrArg D.bl (by cases b<;>decide+kernel),i⟩⟩
   ·push_cast[lD,aE,at2];refine fc (λ_=>q) λh=>?_;refine⟨x,rfl,?_,aY rfl q⟩;have h:¬x=Str.ofString "*":=λe=>h (yDt e);simp only[qh,WD,zci,zbA,or_false] at t;simp only[RW,zci,zbA,or_false];rcases t with rfl|rfl|rfl|rfl
    ·exact .inl rfl
    ·exact .inr (.inl rfl)
    ·exact .inr (.inr (.inl rfl))
    ·exact absurd rfl h
  |mk c m=>
   refine gD (λo i=>?_) (gD (λo i=>?_) ?_)
   ·push_cast[lD,aE,cS];exact qF (by cases c<;>decide+kernel) i
   ·push_cast[lD,aE,cS];exact qF (by cases c<;>decide+kernel) i
   push_cast[lD,aE,cS,dh];refine⟨sz rfl,fU (n:=0) (ss:=["at","off"]) (show gp (Po c)=true by cases c<;>decide+kernel) (by decide) (by decide+kernel) ?_⟩;refine⟨true,congrArg D.bl (by cases c<;>decide+kernel),?_⟩;rw[yIp rfl];refine⟨_,rfl,?_⟩;push_cast[true_and];rw[yIp (by simp)];refine⟨m,rfl,?_,aY rfl q⟩;simp only[qh,MK,zci,zbA,or_false] at t;rcases t with rfl|rfl<;>simp[RW]
theorem z8:∀{l m:List yam},(∀x∈l,∀y∈l,bK x y=true)->l.Nodup->m.Nodup->l.Pairwise (λx y=>fJ y x=false)->m.Pairwise (λx y=>fJ y x=false)->(∀y,y∈l↔y∈m)->l=m
 |[],[],_,_,_,_,_,_=>rfl
 |[],b::m,_,_,_,_,_,h=>by have:=(h b).mpr (by simp);simp at this
 |a::l,[],_,_,_,_,_,h=>by have:=(h a).mp (by simp);simp at this
 |a::l,b::m,hc,n1,n2,p1,p2,h=>by
  have n:=zaQ.mp p1;have q2:=zaQ.mp p2;have o:b∈a::l:=(h b).mpr (by simp);have e:a=b:=by
   apply Classical.byContradiction;intro j;have h1:b∈l:=(zci.mp o).resolve_left λz=>j z.symm;have h2:a∈m:=(zci.mp ((h a).mp (by simp))).resolve_left j;rcases yu a b (hc a (by simp) b o) j with z|z
   ·rw[q2.1 a h2] at z;cases z
   ·rw[n.1 b h1] at z;cases z
  subst e;rw[zbM] at n1 n2;refine congrArg _ (z8 (λx q y i=>hc x (by simp[q]) y (by simp[i])) n1.2 n2.2 n.2 q2.2 λy=>⟨λi=>?_,λi=>?_⟩)
  ·exact(zci.mp ((h y).mp (by simp[i]))).resolve_left λz=>n1.1 (z▸i)
  ·exact(zci.mp ((h y).mpr (by simp[i]))).resolve_left λz=>n2.1 (z▸i)
def Us(mv:List Mv):Prop:=(pm mv).Nodup/\(pm mv).Pairwise λx y=>fJ y x=false
def PZ:AN:=λj S Q=>∃(n i h:Nat)(a:List Mv)(c:Nat),j=[mD n i [h] a,.int (c:Nat)]/\100<=c/\i<n/\h<n/\n<=62/\(∀m∈a,nH n m)/\a.length<=62/\Us a/\Q (.dat (.bl true)) S
theorem Tv(T:Txt K mg C fi)(F:Src K mg "_law_is_machine" wA (top 52))(i:Def P w K mg base 1 "_law_is_stand" fX (au K uy))(j:Def P w K mg base 2 "_law_is_leaf" iN (au K zH)):Def P w K mg base 3 "_law_is_machine" wA (au K PZ):=by
 refine cD F xB (λds S Q h=>?_) (λf cdv A outer s H E u=>?_)
 ·obtain⟨n,W,v,O,c,rfl,_⟩:=h;rfl
 ·refine⟨_,(Ux (UN (U8 (Va (U9 (U4 (UO Vp T.isinstance (Uv (Uu 0) (Uv (Vq "tuple" (by rfl) T.tuple (by decide+kernel)) UA))))) (Vd (UH (Vj u) (UO UZ T.len (Uw (Uu 0))) Uy (aK _))))) (Uz (UE UX)) UP) (Ux (M.lF (Uu 0) (U7 (n:=4) rfl (UL (UI 2 xB.nd) (UL (UI 3 xB.nd) (UL (UI 4 xB.nd) (UL (UI 5 xB.nd) U6)))))) (Ux (UN (U8 (Va (U9 (U4 (UO Vp T.isinstance (Uv (Uu 4) (Uv (Vq "tuple" (by rfl) T.tuple (by decide+kernel)) UA))))) (Vd (U9 (U4 (UO Vp T.isinstance (Uv (Uu 5) (Uv (Vq "tuple" (by rfl) T.tuple (by decide+kernel)) UA)))))))) (Uz (UE UX)) UP) (Ux (UN (U8 (Va (U9 (U4 (UK i u (Uv (Uu 2) (Uv (UB UQ (Uu 1) Uy) UA))))) (Vd (UH Vs (Uu 2) Uy (aK _))))) (Uz (UE UX)) UP) (Ux (UD 6 xB.nd (UY (UB UQ (UM (Uw (Uu 3))) (U1 M.ic T.list (Uw (Uu 4)))))) (Ux (UW PassesOwn.never rfl (UT (Uu 5)) (UI 7 xB.nd) (Ux (UN (U8 (Va (U9 (U4 (UO Vp T.isinstance (Uv (Uu 7) (Uv (Vq "tuple" (by rfl) T.tuple (by decide+kernel)) UA))))) (Va (UH (Vj u) (UO UZ T.len (Uw (Uu 7))) Uy (aK _)) (Vd (U9 (U4 (UK j u (Uv (UC (Uu 7)) UA)))))))) (Uz (UE UX)) UP) (Uz (U0 (Vb PySem.F.plainAttrs_list PySem.F.slot_list_extend PySem.F.type_list_extend M.j7 (Uu 6) (Uv (UM (Uv (UC (Uu 7)) (Uv (UC (Uu 7)) UA))) UA)))))) (Ux (UN (UH (Vn u) UX (Vc ["_law_stand","_law_many"] [none,some 2] (UT (Uu 6)) (λ_ _ _ _=>Vi) (λ_ _ _ _=>(UK i u (Uv (Uu 0) (Uw (Uu 1)))))) rfl) (Uz (UE UX)) UP) (Uz (UE (Vt (U3 (UR u) (U1 M.ic T.list (Uw (Uu 4))) (M.gY rfl (by rfl) T.sorted (by rfl) T.set (Uu 4)) (aK _)) (M.jz (U3 (UR u) (U1 M.ic T.list (Uw (Uu 5))) (M.fq u rfl (by rfl) T.sorted (by rfl) T.set (Uu 5)) (aK _))))))))))))),λds S Q h=>?_⟩;obtain⟨n,W,v,O,c,rfl,hc,n2,n3,n6,hmv,hl,hs,q⟩:=h;have es0:aH Lz [mD n W [v] O,.int (c:Nat)]=[some (mD n W [v] O),some (.int (c:Nat)),none,none,none,none,none,none]:=rfl;rw[es0];refine gD (λQ q=>?_) ?_
  ·push_cast[mD];refine⟨true,rfl,?_⟩;rw[yIn (by decide)];exact⟨4,rfl,false,rfl,q⟩
  refine dR λN h=>?_;push_cast[mD,rG,iD,rH];refine⟨_,rfl,rfl,_,_,rfl,_,_,rfl,_,_,rfl,_,_,rfl,rfl,h _ _ ?_⟩;clear h;refine gD (λQ q=>?_) ?_
  ·push_cast[true_and];refine⟨true,rfl,?_⟩;rw[yIn (by decide)];exact⟨true,rfl,q⟩
  refine gD (λQ q=>?_) ?_
  ·push_cast[true_and];refine⟨c+1,n,rfl,by lia,true,rfl,?_⟩;rw[yIn (by decide)];exact qF (by lia) q
  refine dR λN h=>?_;push_cast[bW,kB];refine⟨sz rfl,sz rfl,h _ _ ?_⟩;clear h;refine dR λN0 h0=>?_;have L:∀o:MO,(S++[some o])[S.length]? =some (some o):=λo=>by simp
  have DW:∀o o':MO,(S++[some o]).set S.length (some o')=S++[some o']:=λo o'=>by rw[zau _ _ (zcK _)];simp
  have xx:∀o:MO,aT (S++[some o]) (.loc S.length)=o.d:=λo=>by simp only[aT,L]
  push_cast[d9,dw,bZ];refine bf (λrest δ S2=>∃(G q2:List Mv)(t:List Nat)(v7:Option D),rest=q2.map vD/\G++q2=O/\S2=S++[some (.lst (nL t))]/\δ=[some (.tup [.int n,.int (W:Nat),.tup (nL [v]),.tup (O.map vD)]),some (.int (c:Nat)),some (.int n),some (.int (W:Nat)),some (.tup (nL [v])),some (.tup (O.map vD)),some (.loc S.length),v7]/\(∀x∈t,x<n)/\t.length=2+2*G.length) ?_ ?_ _ _ _ ⟨[],O,[W,v],none,rfl,rfl,rfl,rfl,by simp;lia,rfl⟩
  ·rintro δ S2 ⟨G,q2,t,v7,u,I,rfl,rfl,h1,h2⟩;have:q2=[]:=by cases q2 with
    |nil=>rfl
    |cons _ _=>simp at u
   subst this;rw[zbL] at I;subst I;refine⟨trivial,h0 _ _ ?_⟩;clear h0;push_cast[cW,kB,dw,bZ];refine⟨_,L _,?_⟩;refine b6 (α:=Nat) (P:=λS3=>S3[S.length]? =some (some (.lst (nL t)))) (δ:=[none,some (.int n)]) (λz:Nat=>D.int z) (λ_=>true) (λ_=>D.bl true) (L _) t [] _ rfl (λz hz Q2 q2=>q2) (λz hz Q' q'=>?_) (by rw[yaf];show 0+t.length<=_;lia) ?_
   ·push_cast[true_and];exact⟨n,z,rfl,h1 z hz,q'⟩
   ·rw[zbR,zaH.mpr λ_ _=>rfl,show(t.map λ_=>D.bl true)=(t.map λ_=>true).map D.bl by rw[zcv];rfl];refine⟨rfl,JB _,false,?_,?_⟩
    ·rw[zP,NZ,show(t.map λ_=>true).all id=true by simp];rfl
    ·rw[yIn (by decide)];push_cast[lW,i9];refine⟨[(v:Int)],.inl rfl,by simp,λX s1 s2 s3=>?_⟩;have es:X=[(v:Int)]:=by
      cases X with
      |nil=>have:=(s2 v).mpr (by simp);simp at this
      |cons a r=>
       have ha:a=v:=by simpa using(s2 a).mp (by simp)
       subst ha;cases r with
       |nil=>rfl
       |cons b r=>
        have hb:b=(v:Int):=by simpa using(s2 b).mp (by simp)
        subst hb;simp at s1
     subst es;refine⟨di (uu (ns:=[v]) (by simp)).1 (by decide),di (uu (ns:=[v]) (by simp)).1 (by decide),?_⟩;refine⟨true,congrArg D.bl (by rw[b9,b9];simp[nL,py,dZ,PyData.eqv,PyData.eqvAll]),?_⟩;rw[yIp rfl];have gd:∀k∈G.map vD,cX k/\∃q r,py k=PyData.tuple (.int q::r):=λk hk=>by
      obtain⟨m,hm,rfl⟩:=zcw.mp hk;exact⟨sN (hmv m hm).2.1,sM m⟩
     have cm:∀k∈G.map vD,∀l∈G.map vD,bK (py k) (py l)=true:=λk hk l hl=>by
      obtain⟨m,_,rfl⟩:=zcw.mp hk;obtain⟨m',_,rfl⟩:=zcw.mp hl;exact sO m m'
     refine⟨_,.inl rfl,gd,cm,by rw[zbK];lia,λU k1 k2 k3 k4=>?_⟩;have gk:∀e∈G.map vD,bY e=true/\bJ (py e)=true/\(py e).depth<=6:=λe I=>let g:=(gd e I).1;⟨g.1,g.2.1,g.2.2.1⟩;have ep:(G.map vD).map py=U.map py:=z8 (λx Z y hy=>by
      obtain⟨a,ha,rfl⟩:=zcw.mp Z;obtain⟨b,hb,rfl⟩:=zcw.mp hy;exact cm a ha b hb) (by rw[zcv];exact hs.1) k3 (by rw[zcv];exact hs.2) (zbg.mpr k4) λy=>(k2 y).symm
     refine⟨vH gk,vH λe I=>gk e (k1 e I),?_⟩;have Y:ck (U.map py)=true:=Af λx Z=>by
      obtain⟨e,I,rfl⟩:=zcw.mp Z;exact(gk e (k1 e I)).2.1
     have e1:PyData.eqv (py (.lst (G.map vD))) (py (.lst U))=true:=by
      simp only[py,ng];rw[ep,Tr Y Y,yDt rfl]
     rw[b9,b9,e1];exact ED q
  ·rintro x rest δ S2 N' ⟨G,q2,t,v7,u,I,rfl,rfl,h1,h2⟩ hN';cases q2 with
   |nil=>simp at u
   |cons r q2=>
    rw[zcj] at u;injection u with e1 e2;subst e1;subst e2;have hrm:r∈O:=by rw[<-I];simp
    have ok:=hmv r hrm;have hql:G.length<62:=by have:=congrArg zcJ I;simp at this;lia
    refine⟨trivial,?_⟩;push_cast[vD,aE,cS,dh,at2,ue];refine⟨true,rfl,?_⟩;rw[yIn (by decide)];refine⟨3,rfl,false,rfl,?_⟩;rw[yIn (by decide)];refine⟨r.2.1,rfl,ok.2.1,true,rfl,?_⟩;rw[yIn (by decide)];refine⟨by rw[xx];rfl,sz rfl,?_⟩;refine⟨S.length,nL t,_,_,rfl,rfl,L _,.inl rfl,by rw[nL,zbK,yaf];show t.length+2<=_;lia,?_⟩;rw[DW,show nL t++[D.int r.1,D.int r.2.2]=nL (t++[r.1,r.2.2]) by simp[nL]];refine hN' _ _ ⟨G++[r],q2,t++[r.1,r.2.2],_,rfl,by rw[zbc];exact I,rfl,rfl,λx Z=>?_,by simp only[zaM,zbq,zbP,h2];lia⟩;rcases zbJ.mp Z with h|h
    ·exact h1 x h
    ·simp only[zci,zbA,or_false] at h;rcases h with rfl|rfl
     ·exact ok.1
     ·exact ok.2.2
open PySem L2 M M6
noncomputable abbrev wO:List Str:=[]
noncomputable abbrev iP:List Str:=[]
theorem Ic:av wO iP (ah (top 38)):=L2.bO
noncomputable abbrev Bf:List Str:=["_law_cell","_law_most","_law_ds","_law_knots_here","_law_marks_here","_law_k","_law_ties","_law_j","_law_one","_law_other"]
noncomputable abbrev kH:=Bf.take 2
theorem gc:av Bf kH (ah (top 41)):=L2.bO
noncomputable def SK:List Nat:=6::(zcc 6 4++7::(zcc 6 [6,3,6]).flatten)
noncomputable def KN:List Str:=["a","ab","on","back","m","knot"]
noncomputable def W3:List Str:=["a","ab","stay"]
structure RO(ks:List Kn)(ts:List Ti):Prop where
 k1:1<=ks.length
 k6:ks.length<=6
 nd:(nms ks).Nodup
 nm:∀k∈ks,k.1∈KN/\k.2.length<=2/\∀m∈k.2,m∈MK
 tn:ts.Nodup
 tl:ts.length<=6
 tk:∀t∈ts,t.1∈nms ks/\t.2.2∈nms ks/\t.2.1∈W3
theorem mj(h:x∈KN):gp x=true:=by
 simp only[KN,zci,zbA,or_false] at h;rcases h with rfl|rfl|rfl|rfl|rfl|rfl<;>decide+kernel
theorem uh(h:x∈W3):gp x=true:=by
 simp only[W3,zci,zbA,or_false] at h;rcases h with rfl|rfl|rfl<;>decide+kernel
theorem jP{x:D}{a:List D}(h:x::a=(cy 0 m).drop j):j<m/\x=.int (j:Int)/\a=(cy 0 m).drop (j+1):=by
 have i:j<(cy 0 m).length:=by
  rcases zcC j (cy 0 m).length with z|z
  ·exact z
  ·rw[List.drop_eq_nil_of_le z] at h;cases h
 rw[zag i] at h;injection h with h1 h2;have l:j<m:=by simpa[cy] using i
 refine⟨l,?_,h2⟩;rw[h1];simp[cy]
theorem Iu(m:Nat):(cy 0 m).length=m:=by simp[cy]
theorem yY{l:List Str}(h:j<l.length):fB (l.map D.str) (j:Int)=some (.str l[j]):=cR (by simp[h])
theorem HP{lo hi:Option Int}{Q:AK}:zc (.lst ds) lo hi S Q=Q (.new (.lst (Vl ds lo hi))) S:=rfl
theorem QG{b:Nat}{Q:D->Prop}(h:b<3)(k:∀x∈W3,Q (.str x)):∃e,fB [D.str "a",D.str "ab",D.str "stay"] (b:Int)=some e/\Q e:=by
 rcases(by lia:b=0∨b=1∨b=2) with rfl|rfl|rfl
 ·exact⟨_,cS,k _ (by simp[W3])⟩
 ·exact⟨_,dh,k _ (by simp[W3])⟩
 ·exact⟨_,at2,k _ (by simp[W3])⟩
theorem OQ(n:Nat)(ks:List Kn)(ts:List Ti):jf n (jj ks ts)=true:=by
 have h1:bH (ks.map λk=>D.lst (k.2.map D.str))=true:=cZ λk _=>by
  show bH (k.2.map D.str)=true;exact cZ λ_ _=>rfl
 have h2:bH (ts.map T3)=true:=cZ λ_ _=>rfl;simp only[jj,jf,je,cL _ _ h1,cL _ _ h2,zcq]
theorem yk(ks:List Kn):gJ ks=(nms ks).map Sum.inr:=by unfold gJ nms;rw[zcv];rfl
noncomputable def C7(ks:List Kn):List D:=ks.map λk=>.lst (k.2.map D.str)
theorem MX{ks:List Kn}(h:x ∉ nms ks):pq (gJ ks) (C7 ks) (.inr x) (.lst (ms.map D.str))=.dct (gJ (ks++[(x,ms)])) (C7 (ks++[(x,ms)])):=by
 have:=tH (gJ ks,C7 ks) (.inr x,.lst (ms.map D.str));unfold vN at this;dsimp only at this;rw[yk,vO,yDf h,yIn (by decide)] at this;rw[yk,this,yk];simp[nms,C7]
def zI:AN:=λa S Q=>a=[]/\Q (.new (.lst (KN.map D.str))) S
theorem JT(T:Txt K mg C fi)(F:Src K mg "_law_knots" iP (top 38)):Def P w K mg base 1 "_law_knots" iP (au K zI):=by
 refine cD F Ic (λi S Q h=>?_) (λf j A outer s H E l=>?_)
 ·obtain⟨rfl,_⟩:=h;rfl
 ·refine⟨_,(Uz (UE (UM (Uv UG (Uv UG (Uv UG (Uv UG (Uv UG (Uw UG))))))))),λi S Q h=>?_⟩;obtain⟨rfl,q⟩:=h;have a:aH wO []=[]:=rfl;rw[a];push_cast[true_and];exact⟨sz rfl,gg rfl q⟩
def DG:AN:=λi S Q=>∃z:Int,i=[.int z,.int 6]/\∀h a,RO h a->Q (.dat (jj h a)) S
theorem Om(T:Txt K mg C fi)(F:Src K mg "_law_rows" kH (top 41))(O:Def P w K mg base 1 "_law_draws" e7 (au K m7))(L:Def P w K mg base 1 "_law_knots" iP (au K zI))(G:Def P w K mg base 1 "_law_words" fV (au K rP))(I:Def P w K mg base 1 "_law_marks" fW (au K rS)):Def P w K mg base 2 "_law_rows" kH (au K DG):=by
 refine cD F gc (λds S Q h=>?_) (λf cdv A outer s H E U=>?_)
 ·obtain⟨z,rfl,_⟩:=h;rfl
 ·refine⟨_,(Ux (UD 2 gc.nd (UK O U (Uv (Uu 0) (Uv (UB UQ (UB UQ (UB UQ (UM (Uw Uy)) (UB U5 (UM (Uw Uy)) Uy)) (UM (Uv (UB UQ (Uu 1) Uy) UA))) (UB U5 (UM (Uv Uy (Uv Uy (Uw Uy)))) (Uu 1))) UA)))) (Ux (UD 3 gc.nd (M.eV M.u7 (M.jY L (U.mono (by decide)) (by rfl)) M.iZ (Vw (UB UQ Uy (UC (Uu 2)))))) (Ux (UD 4 gc.nd (UY M.fR)) (Ux (UW PassesOwn.never rfl (Vh (by rfl) T.range (Uv (UO UZ T.len (Uw (Uu 3))) UA)) (UI 5 gc.nd) (Uz (M.gW (dW U) (Uu 4) (US (Uu 3) (Uu 5)) (Vc ["_law_j","_law_ds","_law_k"] [none,some 2,some 5] (Vh (by rfl) T.range (Uw Uy)) (λ_ _ _ _=>(Vz (UH (UR U) (UB UU (UB Vu (US (Uu 1) (UB UQ Uy (Uu 2))) (UB UQ Uy (Uu 0))) Uy) Uy (aK _)))) (λ_ _ _ _=>(US (M.jY I (U.mono (by decide)) (by rfl)) (Uu 0)))) rfl))) (Ux (UD 6 gc.nd (UY M.fQ)) (Ux (UW PassesOwn.never rfl (Vh (by rfl) T.range (Uv (UC (Uu 2)) UA)) (UI 7 gc.nd) (Ux (UD 8 gc.nd (US (Uu 3) (UB UU (US (Uu 2) (UB UQ Uy (UB U5 Uy (Uu 7)))) (UO UZ T.len (Uw (Uu 3)))))) (Ux (UD 9 gc.nd (US (Uu 3) (UB UU (US (Uu 2) (UB UQ Uy (UB U5 Uy (Uu 7)))) (UO UZ T.len (Uw (Uu 3)))))) (Uz (M.gi U (Uu 6) (UJ (Uv (Uu 8) (Uv (US (M.jY G (U.mono (by decide)) (by rfl)) (US (Uu 2) (UB UQ Uy (UB U5 Uy (Uu 7))))) (Uw (Uu 9))))) UX rfl))))) (Uz (UE (M.To (UJ (Uv (Uu 4) (Uv (U1 (M.IZ U) T.list (Uw (Uu 6))) UA)))))))))))),λds S Q h=>?_⟩;obtain⟨z,rfl,q⟩:=h;have e0:aH Bf [.int z,.int 6]=[some (.int z),some (.int 6),none,none,none,none,none,none,none,none]:=rfl;rw[e0];refine dR λN h=>?_;push_cast[CF];have er:[D.int 6]++(zcc (6:Int).toNat [D.int 4]).flatten++[D.int (6+1)]++(zcc (6:Int).toNat [D.int 6,D.int 3,D.int 6]).flatten=nL SK:=rfl;rw[er];refine⟨sz rfl,sz rfl,by decide,by decide,sz rfl,sz rfl,sz rfl,sz rfl,sz rfl,by decide,by decide,sz rfl,sz rfl,z,SK,rfl,by decide,by decide,λys hl hlt=>?_⟩;refine h _ _ ?_;clear h;have ya:∀i,i<26->∃a,ys[i]? =some a/\∀b,SK[i]? =some b->a<b:=λi X=>by
   have:i<ys.length:=by rw[hl];exact X
   exact⟨_,zak this,λb hb=>hlt i _ b (zak this) hb⟩
  obtain⟨n,hn0,hb0⟩:=ya 0 (by lia);have hb0:n<6:=hb0 6 rfl;refine dR λN h=>?_;push_cast[cU];refine⟨rfl,_,gF (i:=0) hn0,?_⟩;push_cast[true_and];have ek:Vl (KN.map D.str) none (some (1+(n:Int)))=(KN.take (n+1)).map D.str:=by
   rcases(by lia:n=0∨n=1∨n=2∨n=3∨n=4∨n=5) with rfl|rfl|rfl|rfl|rfl|rfl<;>rfl
  rw[HP,ek];refine h _ _ ?_;clear h;have Y:(KN.take (n+1)).length=n+1:=by rw[zbr];show min _ 6=_;lia
  have kl2:(KN.take (n+1)).Nodup:=(show KN.Nodup by decide+kernel).sublist (List.take_sublist ..);have W:∀x∈KN.take (n+1),x∈KN:=λx hx=>List.mem_of_mem_take hx;generalize KN.take (n+1)=kl at Y kl2 W;refine dR λN h=>?_;push_cast[bW,tW];refine h _ _ ?_;clear h;refine dR λN0 h0=>?_;push_cast[d9,mQ,Kg];refine⟨n+1,by simp[iu,Y],by lia,by lia,?_⟩;rw[show((n+1:Nat):Int).toNat=n+1 by lia];refine bf (λrest δ S2=>∃(j:Nat)(l:List Kn)(v5:Option D),j<=n+1/\rest=(cy 0 (n+1)).drop j/\δ=[some (.int z),some (.int 6),some (.lst (nL ys)),some (.lst (kl.map D.str)),some (.loc S.length),v5,none,none,none,none]/\S2=S++[some (.dct (gJ l) (C7 l))]/\l.length=j/\nms l=kl.take j/\∀k∈l,k.2.length<=2/\∀m∈k.2,m∈MK) ?_ ?_ _ _ _ ⟨0,[],none,zcL _,rfl,rfl,rfl,rfl,rfl,by simp⟩
  ·rintro δ S2 ⟨j,l,v5,hj,U,rfl,rfl,g1,g2,g3⟩;obtain rfl:j=n+1:=by
    have:=congrArg zcJ U;rw[zbs,Iu] at this;simp at this;lia
   rw[<-Y,zbv] at g2;refine⟨trivial,h0 _ _ ?_⟩;clear h0;obtain⟨n7,hn7,hb7⟩:=ya 7 (by lia);have hb7:n7<7:=hb7 7 rfl;refine dR λN h=>?_;push_cast[bW,tV];refine h _ _ ?_;clear h;refine dR λN0 h0=>?_;push_cast[d9,mQ,cU];refine⟨_,gF (i:=7) hn7,_,rfl,by lia,by lia,?_⟩;rw[show((n7:Nat):Int).toNat=n7 by lia,zbc];have hks:∀k∈l,k.1∈KN:=λk Z=>W _ (by rw[<-g2];exact zcw.mpr ⟨k,Z,rfl⟩);have at5:∀a b:MO,(S++[some a,some b])[S.length]? =some (some a):=λa b=>by simp
   have at6:∀a b:MO,(S++[some a,some b])[S.length+1]? =some (some b):=λa b=>by rw[zab (by lia)];simp
   have P1:∀a b c:MO,(S++[some a,some b]).set (S.length+1) (some c)=S++[some a,some c]:=λa b c=>by rw[zau _ _ (by lia)];simp
   have Sy:∀a b:MO,(S++[some a,some b]).set S.length none=S++[none,some b]:=λa b=>by rw[zau _ _ (zcK _)];simp
   rw[show zcJ (S++[some (MO.dct (gJ l) (C7 l))])=S.length+1 by simp];refine bf (λrest δ S2=>∃(j:Nat)(v:List Ti)(v7 v8 v9:Option D),j<=n7/\rest=(cy 0 n7).drop j/\δ=[some (.int z),some (.int 6),some (.lst (nL ys)),some (.lst (kl.map D.str)),some (.loc S.length),v5,some (.loc (S.length+1)),v7,v8,v9]/\S2=S++[some (.dct (gJ l) (C7 l)),some (nO w (v.map T3))]/\v.length<=j/\v.Nodup/\∀t∈v,t.1∈nms l/\t.2.2∈nms l/\t.2.1∈W3) ?_ ?_ _ _ _ ⟨0,[],none,none,none,zcL _,rfl,rfl,rfl,zcK _,.nil,by simp⟩
   ·rintro δ S2 ⟨j,v,v7,v8,v9,hj,U,rfl,rfl,t1,t2,t3⟩;refine⟨trivial,h0 _ _ ?_⟩;push_cast[Gs];refine⟨S.length+1,_,rfl,at6 _ _,by rw[zbK];lia,sz rfl,?_⟩;refine⟨S.length,gJ l,C7 l,_,rfl,at5 _ _,?_⟩;rw[Sy,show([D.loc S.length,(R.new (MO.lst (v.map T3))).d]:List D).map (sb S.length (.dct (gJ l) (C7 l)))=[.dct (gJ l) (C7 l),.lst (v.map T3)] by simp[sb,xZ,MO.d]];refine⟨.dat (jj l v),?_,λk o Z e=>.inl (by rw[zae Z] at e;exact e),?_⟩
    ·simp only[out];exact yIp (OQ S.length l v)
    ·rw[zcd];refine q l v ⟨by lia,by lia,by rw[g2];exact kl2,λk Z=>⟨hks k Z,g3 k Z⟩,t2,by lia,t3⟩
   ·rintro x rest δ S2 N' ⟨j,v,v7,v8,v9,hj,U,rfl,rfl,t1,t2,t3⟩ hN';obtain⟨h1,rfl,rfl⟩:=jP U;obtain⟨a,ha,_⟩:=ya (8+3*j) (by lia);obtain⟨b,hb,hb3⟩:=ya (9+3*j) (by lia);obtain⟨c,hc,_⟩:=ya (10+3*j) (by lia);have hb3:b<3:=by
     rcases(by lia:j=0∨j=1∨j=2∨j=3∨j=4∨j=5) with rfl|rfl|rfl|rfl|rfl|rfl<;>exact hb3 3 rfl
    refine⟨trivial,?_⟩;push_cast[CF,wo,cU];have cm:C5 3 (j:Int):=.inl (by decide);have hkl:iu (D.lst (kl.map D.str))=some (n+1):=by simp[iu,Y]
    have ex:∀u:Nat,((u:Int) % ((n+1:Nat):Int))=((u % (n+1):Nat):Int):=λu=>by lia
    have hx:∀u:Nat,u % (n+1)<kl.length:=λu=>by rw[Y];exact zcP _ (by lia)
    rw[show(8:Int)+3*(j:Int)=((8+3*j:Nat):Int) by lia,show(9:Int)+3*(j:Int)=((9+3*j:Nat):Int) by lia,show(10:Int)+3*(j:Int)=((10+3*j:Nat):Int) by lia];refine⟨cm,_,gF ha,_,hkl,?_⟩;push_cast[cU];rw[ex a];refine⟨by lia,_,yY (hx a),cm,_,gF hc,_,hkl,?_⟩;push_cast[cU];rw[ex c];refine⟨by lia,_,yY (hx c),rfl,cm,_,gF hb,?_⟩;push_cast[cU];refine QG hb3 λwd hwd=>⟨sz rfl,S.length+1,rfl,v.map T3,at6 _ _,?_⟩
    generalize eA:kl[a % (n+1)]'(hx a)=kA;generalize eC:kl[c % (n+1)]'(hx c)=kC;have mA:kA∈kl:=eA▸zby _;have mC:kC∈kl:=eC▸zby _;have okN:pS (kA,wd,kC)=true:=by
     unfold pS;rw[mj (W _ mA),uh hwd,mj (W _ mC)];rfl
    have okA:∀t∈v,pS t=true:=λt ht=>by
     obtain⟨k1,k2,k3⟩:=t3 t ht;rw[g2] at k1 k2;unfold pS;rw[mj (W _ k1),uh k3,mj (W _ k2)];rfl
    refine⟨good3 (t:=(kA,wd,kC)) okN,λk Z=>?_,by rw[zbK];lia,?_⟩
    ·obtain⟨t,ht,rfl⟩:=zcw.mp Z;exact good3 (okA t ht)
    ·rw[show D.tup [D.str kA,D.str wd,D.str kC]=T3 (kA,wd,kC) from rfl];by_cases hin:(kA,wd,kC)∈v
     ·have e9:putN (v.map T3) (T3 (kA,wd,kC))=v.map T3:=by
       unfold putN;rw[yIp (zbC.mpr ⟨T3 (kA,wd,kC),zcw.mpr ⟨_,hin,rfl⟩,yDt rfl⟩)]
      rw[e9,P1];exact hN' _ _ ⟨j+1,v,_,_,_,by lia,rfl,rfl,rfl,by lia,t2,t3⟩
     ·rw[put3 hin,P1];refine hN' _ _ ⟨j+1,v++[(kA,wd,kC)],_,_,_,by lia,rfl,rfl,rfl,by rw[zaM];show v.length+1<=_;lia,?_,λt ht=>?_⟩
      ·rw[zbf];exact⟨t2,by simp,λx hx y hy e=>hin (by rw[<-zaO.mp hy,<-e];exact hx)⟩
      ·rcases zbJ.mp ht with h|h
       ·exact t3 t h
       ·rw[zaO.mp h,g2];exact⟨mA,mC,hwd⟩
  ·rintro x rest δ S2 N' ⟨j,l,v5,hj,U,rfl,rfl,g1,g2,g3⟩ hN';obtain⟨h1,rfl,rfl⟩:=jP U;obtain⟨y,hy,_⟩:=ya (1+j) (by lia);have hjl:j<kl.length:=by lia
   refine⟨trivial,?_⟩;push_cast[pJ,cW,mQ];refine⟨by decide,by decide,?_⟩;refine b6 (α:=Nat) (P:=λ_=>True) (δ:=[none,some (.lst (nL ys)),some (.int j)]) (λz:Nat=>D.int z) (λi=>decide (((y:Int) / (1+(i:Int))) % 2=1)) (λi=>D.str (MK.getD i "")) trivial [0,1] [] _ rfl (λi X Q2 q2=>?_) (λi X Q' q'=>?_) (by decide) ?_
   ·push_cast[cU];rw[show(1:Int)+(j:Int)=((1+j:Nat):Int) by lia];refine⟨_,gF hy,?_⟩;push_cast[true_and];have hi2:i<2:=by simp only[zci,zbA,or_false] at X;lia
    exact⟨⟨by lia,by lia⟩,by decide,q2⟩
   ·push_cast[true_and];refine⟨rfl,?_⟩;simp only[zci,zbA,or_false] at X;rcases X with rfl|rfl
    ·exact⟨_,cS,q'⟩
    ·exact⟨_,dh,q'⟩
   ·rw[zbR,cU];refine⟨_,yY hjl,S.length,rfl,gJ l,C7 l,.inr kl[j],rfl,by simp,by rw[C7,zbK];lia,?_⟩;have ab:kl[j] ∉ nms l:=by
     rw[g2];intro hm;obtain⟨i,X,e⟩:=zaG hm;rw[zbr] at X;rw[List.getElem_take] at e;have:=(List.nodup_iff_pairwise_ne.mp kl2 |> zah.mp) i j (by lia) hjl (by lia);exact this e
    generalize hms:([0,1]:List Nat).filter (λi:Nat=>decide (((y:Int) / (1+(i:Int))) % 2=1))=is;have hil:is.length<=2:=by rw[<-hms];exact zav ..
    have him:∀i∈is,i<2:=λi X=>by
     rw[<-hms] at X;have:=(zbI.mp X).1;simp only[zci,zbA,or_false] at this;lia
    rw[show(is.map λi=>D.str (MK.getD i ""))=(is.map λi=>MK.getD i "").map D.str by rw[zcv];rfl,MX ab,zau _ _ (zcK _),zcD];refine hN' _ _ ⟨j+1,l++[(kl[j],is.map λi=>MK.getD i "")],_,by lia,rfl,rfl,rfl,by simp[g1],?_,λk Z=>?_⟩
    ·rw[List.take_succ_eq_append_getElem hjl,<-g2];simp[nms]
    ·rcases zbJ.mp Z with h|h
     ·exact g3 k h
     ·rw[zaO.mp h];refine⟨by rw[zbK];exact hil,λm hm=>?_⟩;obtain⟨i,X,rfl⟩:=zcw.mp hm;rcases(by have:=him i X;lia:i=0∨i=1) with rfl|rfl<;>simp[MK]
open PySem PySem.Spec L2 M M6 PyProof.Rows
noncomputable abbrev wL:List Str:=["_law_rows_here","_law_web","_law_knot","_law_one","_law_word","_law_other"]
noncomputable abbrev iM:=wL.take 1
theorem iW:av wL iM (ah (top 42)):=L2.bO
noncomputable abbrev wH:List Str:=["_law_rows_here","_law_knot","_law_found"]
noncomputable abbrev iJ:=wH.take 2
theorem zQ:av wH iJ (ah (top 43)):=L2.bO
theorem RO.Hs{ks:List Kn}{ts:List Ti}(h:RO ks ts):∀t∈ts,pS t=true:=λt m=>by
 obtain⟨h1,h2,n⟩:=h.tk t m;obtain⟨k,k1,a⟩:=zcw.mp h1;obtain⟨j,l,i⟩:=zcw.mp h2;unfold pS;rw[<-a,<-i,mj (h.nm k k1).1,uh n,mj (h.nm j l).1];rfl
theorem eZ{α:Type}{P:aN->Prop}{o:AG}{t:AT}{e:AE}{Q:List D->aN->Prop}{S:aN}(g:α->D)(c:α->Bool)(f:α->D)(en:α->bC)(j:bC->Prop)(l:P S)(m:∀a,j (en a)):∀(as:List α)(i:List D)(δ:bC),j δ->
  (∀a∈as,∀δ,j δ->∀Q:bC->aN->Prop,Q (en a) S->o (g a) δ S Q)->(∀a∈as,∀Q:Bool->aN->Prop,Q (c a) S->t (en a) S Q)->(∀a∈as,∀Q:AK,Q (.dat (f a)) S->e (en a) S Q)->i.length+as.length<=yag->Q (i++(as.filter c).map f) S->
  iy P o t e (as.map g) i δ S Q
 |[],i,δ,_,_,_,_,_,q=>⟨l,by simpa using q⟩
 |a::as,i,δ,hd,hg,ht,he,hl,q=>by
  refine⟨l,hg a (by simp) δ hd _ (ht a (by simp) _ ?_)⟩;simp only[zbq] at hl;cases n:c a with
  |true=>
   rw[yIp rfl];refine he a (by simp) _ ⟨by lia,?_⟩;refine eZ g c f en j l m as _ _ (m a) (λx h=>hg x (by simp[h])) (λx h=>ht x (by simp[h])) (λx h=>he x (by simp[h])) (by simp;lia) ?_;rw[zbD,n,yIp rfl,zcj] at q;simpa[R.d,zbc] using q
  |false=>
   rw[yIn (by decide)];refine eZ g c f en j l m as _ _ (m a) (λx h=>hg x (by simp[h])) (λx h=>ht x (by simp[h])) (λx h=>he x (by simp[h])) (by lia) ?_;rw[zbD,n,yIn (by decide)] at q;exact q
def zG(C:Addr)(W:yak):AN:=λj S Q=>∃h a,j=[jj h a]/\RO h a/\∀i,gG C W S.length i S.length h.reverse a->(∀k,k<S.length->i[k]? =S[k]?)->Q (.dat (.loc S.length)) i
theorem JQ{fdi:yap}(T:Txt K mg C fi)(F:Src K mg "_law_laid" iM (top 42))(ab:dS P w K mg base m5 1 fi fdi jb (au K (DR C w)))(ac:Binds K fdi jb [])(l:iS P w K mg base 2 C "put_knot" kJ (DI C w))(G:iS P w K mg base 2 C "put_tie" kI (DH C w)):Def P w K mg base 3 "_law_laid" iM (au K (zG C w)):=by
 refine Rr F iW (λds S Q h=>?_) (λf cdv A outer s H E o=>?_)
 ·obtain⟨i,O,rfl,_⟩:=h;rfl
 ·refine⟨_,(Ux (UD 1 iW.nd (M.om T.wV ab ac (o.mono (by decide)) (by rfl) T.mg_Web)) (Ux (UW PassesOwn.never rfl (M.sj (by rfl) T.reversed (U1 (M.sD o) T.list (Uv (UC (Uu 0)) UA))) (UI 2 iW.nd) (Uz (U0 (Vk (Uu 1) T.cl l (o.mono (by decide)) (Uv (Uu 2) (Uv (U1 M.ic T.list (Uv (Vo (dW o) (UC (Uu 0)) (Uu 2) (λ_ _=>rfl)) UA)) UA)))))) (Ux (UW PassesOwn.never rfl (UT (UC (Uu 0))) (U7 (n:=3) rfl (UL (UI 3 iW.nd) (UL (UI 4 iW.nd) (UL (UI 5 iW.nd) U6)))) (Uz (U0 (Vk (Uu 1) T.cl G (o.mono (by decide)) (Uv (Uu 3) (Uv (Uu 4) (Uw (Uu 5)))))))) (Uz (UE (Uu 1)))))),λds S Q h=>?_⟩;obtain⟨i,O,rfl,a,q⟩:=h;have e0:aH wL [jj i O]=[some (jj i O),none,none,none,none,none]:=rfl;rw[e0];push_cast[Lv,d9];refine⟨S.length,rfl,by rw[zaM];rfl,A7,λS1 X1 k1 l1=>⟨rfl,?_⟩⟩;push_cast[Fz,ze,jj,aE,cS];refine⟨_,⟨_,rfl⟩,_,rfl,?_⟩;rw[show(gJ i).map kD=i.map (λk=>D.str k.1) by unfold gJ;rw[zcv];rfl,<-List.map_reverse];have gw:∀r∈i,ki (gJ i) (i.map λk=>D.lst (k.2.map D.str)) (.inr r.1)=some (.lst (r.2.map D.str)):=λr o=>by
   have hm:r.1∈nms i:=zcw.mpr ⟨r,o,rfl⟩;rw[tu hm,<-sH a.nd (cA hm) o rfl]
  have Y:∀r,r∈i.reverse↔r∈i:=λr=>zbE;have hnr:(nms i.reverse).Nodup:=by unfold nms;rw[List.map_reverse];exact List.pairwise_reverse.mpr (a.nd.imp λh=>Ne.symm h)
  have hk6:=a.k6;rw[<-List.length_reverse] at hk6;generalize i.reverse=kr at Y hnr hk6 q;refine bf (λrest W S'=>∃(done I:List Kn)(v2:Option D),rest=I.map (λk=>D.str k.1)/\done++I=kr/\W=[some (jj i O),some (.loc S.length),v2,none,none,none]/\gG C w S.length S' S.length done []/\∀k,k<S.length->S'[k]? =S[k]?) ?_ ?_ _ _ _ ⟨[],kr,none,rfl,rfl,rfl,X1,λk L=>by rw[k1 k L,zae L]⟩
  ·rintro W S2 ⟨done,I,v2,v,u,rfl,X2,k2⟩;have:I=[]:=by cases I with|nil=>rfl|cons _ _=>simp at v
   subst this;rw[zbL] at u;subst u;refine⟨trivial,?_⟩;push_cast[jj,aE,dh,dw,bZ,d9];refine bf (λrest W S'=>∃(U rt:List Ti)(v4 v5 v6:Option D),rest=rt.map T3/\U++rt=O/\W=[some (jj i O),some (.loc S.length),v2,v4,v5,v6]/\gG C w S.length S' S.length done U/\∀k,k<S.length->S'[k]? =S[k]?) ?_ ?_ _ _ _ ⟨[],O,none,none,none,rfl,rfl,rfl,X2,k2⟩
   ·rintro W S3 ⟨U,rt,v4,v5,v6,v,u,rfl,X3,k3⟩;have:rt=[]:=by cases rt with|nil=>rfl|cons _ _=>simp at v
    subst this;rw[zbL] at u;subst u;exact⟨trivial,_,rfl,q S3 X3 k3⟩
   ·rintro x xs W S3 N ⟨U,rt,v4,v5,v6,v,u,rfl,X3,k3⟩ hN;cases rt with
    |nil=>simp at v
    |cons r rt=>
     rw[zcj] at v;injection v with v e3;subst v;subst e3;obtain⟨m,t,e,ns,X⟩:=X3;have o:r∈O:=by rw[<-u];simp
     have j:=a.tn;rw[<-u,zbf] at j;have Z:r ∉ U:=λz=>j.2.2 r z r (by simp) rfl;have htl:=a.tl;have:U.length<300:=by have:=congrArg zcJ u;rw[zaM] at this;lia
     have nmd:∀y,y∈nms i->y∈nms done:=λy hy=>by
      obtain⟨k,L,rfl⟩:=zcw.mp hy;exact zcw.mpr ⟨k,(Y k).mpr L,rfl⟩
     refine⟨trivial,_,rfl,rfl,_,_,rfl,_,_,rfl,_,_,rfl,rfl,?_⟩;exact dG rfl X.at_ (by decide+kernel) ⟨_,rfl,_,rfl,_,rfl,S.length,r,S.length,done,U,rfl,⟨m,t,e,ns,X⟩,nmd _ (a.tk r o).1,nmd _ (a.tk r o).2.1,Z,this,a.Hs r o,λS4 X4 k4 l4=>hN _ _ ⟨U++[r],rt,_,_,_,rfl,by rw[<-u];simp,rfl,X4,λk L=>(k4 k L).trans (k3 k L)⟩⟩
  ·rintro x xs W S2 N ⟨done,I,v2,v,u,rfl,X2,k2⟩ hN;cases I with
   |nil=>simp at v
   |cons r I=>
    rw[zcj] at v;injection v with v e3;subst v;subst e3;obtain⟨m,t,e,ns,X⟩:=X2;have o:r∈i:=(Y r).mp (by rw[<-u];simp);have j:=hnr;rw[<-u] at j;have j:(done.map (·.1)++(r::I).map (·.1)).Nodup:=by rw[<-zbS];exact j
    rw[zbf] at j;have Z:r.1 ∉ nms done:=λz=>j.2.2 r.1 z r.1 (by simp) rfl;have hkl:done.length<40:=by have:=congrArg zcJ u;rw[zaM] at this;lia
    have hm:=a.nm r o;refine⟨trivial,?_⟩;push_cast[true_and];refine dG rfl X.at_ (by decide+kernel) ?_;push_cast[kB,gA,jj,aE,cS];refine⟨_,_,rfl,_,rfl,_,gw r o,?_⟩;push_cast[true_and];exact⟨S.length,r.1,r.2,S.length,done,[],rfl,⟨m,t,e,ns,X⟩,Z,hkl,by lia,mj hm.1,λm hm'=>qJ (hm.2.2 m hm'),λS4 X4 k4 l4=>hN _ _ ⟨done++[r],I,_,rfl,by rw[<-u];simp,rfl,X4,λk L=>(k4 k L).trans (k2 k L)⟩⟩
noncomputable def dD(ts:List Ti)(k:Str):List Ti:=(ts.filter λt=>decide (t.1=k)).map (λt=>(("on":Str),t.2.1,t.2.2))++(ts.filter λt=>decide (t.2.2=k)).map (λt=>(("back":Str),t.2.1,t.1))
def rQ:AN:=λj S Q=>∃i a k,j=[jj i a,.str k]/\RO i a/\gp k=true/\∀h:List Ti,h.Perm (dD a k)->Q (.new (.lst (h.map T3))) S
theorem JM(T:Txt K mg C fi)(F:Src K mg "_law_steps" iJ (top 43)):Def P w K mg base 1 "_law_steps" iJ (au K rQ):=by
 refine Rr F zQ (λds S Q h=>?_) (λf cdv A outer s H E O=>?_)
 ·obtain⟨I,j,k,rfl,_⟩:=h;rfl
 ·refine⟨_,(Ux (M.eT (i:=2) zQ.nd rfl rfl (N:=["_law_one","_law_word","_law_other","_law_knot"]) (caps:=[none,none,none,some 1]) (rz (by decide+kernel)) (by rfl) (by rfl) rfl (UT (UC (Uu 0))) (λ_ _ _ _=>(U7 (n:=3) rfl (UL (Vm (i:=0) (by decide+kernel:List.Nodup (["_law_one","_law_word","_law_other","_law_knot"]:List Str)) rfl (Or.inl rfl)) (UL (Vm (i:=1) (by decide+kernel:List.Nodup (["_law_one","_law_word","_law_other","_law_knot"]:List Str)) rfl (Or.inl rfl)) (UL (Vm (i:=2) (by decide+kernel:List.Nodup (["_law_one","_law_word","_law_other","_law_knot"]:List Str)) rfl (Or.inl rfl)) U6))))) (λ_ _ _ _=>(Vz (UH (UR O) (Uu 0) (Uu 3) (aK _)))) (λ_ _ _ _=>(UJ (Uv UG (Uv (Uu 1) (Uw (Uu 2))))))) (Uz (UE (UO (M.IW O) T.sorted (Uv (UB UQ (Uu 2) (M.nh (N:=["_law_one","_law_word","_law_other","_law_knot"]) (caps:=[none,none,none,some 1]) (rz (by decide+kernel)) (by rfl) (by rfl) rfl (UT (UC (Uu 0))) (λ_ _ _ _=>(U7 (n:=3) rfl (UL (Vm (i:=0) (by decide+kernel:List.Nodup (["_law_one","_law_word","_law_other","_law_knot"]:List Str)) rfl (Or.inl rfl)) (UL (Vm (i:=1) (by decide+kernel:List.Nodup (["_law_one","_law_word","_law_other","_law_knot"]:List Str)) rfl (Or.inl rfl)) (UL (Vm (i:=2) (by decide+kernel:List.Nodup (["_law_one","_law_word","_law_other","_law_knot"]:List Str)) rfl (Or.inl rfl)) U6))))) (λ_ _ _ _=>(Vz (UH (UR O) (Uu 2) (Uu 3) (aK _)))) (λ_ _ _ _=>(UJ (Uv UG (Uv (Uu 1) (Uw (Uu 0)))))))) UA))))),λds S Q h=>?_⟩;obtain⟨I,j,k,rfl,o,ok,q⟩:=h;have e0:aH wH [jj I j,.str k]=[some (jj I j),some (.str k),none]:=rfl;rw[e0];push_cast[jj,aE,dh,bZ,cW,dw];have htl:=o.tl;have y:∀(t:Ti)(x:bC),(∃a b c,x=[a,b,c,some (.str k)])->∀v:bC->aN->Prop,v [some (.str t.1),some (.str t.2.1),some (.str t.2.2),some (.str k)] S->rG 3 (iD (bV 0) (iD (bV 1) (iD (bV 2) rH))) (T3 t) x S v:=by
   rintro t _ ⟨a,b,c,rfl⟩ v m;exact⟨_,rfl,rfl,_,_,rfl,_,_,rfl,_,_,rfl,rfl,m⟩
  refine eZ T3 (λt=>decide (t.1=k)) (λt=>T3 ("on",t.2.1,t.2.2)) (λt=>[some (.str t.1),some (.str t.2.1),some (.str t.2.2),some (.str k)]) (λx=>∃a b c,x=[a,b,c,some (.str k)]) trivial (λt=>⟨_,_,_,rfl⟩) j [] _ ⟨_,_,_,rfl⟩ (λt _=>y t) (λt l v m=>?_) (λt l v m=>?_) (by rw[yaf];show 0+j.length<=_;lia) ?_
  ·push_cast[true_and];exact m
  ·push_cast[true_and];exact⟨sz rfl,m⟩
  refine eZ T3 (λt=>decide (t.2.2=k)) (λt=>T3 ("back",t.2.1,t.1)) (λt=>[some (.str t.1),some (.str t.2.1),some (.str t.2.2),some (.str k)]) (λx=>∃a b c,x=[a,b,c,some (.str k)]) trivial (λt=>⟨_,_,_,rfl⟩) j [] _ ⟨_,_,_,rfl⟩ (λt _=>y t) (λt l v m=>?_) (λt l v m=>?_) (by rw[yaf];show 0+j.length<=_;lia) ?_
  ·push_cast[true_and];exact m
  ·push_cast[true_and];exact⟨sz rfl,m⟩
  rw[zbR,zbR];have Z:=zav (λt:Ti=>decide (t.1=k)) j;have Y:=zav (λt:Ti=>decide (t.2.2=k)) j;have X:∀t∈j.filter (λt:Ti=>decide (t.1=k)),pS t=true:=λt l=>o.Hs t (zbI.mp l).1;have W:∀t∈j.filter (λt:Ti=>decide (t.2.2=k)),pS t=true:=λt l=>o.Hs t (zbI.mp l).1;have eq:(j.filter λt:Ti=>decide (t.1=k)).map (λt=>T3 ("on",t.2.1,t.2.2))++(j.filter λt:Ti=>decide (t.2.2=k)).map (λt=>T3 ("back",t.2.1,t.1))=(dD j k).map T3:=by
   unfold dD;rw[zbS,zcv,zcv];rfl
  refine⟨by rw[zbK,zbK,yaf];exact zcy (Nat.add_le_add Z Y) (by lia),_,(dD j k).map T3,rfl,by rw[eq];rfl,DV ?_,?_,λks' hp G=>?_⟩
  ·intro t l;unfold dD at l;rcases zbJ.mp l with l|l
   ·obtain⟨u,G,rfl⟩:=zcw.mp l;have:=X u G;unfold pS at this⊢;rw[zbG,zbG] at this⊢;exact⟨⟨show gp "on"=true by decide+kernel,this.1.2⟩,this.2⟩
   ·obtain⟨u,G,rfl⟩:=zcw.mp l;have:=W u G;unfold pS at this⊢;rw[zbG,zbG] at this⊢;exact⟨⟨show gp "back"=true by decide+kernel,this.1.2⟩,this.1.1⟩
  ·unfold dD;rw[zbK,zaM,zbK,zbK];lia
  ·obtain⟨U,L,rfl⟩:=LK hp;exact q U L
open PySem PySem.Spec L2 M M6 PyProof.Rows
noncomputable abbrev Bd:List Str:=["_law_rows_here","_law_knot","_law_most","_law_cap","_law_found","_law_last","_law_k","_law_longer","_law_steps_here","_law_here"]
noncomputable abbrev kF:=Bd.take 4
theorem fF:av Bd kF (ah (top 50)):=L2.bO
def LZ(ks:List Kn)(ss:List Sp):Prop:=∀s∈ss,s.2.2∈nms ks/\gp s.2.1=true
noncomputable def kZ(ss:List Sp):D:=.tup (ss.map iV)
noncomputable def xj(u:Ti):Sp:=(decide (u.1="on"),u.2.1,u.2.2)
theorem RT{u:Ti}(h:u.1="on"∨u.1="back"):T3 u=iV (xj u):=by
 obtain⟨a,b,c⟩:=u;rcases h with h|h
 ·have h:a="on":=h;subst h;simp[T3,iV,xj,side]
 ·have h:a="back":=h;subst h;have:decide (("back":Str)="on")=false:=by decide+kernel
  simp only[T3,iV,xj,this];simp[side]
theorem DB{ks:List Kn}{ts:List Ti}{k:Str}(i:RO ks ts){u:Ti}(h:u∈dD ts k):(u.1="on"∨u.1="back")/\u.2.2∈nms ks/\gp u.2.1=true:=by
 unfold dD at h;rcases zbJ.mp h with h|h
 ·obtain⟨t,a,rfl⟩:=zcw.mp h;have:=i.tk t (zbI.mp a).1;exact⟨.inl rfl,this.2.1,uh this.2.2⟩
 ·obtain⟨t,a,rfl⟩:=zcw.mp h;have:=i.tk t (zbI.mp a).1;exact⟨.inr rfl,this.1,uh this.2.2⟩
theorem BI{ks:List Kn}{ts:List Ti}{k:Str}(a:RO ks ts):(dD ts k).length<=12:=by
 unfold dD;have i:=zav (λt:Ti=>decide (t.1=k)) ts;have h:=zav (λt:Ti=>decide (t.2.2=k)) ts;have:=a.tl;rw[zaM,zbK,zbK];lia
theorem Gh{a i:List D}{Q:AK}(h:a.length+i.length<=yag)(q:Q (.dat (.tup (a++i))) S):Bc (.tup a) (.tup i) S Q:=by
 cases a with
 |nil=>exact q
 |cons x a=>exact⟨List.cons_ne_nil _ _,h,q⟩
theorem Ji{ss:List Sp}{s:Sp}:fB ((ss++[s]).map iV) (-1)=some (iV s):=by
 unfold fB Hw;rw[zbK,zaM,yIn (by decide),yIp (by simp;lia)];show((ss++[s]).map iV)[(-1+((ss.length+1:Nat):Int)).toNat]? =_;rw[show(-1+((ss.length+1:Nat):Int)).toNat=ss.length by lia,zba,zab (zcK _)];simp
theorem Fw{ks:List Kn}{ts:List Ti}(a:RO ks ts)(h:x∈nms ks):gp x=true:=by
 obtain⟨k,i,rfl⟩:=zcw.mp h;exact mj (a.nm k i).1
theorem Ny{ks:List Kn}{ts:List Ti}(j:RO ks ts){ss:List Sp}{Q:AK}(h:LZ ks ss)(n:ss.length<=50)(q:Q (.dat (.bl (!decide (ss=[])))) S):Lu (kZ ss) (.tup []) S Q:=by
 unfold Lu kZ;rw[jL,jL];have i:nN 2 (.tup (ss.map iV))=true:=by
  simp only[nN,zbG,zbu,zbK];refine⟨yDt (by lia),λd hd=>?_⟩;obtain⟨s,l,rfl⟩:=zcw.mp hd;have h1:=h s l;have m:gp (side s.1)=true:=by cases s.1<;>decide+kernel
  simp only[iV,nN,zcl,List.all_nil,m,h1.2,Fw j h1.1,zcr];rfl
 refine⟨di i (by decide),rfl,?_⟩;have:PyData.eqv (py (.tup (ss.map iV))) (py (.tup []))=decide (ss=[]):=by
  cases ss with
  |nil=>rfl
  |cons a r=>simp[py,dZ,PyData.eqv,PyData.eqvAll]
 rw[this];exact q
def DE:AN:=λj S Q=>∃a h k,j=[jj a h,.str k,.int 3,.int 12]/\RO a h/\k∈nms a/\∀ws:List (List Sp),(∀i∈ws,LZ a i/\i.length<=3)->ws.length<=40->Q (.new (.lst (ws.map (k7 k)))) S
theorem Oj(T:Txt K mg C fi)(F:Src K mg "_law_ways" kF (top 50))(m:Def P w K mg base 1 "_law_steps" iJ (au K rQ)):Def P w K mg base 2 "_law_ways" kF (au K DE):=by
 refine cD F fF (λds S Q h=>?_) (λf cdv A outer s H E G=>?_)
 ·obtain⟨t,Y,k,rfl,_⟩:=h;rfl
 ·refine⟨_,(Ux (UD 4 fF.nd (UM (Uw (UJ UA)))) (Ux (UD 5 fF.nd (UM (Uw (UJ UA)))) (Ux (UW PassesOwn.never rfl (Vh (by rfl) T.range (Uw (Uu 2))) (UI 6 fF.nd) (Ux (UD 7 fF.nd (UY (UM UA))) (Ux (UW PassesOwn.never rfl (UT (Uu 5)) (UI 8 fF.nd) (Ux (UD 9 fF.nd (Uu 1)) (Ux (UN (UH (Vj G) (Uu 8) (UJ UA) (aK _)) (Uz (UD 9 fF.nd (UC (US (Uu 8) (M.qE M.Ak Uy))))) UP) (Uz (U0 (Vb PySem.F.plainAttrs_list PySem.F.slot_list_extend PySem.F.type_list_extend M.j7 (Uu 7) (Uv (Vc ["_law_step","_law_steps_here"] [none,some 8] (UT (UK m G (Uv (Uu 0) (Uw (Uu 9))))) (λ_ _ _ _=>Vi) (λ_ _ _ _=>(UB M.E7 (Uu 1) (UJ (Uw (Uu 0)))))) UA))))))) (Ux (UD 5 fF.nd (M.eV M.u7 (Uu 7) M.iZ (Vw (Uu 3)))) (Uz (UD 4 fF.nd (UB M.E7 (Uu 4) (Uu 5)))))))) (Uz (UE (Vc ["_law_steps_here","_law_knot"] [none,some 1] (UT (Uu 4)) (λ_ _ _ _=>Vi) (λ_ _ _ _=>(UJ (Uv (Uu 1) (Uw (Uu 0))))))))))),λds S Q h=>?_⟩;obtain⟨t,Y,k,rfl,ro,hk,q⟩:=h;have e0:aH Bd [jj t Y,.str k,.int 3,.int 12]=[some (jj t Y),some (.str k),some (.int 3),some (.int 12),none,none,none,none,none,none]:=rfl;rw[e0];push_cast[d9,mQ];refine⟨sz rfl,sz rfl,sz rfl,sz rfl,by decide,by decide,?_⟩;refine bf (λrest δ S2=>∃(j:Nat)(v L:List (List Sp))(T:aN)(v6 v7 W U:Option D),j<=3/\rest=(cy 0 3).drop j/\δ=[some (jj t Y),some (.str k),some (.int 3),some (.int 12),some (.lst (v.map kZ)),some (.lst (L.map kZ)),v6,v7,W,U]/\S2=S++T/\(∀i∈v,LZ t i/\i.length<=j)/\(∀i∈L,LZ t i/\i.length<=j)/\v.length<=1+12*j/\L.length<=12) ?_ ?_ _ _ _ ⟨0,[[]],[[]],[],none,none,none,none,by lia,rfl,rfl,by simp,by simp[LZ],by simp[LZ],by simp,by simp⟩
  ·rintro δ S2 ⟨j,v,L,T,v6,v7,W,U,hj,G,rfl,rfl,h1,h2,h3,h4⟩;refine⟨trivial,?_⟩;push_cast[cW,dw,bZ];refine b6 (α:=List Sp) (δ:=[none,some (.str k)]) kZ (λ_=>true) (k7 k) trivial v [] _ rfl (λz hz Q2 q2=>q2) (λz hz Q' q'=>?_) (by rw[yaf];show 0+v.length<=_;lia) ?_
   ·push_cast[true_and];exact⟨sz rfl,q'⟩
   ·rw[zbR,zaH.mpr λ_ _=>rfl];refine nW (cL _ _ (cZ λi _=>?_)) (q v (λi O=>⟨(h1 i O).1,by have:=(h1 i O).2;lia⟩) (by lia));simp only[k7,bY,bH,cZ (f:=iV) (l:=i) λ_ _=>rfl,zcq]
  ·rintro x rest δ S2 N' ⟨j,v,L,T,v6,v7,W,U,hj,G,rfl,rfl,h1,h2,h3,h4⟩ hN';obtain⟨j3,rfl,rfl⟩:=jP G;refine⟨trivial,?_⟩;push_cast[d9,dw,bZ,bW,wu,jE];refine⟨zcL _,?_⟩;generalize hB:S++T=B;have at7:∀o:MO,(B++[some o])[B.length]? =some (some o):=λo=>by simp
   have Sx:∀o o':MO,(B++[some o]).set B.length (some o')=B++[some o']:=λo o'=>by rw[zau _ _ (zcK _)];simp
   have P6:∀o:MO,aT (B++[some o]) (.loc B.length)=o.d:=λo=>by simp only[aT,at7]
   refine bf (λrest δ S2=>∃(q1 q2 n:List (List Sp))(W U:Option D),rest=q2.map kZ/\q1++q2=L/\δ=[some (jj t Y),some (.str k),some (.int 3),some (.int 12),some (.lst (v.map kZ)),some (.lst (L.map kZ)),some (.int j),some (.loc B.length),W,U]/\S2=B++[some (.lst (n.map kZ))]/\(∀i∈n,LZ t i/\i.length<=j+1)/\n.length<=12*q1.length) ?_ ?_ _ _ _ ⟨[],L,[],W,U,rfl,rfl,rfl,rfl,by simp,by simp⟩
   ·rintro δ S3 ⟨q1,q2,n,W,U,G,he,rfl,rfl,g1,g2⟩;have:q2=[]:=by cases q2 with
     |nil=>rfl
     |cons _ _=>simp at G
    subst this;rw[zbL] at he;subst he;refine⟨trivial,?_⟩;push_cast[true_and];have el:zc (.loc B.length) none (some 12) (B++[some (.lst (n.map kZ))])=λQ=>Q (.new (.lst ((n.take 12).map kZ))) (B++[some (.lst (n.map kZ))]):=by
     funext Q;unfold zc;rw[P6];show Q (.new (.lst (Vl (n.map kZ) none (some 12)))) _=_;rw[show Vl (n.map kZ) none (some 12)=(n.take 12).map kZ by
      unfold Vl HT.l6;simp[zcm]]
    rw[el];refine⟨by rw[zbK,zbK,zbr,yaf];lia,?_⟩;rw[<-zbS];refine hN' _ _ ⟨j+1,v++n.take 12,n.take 12,T++[some (.lst (n.map kZ))],_,_,_,_,j3,rfl,rfl,by rw[<-hB,zbc],λi O=>?_,λi O=>g1 i (List.mem_of_mem_take O),by rw[zaM,zbr];lia,by rw[zbr];lia⟩;rcases zbJ.mp O with h|h
    ·exact⟨(h1 i h).1,by have:=(h1 i h).2;lia⟩
    ·exact g1 i (List.mem_of_mem_take h)
   ·rintro x rest δ S3 N2 ⟨q1,q2,n,W,U,G,he,rfl,rfl,g1,g2⟩ hN2;cases q2 with
    |nil=>simp at G
    |cons r q2=>
     rw[zcj] at G;injection G with e1 e2;subst e1;subst e2;have Z:=h2 r (by rw[<-he];simp);have hql:q1.length<12:=by have:=congrArg zcJ he;simp at this;lia
     refine⟨trivial,?_⟩;push_cast[true_and];have key:∀(I:Str),I∈nms t->ue "list" A9 (iE 7) (jo (cW [none,some 8] (dw (aCall rQ (jo (iE 0) (jo (iE 9) jE)))) (bV 0) wm (Kf Bc (iE 1) (Kd (jo (iE 0) jE)))) jE)
       [some (jj t Y),some (.str k),some (.int 3),some (.int 12),some (.lst (v.map kZ)),some (.lst (L.map kZ)),some (.int j),some (.loc B.length),some (kZ r),some (.str I)] (B++[some (.lst (n.map kZ))])
       λx S1=>N2 [some (jj t Y),some (.str k),some (.int 3),some (.int 12),some (.lst (v.map kZ)),some (.lst (L.map kZ)),some (.int j),some (.loc B.length),some (kZ r),some (.str I)] S1:=λI hm=>by
      push_cast[ue,cW,dw];refine⟨by rw[P6];rfl,t,Y,I,rfl,ro,Fw ro hm,λX hp=>?_⟩;have hu:∀u∈X,(u.1="on"∨u.1="back")/\u.2.2∈nms t/\gp u.2.1=true:=λu h=>DB ro (hp.mem_iff.mp h);have hul:X.length<=12:=by rw[hp.length_eq];exact BI ro
      have eu:X.map T3=(X.map xj).map iV:=by
       rw[zcv];exact zaF λu h=>RT (hu u h).1
      have hsp:∀s∈X.map xj,s.2.2∈nms t/\gp s.2.1=true:=λs O=>by
       obtain⟨u,h,rfl⟩:=zcw.mp O;exact(hu u h).2
      have hvl:(X.map xj).length<=12:=by rw[zbK];exact hul
      show bZ _ _ (D.lst (X.map T3));rw[eu];generalize X.map xj=vs at hsp hvl;refine b6 (α:=Sp) (δ:=[none,some (kZ r)]) iV (λ_=>true) (λs=>kZ (r++[s])) trivial vs [] _ rfl (λz hz Q2 q2=>q2) (λz hz Q' q'=>?_) (by rw[yaf];show 0+vs.length<=_;lia) ?_
      ·push_cast[true_and];refine⟨sz rfl,Gh (by rw[zbK,yaf];show r.length+1<=_;lia) ?_⟩;rw[show r.map iV++[iV z]=(r++[z]).map iV by simp];exact q'
      ·rw[zbR,zaH.mpr λ_ _=>rfl];refine⟨B.length,_,_,_,rfl,rfl,at7 _,.inl rfl,by simp only[zbK];rw[yaf];lia,?_⟩;rw[Sx,show n.map kZ++vs.map (λs=>kZ (r++[s]))=(n++vs.map λs=>r++[s]).map kZ by rw[zbS,zcv];rfl];refine hN2 _ _ ⟨q1++[r],q2,_,_,_,rfl,by rw[zbc];exact he,rfl,rfl,λi O=>?_,by simp only[zaM,zbK,zbq,zbP];lia⟩;rcases zbJ.mp O with h|h
       ·exact g1 i h
       ·obtain⟨z,hz,rfl⟩:=zcw.mp h;refine⟨λy hy=>?_,by rw[zaM];show r.length+1<=_;lia⟩;rcases zbJ.mp hy with h|h
        ·exact Z.1 y h
        ·rw[zaO.mp h];exact hsp z hz
     refine⟨zcL _,Ny ro Z.1 (by lia) ⟨_,rfl,fc (λhb=>?_) (λhb=>key k hk)⟩⟩;have hne:r≠[]:=by simpa using hb
     obtain⟨l,y,e⟩:∃l y,r=l++[y]:=by
      rcases List.eq_nil_or_concat r with z|⟨l,a,z⟩
      ·exact absurd z hne
      ·exact⟨l,a,by simpa using z⟩
     refine⟨iV y,by rw[e];exact Ji,?_⟩;push_cast[iV,aE,at2];exact key y.2.2 (Z.1 y (by rw[e];simp)).1
open PySem L2 M M6
noncomputable abbrev t6:List Str:=["_law_cell","_law_most","_law_ds","_law_many","_law_ends","_law_moves","_law_j","_law_one","_law_way","_law_number","_law_other"]
noncomputable abbrev kM:=t6.take 2
theorem fG:av t6 kM (ah (top 51)):=L2.bO
theorem oH{m:Mv}(h:nH n m):cX (vD m):=by
 obtain⟨h1,h2,a⟩:=Aq h.2.1;refine⟨by simp only[vD,bY,bH,a,zcq],?_,?_,_,rfl⟩
 ·simp only[vD,py,dZ,bJ,ck,h1,zcq]
 ·simp only[vD,py,dZ,PyData.depth,PyData.depthAll];lia
theorem N9{mv:List Mv}{m:Mv}(h:m∈mv):((mv.map vD).any λj=>decide (py j=py (vD m)))=true:=zbC.mpr ⟨vD m,zcw.mpr ⟨m,h,rfl⟩,yDt rfl⟩
theorem MW(mv:List Mv)(m:Mv):∃mv',putN (mv.map vD) (vD m)=mv'.map vD/\(mv'=mv∨mv'=mv++[m]/\m ∉ mv):=by
 unfold putN;split
 ·exact⟨mv,rfl,.inl rfl⟩
 ·next h=>exact⟨mv++[m],by rw[zbS];rfl,.inr ⟨rfl,λa=>h (N9 a)⟩⟩
theorem jO{a k:Nat}(h:k<=n):HT.l6 n a (some (k:Int))=k:=by
 rw[HT.jO];lia
noncomputable def SS:List Nat:=[6,6,8,18]++(zcc 6 (zcc 3 [6,5,16,6]).flatten).flatten
theorem SS4:∀j,j<18->SS[4+4*j]? =some 6/\SS[4+4*j+1]? =some 5/\SS[4+4*j+2]? =some 16/\SS[4+4*j+3]? =some 6:=by decide
theorem Rq{a b c d:Nat}(h1:ys[i]? =some a)(h2:ys[i+1]? =some b)(m:ys[i+2]? =some c)(l:ys[i+3]? =some d):Vl (nL ys) (some (i:Int)) (some ((i+4:Nat):Int))=nL [a,b,c,d]:=by
 have n:i+3<ys.length:=(zad.mp l).1;have g:∀{j x:Nat},ys[j]? =some x->∀h:j<ys.length,ys[j]=x:=λ{j x} e h=>by rw[zak h] at e;simpa using e
 have e:(ys.drop i).take 4=[a,b,c,d]:=by
  rw[zag (by lia),zag (by lia),zag (by lia),zag (by lia)];simp only[List.take_succ_cons,List.take_zero,g h1,g h2,g m,g l]
 unfold Vl;rw[jO (by simp[nL];lia),jO (by simp[nL];lia),show i+4 - i=4 by lia];unfold nL;rw[<-List.map_drop,<-zcm,e]
def DM:AN:=λi S Q=>∃z:Int,i=[.int z,.int 6]/\∀(n b:Nat)(h:List Nat)(a:List Mv),1<=n->n<=6->b<n->(∀e∈h,e<n)->h.Nodup->(∀m∈a,nH n m)->a.Nodup->a.length<=17->Q (.dat (mD n b h a)) S
theorem Ow(T:Txt K mg C fi)(F:Src K mg "_law_machine" kM (top 51))(u:Def P w K mg base 1 "_law_draws" e7 (au K m7))(y:Def P w K mg base 2 "_law_leaf" gB (au K rT)):Def P w K mg base 3 "_law_machine" kM (au K DM):=by
 refine cD F fG (λds S Q h=>?_) (λf cdv A outer s H E hr=>?_)
 ·obtain⟨z,rfl,_⟩:=h;rfl
 ·refine⟨_,(Ux (UD 2 fG.nd (UK u hr (Uv (Uu 0) (Uv (UB UQ (UM (Uv (Uu 1) (Uv (Uu 1) (Uv Uy (Uv (UB U5 Uy (Uu 1)) UA))))) (UB U5 (UB U5 (UM (Uv (Uu 1) (Uv Uy (Uv Uy (Uw (Uu 1)))))) Uy) (Uu 1))) UA)))) (Ux (UD 3 fG.nd (UB UQ Uy (UC (Uu 2)))) (Ux (M.eT (i:=4) fG.nd rfl rfl (N:=["_law_stand","_law_ds"]) (caps:=[none,some 2]) (rz (by decide+kernel)) (by rfl) (by rfl) rfl (Vh (by rfl) T.range (Uw (Uu 3))) (λ_ _ _ _=>(Vm (i:=0) (by decide+kernel:List.Nodup (["_law_stand","_law_ds"]:List Str)) rfl (Or.inl rfl))) (λ_ _ _ _=>(Vz (UH (UR hr) (UB UU (UB Vu (UC (Uu 1)) (US (UM (Uv Uy (Uv Uy (Uw Uy)))) (UB UU (Uu 0) Uy))) Uy) Uy (aK _)))) (λ_ _ _ _=>(Uu 0))) (Ux (UD 5 fG.nd (UY M.fQ)) (Ux (UW PassesOwn.never rfl (Vh (by rfl) T.range (Uv (UC (Uu 2)) UA)) (UI 6 fG.nd) (Ux (M.lF (M.eV M.u7 (Uu 2) (Vw (UB UQ Uy (UB U5 Uy (Uu 6)))) (Vw (UB UQ Uy (UB U5 Uy (Uu 6))))) (M.sr (n:=4) rfl (UL (UI 7 fG.nd) (UL (UI 8 fG.nd) (UL (UI 9 fG.nd) (UL (UI 10 fG.nd) U6)))))) (Uz (M.gi hr (Uu 5) (UJ (Uv (UB UU (Uu 7) (Uu 3)) (Uv (UK y hr (Uv (Uu 8) (Uw (Uu 9)))) (Uv (UB UU (Uu 10) (Uu 3)) UA)))) UX rfl)))) (Uz (UE (UJ (Uv (Uu 3) (Uv (UB UU (UC (Uu 2)) (Uu 3)) (Uv (U1 Vx T.tuple (Uw (Uu 4))) (Uv (U1 Vx T.tuple (Uv (UO (M.IY hr) T.sorted (Uw (Uu 5))) UA)) UA)))))))))))),λds S Q h=>?_⟩;obtain⟨z,rfl,q⟩:=h;have e0:aH t6 [.int z,.int 6]=[some (.int z),some (.int 6),none,none,none,none,none,none,none,none,none]:=rfl;rw[e0];push_cast[wu,jE];rw[oJ];refine⟨.inl ⟨by decide,by decide⟩,sz rfl,sz rfl,?_⟩;refine⟨⟨by decide,by decide⟩,sz rfl,⟨by decide,by decide⟩,sz rfl,sz rfl,z,SS,rfl,by decide,by decide,λX hl U=>?_⟩;have get:∀(i b:Nat),SS[i]? =some b->∃a,X[i]? =some a/\a<b:=λi b h=>by
   have hi:i<X.length:=by rw[hl];exact(zad.mp h).1
   exact⟨X[i],zak hi,U i _ b (zak hi) h⟩
  obtain⟨y0,g0,l0⟩:=get 0 6 rfl;obtain⟨y1,g1,l1⟩:=get 1 6 rfl;obtain⟨y2,g2,l2⟩:=get 2 8 rfl;obtain⟨y3,g3,l3⟩:=get 3 18 rfl;have a0:fB (nL X) (0:Int)=some (.int (y0:Int)):=gF g0;have a1:fB (nL X) (1:Int)=some (.int (y1:Int)):=gF g1;have a2:fB (nL X) (2:Int)=some (.int (y2:Int)):=gF g2;have a3:fB (nL X) (3:Int)=some (.int (y3:Int)):=gF g3;refine⟨_,a0,?_⟩;push_cast[true_and];rw[show(1:Int)+(y0:Int)=((1+y0:Nat):Int) by lia];obtain⟨n,hn⟩:∃n,n=1+y0:=⟨_,rfl⟩
  rw[<-hn];have n1:1<=n:=by lia
  have n6:n<=6:=by lia
  generalize (kj m5 P w K mg base t6 "_law_machine" (ah (top 51)) f cdv A outer s H E).w=W;push_cast[cW,mQ];refine⟨by lia,by lia,?_⟩;refine nD (λrest acc δ S'=>∃(es:List Nat)(v:Option D),acc=nL es/\(∀e∈es,e<n)/\(es.Nodup/\∃i,rest=(cy 0 n).drop i/\∀e∈es,e<i)/\es.length+rest.length<=n/\S'=S/\δ=[v,some (.lst (nL X))]) ?_ ?_ _ [] _ _ ⟨[],none,rfl,by simp,⟨.nil,0,rfl,by simp⟩,by simp[cy],rfl,rfl⟩
  ·rintro acc δ S' ⟨es,v,rfl,he,⟨Y,_⟩,hel,rfl,rfl⟩;refine⟨trivial,?_⟩;push_cast[bW,tV,d9,mQ];refine⟨_,a3,?_⟩;push_cast[true_and];refine⟨by lia,by lia,?_⟩;refine bf (λrest δ S''=>∃(O:List Mv)(v6 v7 v8 v9 v10:Option D),S''=S'++[some (nO W (O.map vD))]/\((∀m∈O,nH n m)/\O.Nodup)/\(∀x∈rest,∃k:Nat,k<18/\x=.int k)/\O.length+rest.length<=17/\δ=[some (.int z),some (.int 6),some (.lst (nL X)),some (.int n),some (.lst (nL es)),some (.loc S'.length),v6,v7,v8,v9,v10]) ?_ ?_ _ _ _ ⟨[],none,none,none,none,none,rfl,⟨by simp,.nil⟩,λx hx=>?_,by simp[cy];lia,rfl⟩
   ·rintro δ S'' ⟨O,v6,v7,v8,v9,v10,rfl,⟨G,Z⟩,_,hml,rfl⟩;refine⟨trivial,?_⟩;push_cast[cU,a1,zcN.injEq,exists_eq_left',iF];rw[show((y1:Int) % (n:Int))=((y1 % n:Nat):Int) by simp];refine⟨by lia,S'.length,O.map vD,rfl,by simp,λk hk=>?_,λk hk l hl=>?_,by rw[zbK];lia,λks' hp=>?_⟩
    ·obtain⟨m,I,rfl⟩:=zcw.mp hk;exact⟨oH (G m I),sM m⟩
    ·obtain⟨m,I,rfl⟩:=zcw.mp hk;obtain⟨m',hm',rfl⟩:=zcw.mp hl;exact sO m m'
    ·obtain⟨L,p1,rfl⟩:=cK hp;have ac:∀m∈L,nH n m:=λm I=>G m (p1.mem_iff.mp I);push_cast[true_and];refine⟨sz rfl,⟨_,j4 (yc (es:=es) (b:=y1 % n)),λk o hk e=>.inl ?_,?_⟩⟩
     ·rw[zae hk] at e;exact e
     ·rw[zcd];exact q n (y1 % n) es L n1 n6 (zcP _ (by lia)) he Y ac (p1.nodup_iff.mpr Z) (by have:=p1.length_eq;lia)
   ·rintro x rest δ S'' N' ⟨O,v6,v7,v8,v9,v10,rfl,⟨G,Z⟩,hx,hml,rfl⟩ hN';obtain⟨j,hj,rfl⟩:=hx x (by simp);obtain⟨s1,s2,s3,s4⟩:=SS4 j hj;obtain⟨b1,f1,m1⟩:=get _ _ s1;obtain⟨b2,f2,m2⟩:=get _ _ s2;obtain⟨b3,f3,m3⟩:=get _ _ s3;obtain⟨b4,f4,m4⟩:=get _ _ s4;refine⟨trivial,?_⟩;push_cast[oJ];refine⟨.inl ⟨by decide,by decide⟩,.inl ⟨by decide,by decide⟩,?_⟩;rw[show(4:Int)+4*(j:Int)=((4+4*j:Nat):Int) by lia,show(8:Int)+4*(j:Int)=((4+4*j+4:Nat):Int) by lia];unfold zc;rw[b9];dsimp only;rw[Rq f1 f2 f3 f4];refine⟨nL [b1,b2,b3,b4],rfl,rfl,_,_,rfl,_,_,rfl,_,_,rfl,_,_,rfl,rfl,?_⟩;push_cast[wo];refine⟨by lia,b2,b3,rfl,m2,λl hlf=>?_⟩;push_cast[true_and];rw[show((b1:Int) % (n:Int))=((b1 % n:Nat):Int) by simp,show((b4:Int) % (n:Int))=((b4 % n:Nat):Int) by simp];have ok:nH n (b1 % n,l,b4 % n):=⟨zcP _ (by lia),hlf,zcP _ (by lia)⟩
    refine⟨by lia,sz rfl,S'.length,rfl,O.map vD,by simp,oH ok,λk hk=>?_,by rw[zbK];lia,?_⟩
    ·obtain⟨m,I,rfl⟩:=zcw.mp hk;exact oH (G m I)
    ·obtain⟨L,e1,e2⟩:=MW O (b1 % n,l,b4 % n);have e1:putN (O.map vD) (.tup [.int ((b1 % n:Nat):Int),lD l,.int ((b4 % n:Nat):Int)])=L.map vD:=e1;rw[e1,zau _ _ (zcK _),zcD];refine hN' _ _ ⟨L,_,_,_,_,_,rfl,⟨λm I=>?_,?_⟩,λx hx'=>hx x (zay _ hx'),?_,rfl⟩
     ·rcases e2 with rfl|⟨rfl,_⟩
      ·exact G m I
      ·rcases zbJ.mp I with I|I
       ·exact G m I
       ·rw[zaO.mp I];exact ok
     ·rcases e2 with rfl|⟨rfl,ab⟩
      ·exact Z
      ·rw[zbf];exact⟨Z,by simp,λa ha b hb e=>ab (by rw[<-zaO.mp hb,<-e];exact ha)⟩
     ·simp only[zbq] at hml;rcases e2 with rfl|⟨rfl,_⟩
      ·lia
      ·rw[zaM];show O.length+1+_<=_;lia
   ·simp only[cy,zcw,zcb] at hx;obtain⟨a,ha,rfl⟩:=hx;exact⟨a,by lia,by simp⟩
  ·rintro x rest acc δ S' N' ⟨es,v,rfl,he,⟨Y,j,hx,U⟩,hel,rfl,rfl⟩ hN';obtain⟨hj,rfl,rfl⟩:=jP hx;refine⟨trivial,?_⟩;push_cast[cU,a2,zcN.injEq,exists_eq_left',wu];rw[show((j:Int) % 3)=((j % 3:Nat):Int) by lia];obtain⟨e,ea,em⟩:=Ls (ds:=[D.int 1,D.int 2,D.int 4]) (z:=j % 3) (by show j % 3<3;lia);refine⟨sz rfl,by decide,e,ea,?_⟩;obtain⟨c,rfl,c0,c1⟩:∃c:Int,e=.int c/\0<c/\c<10:=by
    simp only[zci,zbA,or_false] at em;rcases em with rfl|rfl|rfl<;>exact⟨_,rfl,by decide,by decide⟩
   push_cast[true_and];simp only[zbq] at hel;refine⟨⟨c0,by lia⟩,by decide,fc (λ_=>⟨?_,hN' _ _ _ ⟨es++[j],_,by simp[nL],λe t=>?_,⟨?_,j+1,rfl,λe t=>?_⟩,by rw[zaM];show es.length+1+_<=_;lia,rfl,rfl⟩⟩) (λ_=>hN' _ _ _ ⟨es,_,rfl,he,⟨Y,j+1,rfl,λe t=>zbh (U e t)⟩,by lia,rfl,rfl⟩)⟩
   ·rw[nL,zbK,yaf];lia
   ·rcases zbJ.mp t with t|t
    ·exact he e t
    ·rw[zaO.mp t];exact hj
   ·rw[zbf];exact⟨Y,by simp,λa ha b hb e=>zcn j (by have:=U a ha;rw[e,zaO.mp hb] at this;exact this)⟩
   ·rcases zbJ.mp t with t|t
    ·exact zbh (U e t)
    ·rw[zaO.mp t];exact zbF _
open PySem L2 M M6
noncomputable abbrev wI:List Str:=["side"]
noncomputable abbrev iK:=wI
theorem HZ:av wI iK (ah (top 27)):=L2.bO
noncomputable abbrev G4:List Str:=["leaf"]
noncomputable abbrev pM:=G4
theorem Qc:av G4 pM (ah (top 30)):=L2.bO
noncomputable abbrev Be:List Str:=["machine","begin","moves"]
noncomputable abbrev kG:=Be.take 1
theorem xA:av Be kG (ah (top 29)):=L2.bO
theorem NF{l:Lf}(h:qh l):qh (J4 l):=by cases l<;>exact h
theorem Al{m:Mv}(h:nH n m):nH (n+1) (AQ m):=⟨zbh h.2.2,NF h.2.1,zbh h.1⟩
def zD:AN:=λa S Q=>∃b,a=[.str (side b)]/\Q (.dat (.str (side (!b)))) S
theorem JN(T:Txt K mg C fi)(F:Src K mg "other_side" iK (top 27)):Def P w K mg base 1 "other_side" iK (au K zD):=by
 refine cD F HZ (λj S Q h=>?_) (λf l A outer s H E a=>?_)
 ·obtain⟨b,rfl,_⟩:=h;rfl
 ·refine⟨_,(Uz (UE (M.gZ (UH (UR a) (Uu 0) UG (aK _)) UG UG))),λj S Q h=>?_⟩;obtain⟨b,rfl,q⟩:=h;have i:aH wI [.str (side b)]=[some (.str (side b))]:=rfl;rw[i];push_cast[true_and];cases b
  ·rw[yIn (by decide)];exact aY rfl q
  ·rw[yIp (by decide)];exact aY rfl q
def KY:AN:=λa S Q=>∃l,a=[lD l]/\Q (.dat (lD (J4 l))) S
theorem Rz(T:Txt K mg C fi)(F:Src K mg "leaf_backwards" pM (top 30))(a:Def P w K mg base 1 "other_side" iK (au K zD)):Def P w K mg base 2 "leaf_backwards" pM (au K KY):=by
 refine cD F Qc (λn S Q h=>?_) (λf o A outer s H E i=>?_)
 ·obtain⟨l,rfl,_⟩:=h;rfl
 ·refine⟨_,(Uz (UE (M.gZ (UH (UR i) (UC (Uu 0)) UG (aK _)) (UJ (Uv UG (Uv (UK a i (Uv (UC (Uu 0)) UA)) (Uv (UC (Uu 0)) UA)))) (Uu 0)))),λn S Q h=>?_⟩;obtain⟨l,rfl,q⟩:=h;have j:aH G4 [lD l]=[some (lD l)]:=rfl;rw[j];cases l with
  |step b x=>
   push_cast[lD,aE,cS,dh,at2];rw[yIp (by decide)];exact⟨b,rfl,sz rfl,aY rfl q⟩
  |stay=>
   push_cast[lD,aE,cS];rw[yIn (by decide)];exact aY rfl q
  |mk c m=>
   push_cast[lD,aE,cS];rw[yIn (by cases c<;>decide)];exact aY rfl q
noncomputable def BG(n:Nat)(es:List Nat)(mv:List Mv):List Mv:=mv.map AQ++es.map λe=>(n,Lf.stay,e)
def DF:AN:=λj S Q=>∃(n b:Nat)(i:List Nat)(h:List Mv),j=[mD n b i h]/\b<n/\(∀e∈i,e<n)/\(∀m∈h,nH n m)/\h.length+i.length<=62/\
 ∀a:List Mv,a.Perm (BG n i h)->Pk (a.map vD)->Q (.dat (mD (n+1) n [b] a)) S
theorem Ol(T:Txt K mg C fi)(F:Src K mg "turned" kG (top 29))(j:Def P w K mg base 2 "leaf_backwards" pM (au K KY)):Def P w K mg base 3 "turned" kG (au K DF):=by
 refine cD F xA (λds S Q h=>?_) (λf cdv A outer s H E W=>?_)
 ·obtain⟨n,b,es,mv,rfl,_⟩:=h;rfl
 ·refine⟨_,(Ux (UD 1 xA.nd (UC (Uu 0))) (Ux (M.uX (i:=2) xA.nd rfl rfl (N:=["one","leaf","other"]) (caps:=[none,none,none]) (rz (by decide+kernel)) (by rfl) (by rfl) rfl (UT (UC (Uu 0))) (λ_ _ _ _=>(U7 (n:=3) rfl (UL (Vm (i:=0) (by decide+kernel:List.Nodup (["one","leaf","other"]:List Str)) rfl (Or.inl rfl)) (UL (Vm (i:=1) (by decide+kernel:List.Nodup (["one","leaf","other"]:List Str)) rfl (Or.inl rfl)) (UL (Vm (i:=2) (by decide+kernel:List.Nodup (["one","leaf","other"]:List Str)) rfl (Or.inl rfl)) U6))))) (λ_ _ _ _=>Vi) (λ_ _ _ _=>(UJ (Uv (Uu 2) (Uv (UK j W (Uw (Uu 1))) (Uw (Uu 0))))))) (Ux (U0 (Vb PySem.F.plainAttrs_list PySem.F.slot_list_extend PySem.F.type_list_extend M.j7 (Uu 2) (Uv (Vc ["end","begin"] [none,some 1] (UT (UC (Uu 0))) (λ_ _ _ _=>Vi) (λ_ _ _ _=>(UJ (Uv (Uu 1) (Uv T.ni (Uw (Uu 0))))))) UA))) (Uz (UE (UJ (Uv (UB UQ (Uu 1) Uy) (Uv (Uu 1) (Uv (UJ (Uv (UC (Uu 0)) UA)) (Uv (U1 Vx T.tuple (Uv (UO (M.Ah W) T.sorted (Uw (Uu 2))) UA)) UA)))))))))),λds S Q h=>?_⟩;obtain⟨n,b,es,mv,rfl,hb,he,L,X,q⟩:=h;have e0:aH Be [mD n b es mv]=[some (mD n b es mv),none,none]:=rfl;rw[e0];refine dR λN1 h1=>?_;push_cast[mD,aE,cS];refine h1 _ _ ?_;clear h1;refine dR λN2 h2=>?_;push_cast[mD,aE,yZ,bW,cW,dw,bZ];have Y:∀{α:Type}(l:List α),l.filter (λ_=>true)=l:=λl=>zaH.mpr λ_ _=>rfl;refine eZ vD (λ_=>true) (λm=>vD (AQ m)) (λm=>[some (.int (m.1:Nat)),some (lD m.2.1),some (.int (m.2.2:Nat))]) (λδ=>∃a b c,δ=[a,b,c]) trivial (λm=>⟨_,_,_,rfl⟩) mv [] _ ⟨_,_,_,rfl⟩ (λm _=>?_) (λm t G u=>u) (λm t G u=>?_) (by rw[yaf];show 0+mv.length<=_;lia) ?_
  ·rintro _ ⟨a,b,c,rfl⟩ G u;exact⟨_,rfl,rfl,_,_,rfl,_,_,rfl,_,_,rfl,rfl,u⟩
  ·push_cast[true_and];exact⟨m.2.1,rfl,sz rfl,u⟩
  rw[zbR,Y];refine h2 _ _ ?_;clear h2;refine dR λN3 Z=>?_;push_cast[mD,aE,at2,ue,cW,dw,bZ];have y:∀o:MO,(S++[some o])[S.length]? =some (some o):=λo=>by simp
  have U:∀o:MO,aT (S++[some o]) (.loc S.length)=o.d:=λo=>by simp only[aT,y]
  have DW:∀o I:MO,(S++[some o]).set S.length (some I)=S++[some I]:=λo I=>by rw[zau _ _ (zcK _)];simp
  refine⟨by rw[U];rfl,?_⟩;refine b6 (α:=Nat) (δ:=[none,some (.int n)]) (λz:Nat=>D.int z) (λ_=>true) (λz=>vD (n,Lf.stay,z)) trivial es [] _ rfl (λz hz G u=>u) (λz hz G u=>?_) (by rw[yaf];show 0+es.length<=_;lia) ?_
  ·push_cast[true_and];exact⟨sz rfl,u⟩
  rw[zbR,Y];refine⟨S.length,_,_,_,rfl,rfl,y _,.inl rfl,by rw[zbK,zbK,yaf];lia,?_⟩;rw[DW,show mv.map (λm=>vD (AQ m))++es.map (λz=>vD (n,Lf.stay,z))=(BG n es mv).map vD by unfold BG;rw[zbS,zcv,zcv];rfl];refine Z _ _ ?_;clear Z;push_cast[mD,aE,dh,Gk,iF];have ok:∀m∈BG n es mv,nH (n+1) m:=λm t=>by
   rcases zbJ.mp t with t|t
   ·obtain⟨m0,O,rfl⟩:=zcw.mp t;exact Al (L m0 O)
   ·obtain⟨e,O,rfl⟩:=zcw.mp t;exact⟨zbF _,True.intro,zbh (he e O)⟩
  refine⟨sz rfl,(BG n es mv).map vD,U _,λk x=>?_,⟨false,λk x=>?_⟩,λk x l X=>?_,?_,λks' hp hu=>⟨sz rfl,?_⟩⟩
  ·obtain⟨m,t,rfl⟩:=zcw.mp x;exact sN (ok m t).2.1
  ·obtain⟨m,t,rfl⟩:=zcw.mp x;obtain⟨q,r,e⟩:=sM m;exact⟨.int q,.inl ⟨rfl,q,rfl⟩,r,e⟩
  ·obtain⟨m,_,rfl⟩:=zcw.mp x;obtain⟨m',_,rfl⟩:=zcw.mp X;exact sO m m'
  ·rw[zbK,BG,zaM,zbK,zbK];lia
  ·obtain⟨v,p1,rfl⟩:=cK hp;show VD S _ (.dat (mD (n+1) n [b] v)) Q;refine⟨_,j4 (yc (n:=n+1) (b:=n) (es:=[b]) (mv:=v)),λk o x e=>.inl ?_,?_⟩
   ·rw[zae x] at e;exact e
   ·rw[zcd];exact q v p1 hu
open PySem L2 M M6
noncomputable abbrev G9:List Str:=["_law_way","_law_knots_here","_law_steps_here","_law_k"]
noncomputable abbrev pQ:=G9.take 1
theorem zR:av G9 pQ (ah (top 56)):=L2.bO
noncomputable def uN:Str->List Sp->List Sp
 |_,[]=>[]
 |k,s::ss=>uN s.2.2 ss++[(!s.1,s.2.1,k)]
noncomputable def qN(k:Str)(ss:List Sp):List Str:=k::ss.map λs=>s.2.2
theorem J7{α:Type}{a:List α}{x:α}:fB (a++[x]) (-1)=some x:=by
 unfold fB Hw;rw[yIn (by decide),yIp (by rw[zaM];show -((a.length+1:Nat):Int)<= -1;lia),zaM];have:((-1:Int)+((a.length+[x].length:Nat):Int)).toNat=a.length:=by show((-1:Int)+((a.length+1:Nat):Int)).toNat=_;lia
 rw[this];simp
theorem jv:∀(k:Str)(ss:List Sp),(uN k ss).length=ss.length
 |_,[]=>rfl
 |k,s::ss=>by simp[uN,jv s.2.2 ss]
theorem lB:∀(k:Str)(ss:List Sp)(j:Nat),j<ss.length->∃s x,ss[ss.length - 1 - j]? =some s/\(qN k ss)[ss.length - 1 - j]? =some x/\(uN k ss)[j]? =some (!s.1,s.2.1,x)
 |_,[],j,h=>by simp at h
 |k,s::ss,j,h=>by
  rcases zcC j ss.length with g|g
  ·obtain⟨t,x,h1,h2,a⟩:=lB s.2.2 ss j g;have e:(s::ss).length - 1 - j=(ss.length - 1 - j)+1:=by simp;lia
   refine⟨t,x,by rw[e];exact h1,by rw[e];exact h2,?_⟩;rw[uN,zae (by rw[jv];exact g)];exact a
  ·have e:j=ss.length:=by simp at h;lia
   subst e;refine⟨s,k,by simp,by simp[qN],?_⟩;rw[uN,zab (by rw[jv];exact zcK _),jv];simp
theorem MY{k:Str}{ss:List Sp}:bY (k7 k ss)=true:=by
 simp only[k7,bY,bH,zcr,zcp];exact cZ λ_ _=>rfl
def K2:AN:=λi S Q=>∃(k:Str)(a:List Sp),i=[k7 k a]/\a.length<=20/\∀h,(qN k a)[a.length]? =some h->Q (.dat (k7 h (uN k a))) S
theorem RD(T:Txt K mg C fi)(F:Src K mg "_law_backwards" pQ (top 56)):Def P w K mg base 1 "_law_backwards" pQ (au K K2):=by
 refine cD F zR (λds S Q h=>?_) (λf cdv A outer s H E t=>?_)
 ·obtain⟨k,a,rfl,_⟩:=h;rfl
 ·refine⟨_,(Ux (UD 1 zR.nd (UB UQ (UM (Uv (UC (Uu 0)) UA)) (Vc ["_law_step"] [none] (UT (UC (Uu 0))) (λ_ _ _ _=>Vi) (λ_ _ _ _=>(UC (Uu 0)))))) (Ux (UD 2 zR.nd (UY (UM UA))) (Ux (UW PassesOwn.never rfl (M.lH (by rfl) T.range (Uv (UB Vv (UO UZ T.len (Uv (UC (Uu 0)) UA)) Uy) (Uv (M.qE M.Ak Uy) (Uw (M.qE M.Ak Uy))))) (UI 3 zR.nd) (Uz (U0 (Vb PySem.F.plainAttrs_list PySem.F.slot_list_append PySem.F.type_list_append Vr (Uu 2) (Uv (UJ (Uv (US (UM (Uv UG (Uw UG))) (U1 M.Nu T.int (Uv (U3 (UR t) (UC (US (UC (Uu 0)) (Uu 3))) UG (aK _)) UA))) (Uv (UC (US (UC (Uu 0)) (Uu 3))) (Uv (US (Uu 1) (Uu 3)) UA)))) UA))))) (Uz (UE (UJ (Uv (US (Uu 1) (M.qE M.Ak Uy)) (Uv (U1 Vx T.tuple (Uw (Uu 2))) UA)))))))),λds S Q h=>?_⟩;obtain⟨k,a,rfl,hl,q⟩:=h;have e0:aH G9 [k7 k a]=[some (k7 k a),none,none,none]:=rfl;rw[e0];refine dR λN1 h1=>?_;push_cast[k7,aE,cS,dh,cW,dw,bZ];have hf:∀{α:Type}(l:List α),l.filter (λ_=>true)=l:=λl=>zaH.mpr λ_ _=>rfl;refine⟨sz rfl,?_⟩;refine b6 (α:=Sp) (δ:=[none]) iV (λ_=>true) (λs=>D.str s.2.2) trivial a [] _ rfl (λz hz O u=>u) (λz hz O u=>?_) (by rw[yaf];show 0+a.length<=_;lia) ?_
  ·push_cast[iV,aE,at2];exact u
  rw[zbR,hf];refine⟨by rw[zbK,yaf];show 1+_<=_;lia,h1 _ _ ?_⟩;clear h1;rw[show[D.str k]++a.map (λs=>D.str s.2.2)=(qN k a).map D.str by simp[qN]];refine dR λN2 h2=>?_;push_cast[bW];refine⟨sz rfl,h2 _ _ ?_⟩;clear h2;refine dR λN3 h3=>?_;push_cast[d9,yC,Kg,aE,dh];refine⟨a.length,by simp[iu],by lia,by lia,by decide,by decide,?_⟩;rw[show((a.length:Int) - 1 - -1).toNat=a.length by lia];have n:(JG ((a.length:Int) - 1) a.length).length=a.length:=by simp[JG]
  have L:∀o:MO,(S++[some o])[S.length]? =some (some o):=λo=>by simp
  have xx:∀o:MO,aT (S++[some o]) (.loc S.length)=o.d:=λo=>by simp only[aT,L]
  have DW:∀o U:MO,(S++[some o]).set S.length (some U)=S++[some U]:=λo U=>by rw[zau _ _ (zcK _)];simp
  refine bf (λrest δ S2=>∃(j:Nat)(v:Option D),rest=(JG ((a.length:Int) - 1) a.length).drop j/\j<=a.length/\S2=S++[some (.lst (((uN k a).take j).map iV))]/\δ=[some (D.tup [D.str k,D.tup (zcT iV a)]),some (D.lst (zcT D.str (qN k a))),some (D.loc (zcJ S)),v]) ?_ ?_ _ _ _ ⟨0,none,rfl,zcL _,rfl,rfl⟩
  ·rintro δ S2 ⟨j,v,t,hj,rfl,rfl⟩;obtain rfl:j=a.length:=by
    have:=congrArg zcJ t;rw[zbs,n] at this;simp at this;lia
   refine⟨trivial,h3 _ _ ?_⟩;clear h3;rw[List.take_of_length_le (by rw[jv];exact zcK _)];have W:∃G,(qN k a)[a.length]? =some G:=⟨_,zak (by simp[qN])⟩
   obtain⟨G,I⟩:=W;push_cast[iF,cU];obtain⟨xs,Z⟩:∃xs,qN k a=xs++[G]:=by
    refine⟨(qN k a).take a.length,?_⟩;have ab:(qN k a).length=a.length+1:=by simp[qN]
    have h5:=zad.mp I;have h6:=List.take_append_drop a.length (qN k a);rw[zag h5.1,h5.2,List.drop_eq_nil_of_le (by lia)] at h6;exact h6.symm
   refine⟨.str G,by rw[Z,zbS];exact J7,?_⟩;rw[xx];refine⟨sz rfl,?_⟩;refine⟨_,j4 (show bY (k7 G (uN k a))=true from MY),λk o W e=>.inl ?_,?_⟩
   ·rw[zae W] at e;exact e
   ·rw[zcd];exact q G I
  ·rintro x rest δ S2 N' ⟨j,v,t,hj,rfl,rfl⟩ Y;have m:j<a.length:=by
    rcases zcC j a.length with g|g
    ·exact g
    ·rw[List.drop_eq_nil_of_le (by rw[n];exact g)] at t;cases t
   have hd:=zag (l:=JG ((a.length:Int) - 1) a.length) (i:=j) (by rw[n];exact m);rw[hd] at t;injection t with e1 e2;have ex:x=.int ((a.length - 1 - j:Nat):Int):=by
    rw[e1,(FP (zak (by rw[n];exact m))).2];congr 1;lia
   subst ex;subst e2;obtain⟨y,kx,g1,g2,g3⟩:=lB k a j m;refine⟨trivial,?_⟩;push_cast[ue,aE,cU,dh];refine⟨by rw[xx];rfl,sz rfl,?_⟩;have as:fB (a.map iV) ((a.length - 1 - j:Nat):Int)=some (iV y):=cR (by rw[zba,g1];rfl);have ak:fB ((qN k a).map D.str) ((a.length - 1 - j:Nat):Int)=some (.str kx):=cR (by rw[zba,g2];rfl);refine⟨iV y,as,?_⟩;push_cast[iV,aE,cS];refine .inr ⟨_,rfl,?_⟩;have X:∀O:AK,O (.dat (.str (side (!y.1)))) (S++[some (MO.lst (zcT iV (List.take j (uN k a))))])->zf (D.lst [D.str (Str.ofString "back"),D.str (Str.ofString "on")]) (D.int (if decide (side y.1=Str.ofString "back")=true then 1 else 0)) (S++[some (MO.lst (zcT iV (List.take j (uN k a))))]) O:=λO u=>by
    cases hb:y.1<;>rw[hb] at u
    ·rw[yIp (by decide+kernel)];exact⟨_,dh,u⟩
    ·rw[yIn (by decide+kernel)];exact⟨_,cS,u⟩
   refine X _ ⟨iV y,as,?_⟩;push_cast[iV,aE,dh];refine⟨_,ak,sz rfl,S.length,_,_,rfl,rfl,L _,by rw[zbK,zbr,yaf];lia,?_⟩;rw[DW];refine Y _ _ ⟨j+1,_,rfl,m,?_,rfl⟩;rw[List.take_add_one,g3,zbS];rfl
open PySem L2 M M6
structure GM(c n b:Nat)(es:List Nat)(mv:List Mv):Prop where
 b:b<n
 e:∀e∈es,e<n
 en:es.Nodup
 ok:∀m∈mv,nH n m
 nd:mv.Nodup
 n6:n<=c
 len:mv.length+es.length<=c
theorem Jz{a b:Mv}(h:AQ a=AQ b):a=b:=by rw[<-tw a,h,tw]
theorem LU{c b:Nat}{es:List Nat}{mv:List Mv}(g:GM c n b es mv):(BG n es mv).Nodup:=by
 unfold BG;rw[zbf];refine⟨zbg.mpr (g.nd.imp λh e=>h (Jz e)),zbg.mpr (g.en.imp λh e=>h (by injection e with _ e;injection e)),λx i y a e=>?_⟩;obtain⟨m,j,rfl⟩:=zcw.mp i;obtain⟨z,hz,rfl⟩:=zcw.mp a;have:=(g.ok m j).2.2;have l:m.2.2=n:=congrArg (·.1) e;lia
theorem LR{c b:Nat}{es:List Nat}{mv:List Mv}(g:GM c n b es mv):∀m∈BG n es mv,nH (n+1) m:=λm a=>by
 rcases zbJ.mp a with a|a
 ·obtain⟨i,h,rfl⟩:=zcw.mp a;exact Al (g.ok i h)
 ·obtain⟨e,h,rfl⟩:=zcw.mp a;exact⟨zbF _,True.intro,zbh (g.e e h)⟩
theorem GM.turn{c b:Nat}{es:List Nat}{mv mv':List Mv}(g:GM c n b es mv)(h:mv'.Perm (BG n es mv)):GM (c+1) (n+1) n [b] mv':=
 ⟨zbF _,by simp;exact zbh g.b,by simp,λm a=>LR g m (h.mem_iff.mp a),h.nodup_iff.mpr (LU g),by have:=g.n6;lia,by
  have h1:=h.length_eq;have h2:=g.len;simp[BG] at h1⊢;lia⟩
theorem NJ{l a:Lf}(h:py (lD l)=py (lD a)):l=a:=by
 cases l with
 |stay=>cases a<;>first|rfl|(simp[lD,py,dZ] at h)
 |step b x=>
  cases a with
  |step b' x'=>
   simp only[lD,py,dZ,PyData.tuple.injEq,zcR.injEq,PyData.str.injEq,and_true,true_and] at h;rw[uH h.1,h.2]
  |_=>simp[lD,py,dZ] at h
 |mk c m=>
  cases a with
  |mk c' m'=>
   simp only[lD,py,dZ,PyData.tuple.injEq,zcR.injEq,PyData.str.injEq,and_true,true_and] at h;rw[Jd h.1,h.2]
  |_=>simp[lD,py,dZ] at h
theorem LJ{a b:Mv}(h:py (vD a)=py (vD b)):a=b:=by
 simp only[vD,py,dZ,PyData.tuple.injEq,zcR.injEq,PyData.int.injEq,and_true] at h;obtain⟨h1,h2,i⟩:=h;have:=NJ h2;exact Prod.ext (by lia) (Prod.ext this (by lia))
theorem Fc{mv:List Mv}(h:mv.Nodup)(u:Pk (mv.map vD)):Us mv:=by
 refine⟨zbg.mpr (h.imp λa e=>a (LJ e)),?_⟩;unfold Pk at u;rw[zbg] at u;exact zbg.mpr u
theorem QY{mv:List Mv}(h:(pm mv).Nodup):mv.Nodup:=(zbg.mp h).imp λa e=>a (by rw[e])
theorem Au(k:Str)(ss:List Sp):∀i,i<=ss.length->(qN k ss)[i]? =some (NK k ss i)
 |0,_=>rfl
 |i+1,h=>by
  show(ss.map λs=>s.2.2)[i]? =some ((ss[i]?.map (·.2.2)).getD k);rw[zba,zak (show i<ss.length by lia)];rfl
theorem Qy{mk:Str->List Str}{k h:Str}{ss:List Sp}(m:(qN k ss)[ss.length]? =some h):Rv ss.length (wr mk k ss) (wr mk h (uN k ss)):=by
 refine⟨λi l=>?_,λi l=>?_,λi l=>?_⟩
 ·show mk (NK h (uN k ss) i)=mk (NK k ss (ss.length - i));congr 1;cases i with
  |zero=>
   have:=Au k ss ss.length (zcK _);rw[m] at this;exact zcN.inj this
  |succ j=>
   obtain⟨s,x,h1,h2,a⟩:=lB k ss j (by lia);have e:ss.length - (j+1)=ss.length - 1 - j:=by lia
   have:=Au k ss (ss.length - 1 - j) (by lia);rw[h2] at this;rw[e,<-zcN.inj this];show((uN k ss)[j]?.map (·.2.2)).getD h=x;rw[a];rfl
 ·obtain⟨s,x,h1,h2,a⟩:=lB k ss i l;refine⟨s.1,?_,?_⟩
  ·show(ss[ss.length - 1 - i]?.map (side ·.1)).getD ""=_;rw[h1];rfl
  ·show((uN k ss)[i]?.map (side ·.1)).getD ""=_;rw[a];rfl
 ·obtain⟨s,x,h1,h2,a⟩:=lB k ss i l;show((uN k ss)[i]?.map (·.2.1)).getD ("":Str)=(ss[ss.length - 1 - i]?.map (·.2.1)).getD ("":Str);rw[h1,a];rfl
theorem LG{ks:List Kn}{k n:Str}{ss:List Sp}(h:jq ks k ss)(u:(qN k ss)[ss.length]? =some n):jq ks n (uN k ss):=by
 have a:∀x∈qN k ss,x∈nms ks:=λx j=>by
  rcases zci.mp j with rfl|j
  ·exact h.1
  ·obtain⟨s,l,rfl⟩:=zcw.mp j;exact(h.2 s l).1
 refine⟨a _ (zaB u),λs l=>?_⟩;obtain⟨i,o⟩:=List.mem_iff_getElem?.mp l;have m:i<ss.length:=by rw[<-jv k ss];exact(zad.mp o).1
 obtain⟨t,x,h1,h2,q⟩:=lB k ss i m;rw[o] at q;cases q;exact⟨a _ (zaB h2),(h.2 t (zaB h1)).2⟩
theorem k9{c b:Nat}{es:List Nat}{mv mv':List Mv}{W j:Wr}(R:Rv L W j)(g:GM c n b es mv)(h:mv'.Perm (BG n es mv)):(∃e∈[b],Rb j mv' n e L)↔∃e∈es,Rb W mv b e L:=by
 have:=Dm (mv:=mv) (mv':=mv') R g.b g.e (λm i=>⟨(g.ok m i).1,(g.ok m i).2.2⟩) λm=>by
  rw[h.mem_iff];unfold BG;rw[zbJ,zcw,zcw];constructor
  ·rintro(⟨a,h1,h2⟩|⟨a,h1,h2⟩)
   ·exact .inl ⟨a,h1,h2⟩
   ·exact .inr ⟨a,h1,h2.symm⟩
  ·rintro(⟨a,h1,h2⟩|⟨a,h1,h2⟩)
   ·exact .inl ⟨a,h1,h2⟩
   ·exact .inr ⟨a,h1,h2.symm⟩
 simp only[zaO,exists_eq_left,MN];exact this
open PySem L2 M M6
noncomputable abbrev xO:Stmt:=top 57
noncomputable abbrev G5:List Str:=["_law_script","_law_k","_law_cell","_law_machine_here","_law_back","_law_again","_law_rows_here","_law_web","_law_way","_law_due"]
noncomputable abbrev tZ:=G5.take 1
theorem gC:av G5 tZ (ah xO):=L2.bO
noncomputable def strOf:yai->Option Str
 |.str x _=>some x
 |_=>none
theorem qp:∀{vs:List yai}{ss:List Str},vs.map strOf=ss.map some->Vals (ss.map V.str) vs
 |[],[],_=>.nil
 |v::vs,s::ss,h=>by
  rw[zcj,zcj] at h;have h1:=zcR.inj h;refine .cons ?_ (qp h1.2);cases v<;>simp[strOf] at h1;obtain⟨rfl,_⟩:=h1;exact⟨_,rfl⟩
theorem DC{i:Option Addr}(l:K.lookup a=some ⟨.type "tuple",i,.seq its n,sl⟩)(q:(its.toList.map strOf==ss.map some)=true)(h:ss.length<=100)(H:Hp):dI K H a (ss.map V.str):=by
 have v:=qp (eq_of_beq q);refine .inr ⟨_,its,n,l,rfl,rfl,?_,v⟩;have:=v.length;rw[zbK] at this;rw[yaf,<-zaJ];lia
theorem J.by5{p:List yai->Prop}(h:∀a b c d e,p [a,b,c,d,e])(us:List yai)(e:us.length=5):p us:=by
 cases us with
 |nil=>cases e
 |cons a r=>exact J.by4 (p:=λr=>p (a::r)) (h a) r (Nat.succ.inj e)
theorem P5{a b:AS}{Dn:jr}(I:bC->aN->Prop)(h:∀N:bC->aN->Prop,(∀i j,I i j->N i j)->a {Dn with nx:=N} δ S)(k:∀i j,I i j->b Dn i j):qe a b Dn δ S:=h _ k
theorem Cb{ks:List Kn}(i:(nms ks).Nodup)(h:x∈nms ks):aQ ks.reverse x=aQ ks x:=by
 have a:x∈nms ks.reverse:=by
  obtain⟨k,j,rfl⟩:=zcw.mp h;exact zcw.mpr ⟨k,zbE.mpr j,rfl⟩
 exact(congrArg (·.2) (sH i (zbE.mp (cA a)) (cA h) rfl):_)
theorem Jj{ks:List Kn}{k:Str}{ss:List Sp}(h:jq ks k ss):∀i,NK k ss i∈nms ks
 |0=>h.1
 |i+1=>by
  show((ss[i]?.map (·.2.2)).getD k)∈nms ks;cases e:ss[i]? with
  |none=>exact h.1
  |some s=>exact(h.2 s (zaB e)).1
theorem Ju{c:AT}{a:AS}{D:jr}(h:∀Q:Bool->aN->Prop,Q false S->c δ S Q)(k:D.nx δ S):CG c a rJ D δ S:=h _ (by rw[yIn (by decide)];exact k)
theorem Jb{v:Bool}{Q:AK}(q:Q (.dat (.bl false)) S):Lu (.bl v) (.bl v) S Q:=by
 show Q (.dat (.bl (!decide (v=v)))) S;rw[yDt rfl];exact q
theorem LF{ks:List Kn}(a:(nms ks).Nodup){k:Str}{ss:List Sp}(h:jq ks k ss):wr (aQ ks.reverse) k ss=wr (aQ ks) k ss:=by
 unfold wr;congr 1;funext i;exact Cb a (Jj h i)
theorem RO.tx{ks:List Kn}{ts:List Ti}(h:RO ks ts):∀k∈ks,texts k.2:=λk a=>⟨by have:=(h.nm k a).2.1;lia,λm i=>qJ ((h.nm k a).2.2 m i)⟩
def DP:AN:=λa S Q=>∃ns:List Int,a=[.lz ns]/\S=[]/\Q (.dat (.bl true)) []
theorem OB(T:Txt K mg C fi)(F:Hg K "law" "law" xO f fd)(o:Def P w K mg base 1 "_law_cell_at" kW (au K DU))(W:Def P w K mg base 3 "_law_machine" kM (au K DM))(U:Def P w K mg base 6 "_law_pattern" kK (au K DJ))(Y:Def P w K mg base 4 "machine_of" pL (au K KW))(Z:Def P w K mg base 3 "turned" kG (au K DF))(a:Def P w K mg base 3 "_law_is_machine" wA (au K PZ))(ac:Def P w K mg base 2 "_law_rows" kH (au K DG))(ae:Def P w K mg base 3 "_law_laid" iM (au K (zG C w)))(ab:Def P w K mg base 2 "_law_ways" kF (au K DE))(O:Def P w K mg base 1 "_law_backwards" pQ (au K K2))(t9:Def P w K mg base 4 "goes" kT (au K (xr C w)))(j:Def P w K mg base 2 "_law_gone" iO (au K rV)):
  dS P w K mg base m5 16 f fd tZ (au K DP):=by
 refine okB F gC (λds S Q h=>?_) (λf cdv A outer s H E G=>?_)
 ·obtain⟨ns,rfl,_⟩:=h;rfl
 ·refine⟨_,(Ux (UW PassesOwn.never rfl (Vh (by rfl) T.range (Uv (UB UQ Uy (UO UZ T.len (Uv (M.eV M.u7 (Uu 0) M.iZ (Vw Uy)) UA))) UA)) (UI 1 gC.nd) (Ux (UD 2 gC.nd (UK o G (Uv (Uu 0) (Uw (Uu 1))))) (Ux (UD 3 gC.nd (UK W G (Uv (UB Vu (Uu 2) Uy) (Uw Uy)))) (Ux (UN (UH (UR G) (UB UU (Uu 2) Uy) Uy (aK _)) (Uz (UD 3 gC.nd (UK Y G (Uv (UK U G (Uv (UB Vu (Uu 2) Uy) (Uw Uy))) UA)))) UP) (Ux (UD 4 gC.nd (UK Z G (Uw (Uu 3)))) (Ux (UD 5 gC.nd (UK Z G (Uw (Uu 4)))) (Ux (UN (U8 (Va (U9 (U4 (UK a G (Uv (Uu 4) (Uw (UB M.Aj Uy Uy)))))) (Vd (U9 (U4 (UK a G (Uv (Uu 5) (Uw (UB M.Aj Uy Uy))))))))) (Uz (UE UX)) UP) (Ux (UD 6 gC.nd (UK ac G (Uv (UK o G (Uv (Uu 0) (Uv (UB UQ Uy (Uu 1)) UA))) (Uw Uy)))) (Ux (UD 7 gC.nd (UK ae G (Uw (Uu 6)))) (Uz (UW PassesOwn.never rfl (UT (UK ab G (Uv (Uu 6) (Uv (US (U1 (M.sD G) T.list (Uv (UC (Uu 6)) UA)) (UB UU (Uu 2) (UO UZ T.len (Uv (UC (Uu 6)) UA)))) (Uv Uy (Uw Uy)))))) (UI 8 gC.nd) (Ux (UD 9 gC.nd (UK j G (Uv (Uu 6) (Uv (Uu 3) (Uv (UK O G (Uw (Uu 8))) UA))))) (Ux (UN (U8 (Va (UH (Vj G) (UK j G (Uv (Uu 6) (Uv (Uu 4) (Uw (Uu 8))))) (Uu 9) (aK _)) (Vd (UH (Vj G) (UK t9 G (Uv (Uu 7) (Uv (Uu 4) (Uw (Uu 8))))) (Uu 9) (aK _))))) (Uz (UE UX)) UP) (Ux (UD 9 gC.nd (UK j G (Uv (Uu 6) (Uv (Uu 3) (Uw (Uu 8)))))) (Uz (UN (U8 (Va (UH (Vj G) (UK j G (Uv (Uu 6) (Uv (Uu 5) (Uw (Uu 8))))) (Uu 9) (aK _)) (Vd (UH (Vj G) (UK t9 G (Uv (Uu 7) (Uv (Uu 3) (Uw (Uu 8))))) (Uu 9) (aK _))))) (Uz (UE UX)) UP)))))))))))))))) (Uz (UE UX))),λds S Q h=>?_⟩;obtain⟨ns,rfl,rfl,q⟩:=h;have e0:aH G5 [.lz ns]=[some (.lz ns),none,none,none,none,none,none,none,none,none]:=rfl;rw[e0];refine dR λN0 h0=>?_;simp only[d9,mQ];push_cast[true_and];have h1:(Vl ns none (some 1)).length<=1:=by
   unfold Vl;rw[zbr];have a1:HT.l6 ns.length ns.length (some (1:Int))<=1:=by
    have:HT.l6 ns.length ns.length (some ((1:Nat):Int))<=1:=by rw[HT.jO];lia
    exact this
   lia
  show∃x,_;refine⟨((Vl ns none (some 1)).map D.int).length,rfl,by lia,by rw[zbK];lia,?_⟩;refine bf (λrest δ S'=>∃(v1 v2 v3 v4 v5 v6 v7 v8 v9:Option D),δ=[some (.lz ns),v1,v2,v3,v4,v5,v6,v7,v8,v9]/\∀x∈rest,∃k:Nat,x=.int k) ?_ ?_ _ _ _ ⟨none,none,none,none,none,none,none,none,none,rfl,λx hx=>?_⟩
  ·rintro δ S' ⟨v1,v2,v3,v4,v5,v6,v7,v8,v9,rfl,_⟩;refine⟨trivial,h0 _ _ ?_⟩;push_cast[true_and];exact jQ (S:=[]) (T:=S') rfl q
  ·rintro x rest δ S' N' ⟨v1,v2,v3,v4,v5,v6,v7,v8,v9,rfl,hx⟩ hN';clear h0;obtain⟨k,rfl⟩:=hx x (by simp);refine⟨trivial,?_⟩;refine dR λN1 g1=>?_;push_cast[true_and];refine⟨ns,k,rfl,λz=>g1 _ _ ?_⟩;clear g1;refine P5 (λδ S2=>S'=S2/\∃n b L I,GM 60 n b L I/\δ=[some (.lz ns),some (.int k),some (.int z),some (mD n b L I),v4,v5,v6,v7,v8,v9]) (λN hN=>?_) ?_
   ·push_cast[true_and];exact⟨⟨by decide,by decide⟩,z / 2,rfl,λn b L I c1 c2 c3 c4 c5 c6 c7 c8=>hN _ _ ⟨rfl,n,b,L,I,⟨c3,c4,c5,c6,c7,by lia,by have:=bA n L c5 c4;lia⟩,rfl⟩⟩
   rintro _ _ ⟨rfl,n,b,L,I,gm,rfl⟩;refine P5 (λδ S2=>S'=S2/\∃n b L I,GM 60 n b L I/\δ=[some (.lz ns),some (.int k),some (.int z),some (mD n b L I),v4,v5,v6,v7,v8,v9]) (λN hN=>?_) ?_
   ·push_cast[true_and];refine⟨by decide,fc (λ_=>?_) (λ_=>hN _ _ ⟨rfl,n,b,L,I,gm,rfl⟩)⟩;refine⟨⟨by decide,by decide⟩,z / 2,rfl,λp p1 p2 p3=>⟨p,rfl,p1,by lia,λn I m0 b1 b2 b3 b4=>hN _ _ ⟨rfl,n,0,[1],I,⟨by have:=b1.two;lia,by have:=b1.two;simp;lia,by simp,λm hm=>?_,QY m0.2.1,by lia,by simp;lia⟩,rfl⟩⟩⟩;have:=b1.Lb (eM m) (zcw.mpr ⟨m,hm,rfl⟩);exact⟨this.1,b4 m hm,this.2⟩
   clear gm I L b n;rintro _ _ ⟨rfl,n,b,L,I,gm,rfl⟩;refine dR λN2 g2=>?_;push_cast[true_and];refine⟨n,b,L,I,rfl,gm.b,gm.e,gm.ok,by have:=gm.len;lia,λm1 p1 u1=>g2 _ _ ?_⟩;clear g2;have l:=gm.turn p1;refine dR λN3 g3=>?_;push_cast[true_and];refine⟨n+1,n,[b],m1,rfl,l.b,l.e,l.ok,by have:=l.len;lia,λm2 p2 u2=>g3 _ _ ?_⟩;clear g3;have gm2:=l.turn p2;refine gD (λQ' q'=>?_) ?_
   ·push_cast[true_and];refine⟨⟨by decide,by decide,by decide⟩,n+1,n,b,m1,10 ^ 20,rfl,by decide,l.b,l.e b (by simp),by have:=l.n6;lia,l.ok,by have:=l.len;simp at this;lia,Fc l.nd u1,true,rfl,?_⟩;rw[yIn (by decide)];exact⟨⟨by decide,by decide,by decide⟩,n+1+1,n+1,n,m2,10 ^ 20,rfl,by decide,gm2.b,gm2.e n (by simp),by have:=gm2.n6;lia,gm2.ok,by have:=gm2.len;simp at this;lia,Fc gm2.nd u2,true,rfl,q'⟩
   refine dR λN4 g4=>?_;push_cast[true_and];refine⟨ns,2+k,by push_cast;rfl,λz2=>⟨z2,rfl,λu ts ro=>g4 _ _ ?_⟩⟩;clear g4;refine dR λN5 g5=>?_;push_cast[true_and];refine⟨u,ts,rfl,ro,λS2 X2 _=>g5 _ _ ?_⟩;clear g5;push_cast[d9,dw,ze,jj,aE,cS];refine⟨gJ u,⟨_,rfl⟩,u.length,by show some (gJ u).length=_;rw[gJ,zbK],by have:=ro.k1;lia,?_⟩;rw[show(gJ u).map kD=u.map (λk=>D.str k.1) by unfold gJ;rw[zcv];rfl];have hkl:=ro.k1;obtain⟨i,ei,hi⟩:∃i:Nat,z % (u.length:Int)=(i:Int)/\i<u.length:=⟨(z % (u.length:Int)).toNat,by
    have:=zbX z (show(u.length:Int)≠0 by lia);lia,by
    have:=zaS z (show(0:Int)<(u.length:Int) by lia);lia⟩
   rw[ei,cU];refine⟨.str u[i].1,cR (by rw[zba,zak hi];rfl),?_⟩;have hkn:u[i].1∈nms u:=zcw.mpr ⟨_,zby hi,rfl⟩;generalize u[i].1=kn at hkn;refine⟨u,ts,kn,rfl,ro,hkn,λws hw hwl=>?_⟩;show bZ _ _ (D.lst (ws.map (k7 kn)));simp only[bZ];obtain⟨m,t,e,nn,X⟩:=X2;refine bf (λrest δ S3=>∃(w2:List (List Sp))(v8 v9:Option D),rest=w2.map (k7 kn)/\(∀ss∈w2,ss∈ws)/\S3=S2/\δ=[some (.lz ns),some (.int k),some (.int z),some (mD n b L I),some (mD (n+1) n [b] m1),some (mD (n+1+1) (n+1) [n] m2),some (jj u ts),some (.loc S'.length),v8,v9]) ?_ ?_ _ _ _ ⟨ws,v8,v9,rfl,λss h=>h,rfl,rfl⟩
   ·rintro δ S3 ⟨w2,v8,v9,_,_,rfl,rfl⟩;exact⟨trivial,hN' _ _ ⟨_,_,_,_,_,_,_,_,_,rfl,λx h=>hx x (zay _ h)⟩⟩
   ·rintro y rest δ S3 N2 ⟨w2,v8,v9,G,hm,rfl,rfl⟩ hN2;cases w2 with
    |nil=>simp at G
    |cons ss w2=>
     rw[zcj] at G;injection G with e1 e2;subst e1;subst e2;obtain⟨so,sl⟩:=hw ss (hm ss (by simp));have wk:jq u kn ss:=⟨hkn,so⟩
     have rv:∀y,y∈nms u->y∈nms u.reverse:=λy hy=>by
      obtain⟨k,hk,rfl⟩:=zcw.mp hy;exact zcw.mpr ⟨k,zbE.mpr hk,rfl⟩
     have wk':jq u.reverse kn ss:=⟨rv _ hkn,λs hs=>⟨rv _ (so s hs).1,(so s hs).2⟩⟩
     have hnr:(nms u.reverse).Nodup:=by unfold nms;rw[List.map_reverse];exact List.pairwise_reverse.mpr (ro.nd.imp λh=>Ne.symm h)
     have ag:∀{n b:Nat}{L:List Nat}{I:List Mv}{Q':AK}(g:GM 62 n b L I)(k0:Str)(s0:List Sp),jq u k0 s0->(∀v:Bool,(v=true↔∃e∈L,Rb (wr (aQ u) k0 s0) I b e s0.length)->Q' (.dat (.bl v)) S3)->rV [jj u ts,mD n b L I,k7 k0 s0] S3 Q':=λ{n b L I Q'} g k0 s0 w0 q'=>
      ⟨n,b,L,I,u,ts,k0,s0,rfl,ro.nd,w0,g.b,g.e,g.en,g.n6,g.ok,by have:=g.len;lia,ro.tx,q'⟩
     have ai:∀{n b:Nat}{L:List Nat}{I:List Mv}{Q':AK}(g:GM 62 n b L I),(∀v:Bool,(v=true↔∃e∈L,Rb (wr (aQ u) kn ss) I b e ss.length)->Q' (.dat (.bl v)) S3)->xr C w [.loc S'.length,mD n b L I,k7 kn ss] S3 Q':=λ{n b L I Q'} g q'=>
      ⟨S'.length,n,S'.length,b,L,I,u.reverse,ts,kn,ss,rfl,⟨_,m,t,e,nn,X⟩,hnr,wk',g.b,g.e,g.en,g.n6,g.ok,by have:=g.len;lia,λk hk=>ro.tx k (zbE.mp hk),λv hv=>q' v (by rw[LF ro.nd wk] at hv;exact hv)⟩
     have G0:GM 62 n b L I:=⟨gm.b,gm.e,gm.en,gm.ok,gm.nd,by have:=gm.n6;lia,by have:=gm.len;lia⟩
     have G1:GM 62 (n+1) n [b] m1:=⟨l.b,l.e,l.en,l.ok,l.nd,by have:=l.n6;lia,by have:=l.len;lia⟩
     refine⟨trivial,?_⟩;obtain⟨k',hk'⟩:∃k',(qN kn ss)[ss.length]? =some k':=⟨_,zak (by simp[qN])⟩
     have R:=Qy (mk:=aQ u) hk';simp only[bV,List.set_cons_succ,List.set_cons_zero];refine dR λN6 g6=>?_;push_cast[true_and];refine⟨kn,ss,rfl,by lia,λk1 hk1=>?_⟩;obtain rfl:k1=k':=by rw[hk'] at hk1;exact(zcN.inj hk1).symm
     refine ag G0 _ _ (LG wk hk') λd1 f1=>g6 _ _ ?_;clear g6;rw[jv] at f1;have t1:=k9 R.symm gm p1;refine gD (λQ' q'=>?_) ?_
     ·push_cast[true_and];refine ag G1 _ _ wk λd2 f2=>?_;obtain rfl:d2=d1:=zbY.mpr (f2.trans (t1.trans f1.symm));refine Jb ⟨false,rfl,?_⟩;rw[yIn (by decide)];refine ai G1 λd3 f3=>?_;obtain rfl:d3=d2:=zbY.mpr (f3.trans f2.symm);exact Jb ⟨false,rfl,q'⟩
     refine dR λN7 g7=>?_;push_cast[true_and];refine ag G0 _ _ wk λd4 f4=>g7 _ _ ?_;clear g7;have t2:=(k9 R.symm l p2).trans (k9 R gm p1);refine Ju (λQ' q'=>?_) (hN2 _ _ ⟨w2,_,_,rfl,λx h=>hm x (zay _ h),rfl,rfl⟩);push_cast[true_and];refine ag (show GM 62 _ _ _ _ from gm2) _ _ wk λd2 f2=>?_;obtain rfl:d2=d4:=zbY.mpr (f2.trans (t2.trans f4.symm));refine Jb ⟨false,rfl,?_⟩;rw[yIn (by decide)];refine ai G0 λd3 f3=>?_;obtain rfl:d3=d2:=zbY.mpr (f3.trans f4.symm);exact Jb ⟨false,rfl,q'⟩
  ·simp only[cy,zcw] at hx;obtain⟨k,_,rfl⟩:=hx;exact⟨k,by simp⟩
def zE(K:yaI):L2.Sp:=λvs H Q _=>∃(a:Addr)(ns:List Int),vs=[.ref a]/\cF K H a (ns.map V.int)/\ns.length<=63/\∀h,Q (.bl true) h
theorem LQ{k:Nat}(h:dS P w K mg base m5 k f fd tZ (au K DP)):dS P w K mg base m5 k f fd tZ (zE K):=h.imp λvs H Q E z=>by
 obtain⟨a,ns,rfl,i,_,q⟩:=z;refine⟨⟨H,λ_=>none⟩,[.lz ns],[],λr S=>r=.dat (.bl true),⟨gO.refl _,λn o e=>by simp at e,λn m o s e=>by simp at e,λ_ _=>rfl⟩,?_,⟨ns,rfl,rfl,rfl⟩,λr t v l j _ _ rep e=>?_⟩
 ·simp only[aq,Rep];exact⟨_,_,rfl,⟨a,rfl,i⟩,rfl⟩
 ·subst e;have:v=.bl true:=gU rep rfl;subst this;exact q j
open PySem L2
theorem all_mk{l:PySem.W.OpenLaw}{fa:Addr}(X:K.In h)(G:h.Ns yaq mg)(hfa:mg "law"=some (.ref fa)){b3:Tok}{dl:Tok}{i:Addr}{I:Option Addr}{a:Array yai}{as:Nat}{E:Array (Option yai)}{y:Addr}{ca:Option Addr}{o:Array yai}{c3:Nat}{b4:Array (Option yai)}{dn:Tok}{t_K:Tok}{t_T:Tok}(a_C:zcG K yaq "Web"=some (some (.ref C)))(ai:fK K "holds" (top 4))(O:fK K "takes" (top 5))(bi:fK K "laid_out" (top 10))(cf:fK K "new_stands" (top 11))(cq:fK K "cut" (top 12))(c7:fK K "by_stand" (top 13))(bj:fK K "gone_without_steps" (top 14))(bn:fK K "gone_by_step" (top 15))(am:fK K "goes_along" (top 16))(ch:fK K "machine_of" (top 18))(bm:fK K "goes" (top 19))(ba:fK K "moves_near" (top 20))(bo:fK K "_law_cell_at" (top 36))(ak:fK K "_law_draws" (top 37))(ag:fK K "_law_knots" (top 38))(L:fK K "_law_words" (top 39))(Y:fK K "_law_marks" (top 40))(a4:fK K "_law_rows" (top 41))(ab:fK K "_law_laid" (top 42))(S:fK K "_law_steps" (top 43))(bc:fK K "_law_leaf" (top 44))(a8:fK K "_law_part" uL)(a7:fK K "_law_pattern" (top 46))(Q:fK K "_law_still" (top 47))(cn:fK K "_law_by" (top 48))(ae:fK K "_law_gone" (top 49))(a2:fK K "_law_ways" (top 50))(c6:fK K "_law_is_machine" (top 52))(x:fK K "_law_is_stand" (top 53))(Z:fK K "_law_is_name" (top 54))(ac:fK K "_law_is_leaf" (top 55))(U:fK K "other_side" (top 27))(ci:fK K "leaf_backwards" (top 30))(a3:fK K "turned" (top 29))(bb:fK K "_law_machine" (top 51))(cr:fK K "_law_backwards" (top 56))(cm:fK K "law" xO)(q:C1 K C "__init__" "Web.__init__" uM)(a6:C1 K C "put_knot" "Web.put_knot" Eg)(a5:C1 K C "put_tie" "Web.put_tie" Ef)(ce:C1 K C "marks" "Web.marks" MC)(cp:C1 K C "has_tie" "Web.has_tie" MH)(a9:C1 K C "need_knot" "Web.need_knot" Ei)(be:C1 K C "lay_knot" "Web.lay_knot" El)(bd:C1 K C "lay_tie" "Web.lay_tie" zW)(j:zcG K yaq "isinstance"=some none)(cx:zcG K yaq "dict"=some none)(u:zcG K yaq "reversed"=some none)(da:zcG K yaq "str"=some none)(dk:zcG K yaq "int"=some none)(c0:zcG K yaq "bool"=some none)(df:zcG K yaq "len"=some none)(b1:zcG K yaq "tuple"=some none)(cw:zcG K yaq "list"=some none)(b2:zcG K yaq "range"=some none)(an:zcG K yaq "sorted"=some none)(db:zcG K yaq "set"=some none)(c8:zcG K yaq "zip"=some none)(de:zcG K yaq "max"=some none)(dd:zcG K yaq "min"=some none)(cb:zcG K yaq "BEGIN"=some (some (.int 0 b3)))(du:zcG K yaq "END"=some (some (.int 1 dl)))(aw:zcG K yaq "LEAVES"=some (some (.ref i)))(ax:K.lookup i=some ⟨.type "tuple",I,.seq a as,E⟩)(q_LEAVES:(a.toList.map strOf==(["stay","step","at","off"]:List Str).map some)=true)(c4:zcG K yaq "STAY"=some (some (.ref y)))(c5:K.lookup y=some ⟨.type "tuple",ca,.seq o c3,b4⟩)(q_STAY:(o.toList.map strOf==(["stay"]:List Str).map some)=true)(dv:zcG K yaq "ANY"=some (some (.str "*" dn)))(m_K:zcG K yaq "MOST_KNOTS"=some (some (.int 40 t_K)))(m_T:zcG K yaq "MOST_TIES"=some (some (.int 300 t_T)))(d3:zbH K C Str.empty=true)(d6:zbm K C=true)(d2:PySem.W.plainOver K C=true)(d1:zce K (.ref C) "__setattr__"=some (some (.builtin "object.__setattr__")))(ap:zce K (.ref C) "marked"=some none)(c1:zce K (.ref C) "tied"=some none)(c2:zce K (.ref C) "near"=some none)(d4:PySem.W.makesIn K C=true)(d5:zcf K (.ref C)=true):
  ∃fd:yap,(∀(s:yah)(v:yai),yaA s fd ⟨[v],[]⟩ [("_law_script",v)])/\∀base:Heap,K.In base->base.Ns yaq mg->dS l.prog w K mg base m5 16 fa fd ["_law_script"] (zE K):=by
 have CU:=ai.src (ps:=iQ) X G λ_ _ _ _ _ _=>J.yU (λ_ _=>rfl);have CJ:=O.src (ps:=iH) X G λ_ _ _ _ _ _=>J.J2 (λ_ _ _=>rfl);have GR:=bi.src (ps:=kQ) X G λ_ _ _ _ _ _=>J.AZ (λ_=>rfl);have Ko:=cf.src (ps:=lY) X G λ_ _ _ _ _ _=>J.AZ (λ_=>rfl);have Ku:=cq.src (ps:=pP) X G λ_ _ _ _ _ _=>J.yU (λ_ _=>rfl);have Pa:=c7.src (ps:=wB) X G λ_ _ _ _ _ _=>J.yU (λ_ _=>rfl);have GU:=bj.src (ps:=kR) X G λ_ _ _ _ _ _=>J.J2 (λ_ _ _=>rfl);have GX:=bn.src (ps:=kU) X G λ_ _ _ _ _ _=>J.by4 (λ_ _ _ _=>rfl);have CW:=am.src (ps:=iR) X G λ_ _ _ _ _ _=>J.by5 (λ_ _ _ _ _=>rfl);have Kp:=ch.src (ps:=pL) X G λ_ _ _ _ _ _=>J.AZ (λ_=>rfl);have GV:=bm.src (ps:=kT) X G λ_ _ _ _ _ _=>J.J2 (λ_ _ _=>rfl);have GK:=ba.src (ps:=kL) X G λ_ _ _ _ _ _=>J.AZ (λ_=>rfl);have GY:=bo.src (ps:=kW) X G λ_ _ _ _ _ _=>J.yU (λ_ _=>rfl);have CV:=ak.src (ps:=e7) X G λ_ _ _ _ _ _=>J.yU (λ_ _=>rfl);have CT:=ag.src (ps:=iP) X G λ_ _ _ _ _ _=>λus e=>by cases us with|nil=>rfl|cons _ _=>cases e
 have CI:=L.src (ps:=fV) X G λ_ _ _ _ _ _=>λus e=>by cases us with|nil=>rfl|cons _ _=>cases e
 have CN:=Y.src (ps:=fW) X G λ_ _ _ _ _ _=>λus e=>by cases us with|nil=>rfl|cons _ _=>cases e
 have GB:=a4.src (ps:=kH) X G λ_ _ _ _ _ _=>J.yU (λ_ _=>rfl);have CP:=ab.src (ps:=iM) X G λ_ _ _ _ _ _=>J.AZ (λ_=>rfl);have CL:=S.src (ps:=iJ) X G λ_ _ _ _ _ _=>J.yU (λ_ _=>rfl);have GN:=bc.src (ps:=gB) X G λ_ _ _ _ _ _=>J.yU (λ_ _=>rfl);have GH:=a8.src (ps:=dJ) X G λ_ _ _ _ _ _=>J.J2 (λ_ _ _=>rfl);have GF:=a7.src (ps:=kK) X G λ_ _ _ _ _ _=>J.yU (λ_ _=>rfl);have CK:=Q.src (ps:=iI) X G λ_ _ _ _ _ _=>J.J2 (λ_ _ _=>rfl);have Kr:=cn.src (ps:=pN) X G λ_ _ _ _ _ _=>J.by4 (λ_ _ _ _=>rfl);have CS:=ae.src (ps:=iO) X G λ_ _ _ _ _ _=>J.J2 (λ_ _ _=>rfl);have Gy:=a2.src (ps:=kF) X G λ_ _ _ _ _ _=>J.by4 (λ_ _ _ _=>rfl);have O9:=c6.src (ps:=wA) X G λ_ _ _ _ _ _=>J.yU (λ_ _=>rfl);have zk:=x.src (ps:=fX) X G λ_ _ _ _ _ _=>J.yU (λ_ _=>rfl);have CO:=Z.src (ps:=iL) X G λ_ _ _ _ _ _=>J.AZ (λ_=>rfl);have CQ:=ac.src (ps:=iN) X G λ_ _ _ _ _ _=>J.AZ (λ_=>rfl);have CM:=U.src (ps:=iK) X G λ_ _ _ _ _ _=>J.AZ (λ_=>rfl);have Kq:=ci.src (ps:=pM) X G λ_ _ _ _ _ _=>J.AZ (λ_=>rfl);have Gz:=a3.src (ps:=kG) X G λ_ _ _ _ _ _=>J.AZ (λ_=>rfl);have GL:=bb.src (ps:=kM) X G λ_ _ _ _ _ _=>J.yU (λ_ _=>rfl);have Kv:=cr.src (ps:=pQ) X G λ_ _ _ _ _ _=>J.AZ (λ_=>rfl);have RU:=q.src (ps:=jb) λ_ _ _ _ _ _=>J.AZ (λ_=>rfl);have GD:=a6.src (ps:=kJ) λ_ _ _ _ _ _=>J.J2 (λ_ _ _=>rfl);have GC:=a5.src (ps:=kI) λ_ _ _ _ _ _=>J.by4 (λ_ _ _ _=>rfl);have Km:=ce.src (ps:=pK) λ_ _ _ _ _ _=>J.yU (λ_ _=>rfl);have Ks:=cp.src (ps:=pO) λ_ _ _ _ _ _=>J.by4 (λ_ _ _ _=>rfl);have GJ:=a9.src (ps:=ja) λ_ _ _ _ _ _=>J.yU (λ_ _=>rfl);have GQ:=be.src (ps:=kP) λ_ _ _ _ _ _=>J.J2 (λ_ _ _=>rfl);have GP:=bd.src (ps:=kO) λ_ _ _ _ _ _=>J.by4 (λ_ _ _ _=>rfl);obtain⟨d7,d0,dV,ay,bp,ar,bS,bv,bt,dL,cv,cc,cs,cd⟩:=cm.ex;obtain⟨a1,dt,ds,dx,dy,dr,dE,dC,dA,dq,b0,m,t,n,a0⟩:=q.ex;have e:=hfa.symm.trans (zcs X G cv);cases e;have F:=jA (st:=xO) cc cs cd;have T:Txt K mg C a1:=⟨zaW X G j,zaW X G cx,zaW X G u,zaW X G da,zaW X G dk,zaW X G c0,zaW X G df,zaW X G b1,zaW X G cw,zaW X G b2,zaW X G an,zaW X G db,zaW X G c8,zaW X G de,zaW X G dd,⟨_,zcs X G cb⟩,⟨_,zcs X G du⟩,⟨_,zcs X G aw,λH=>DC ax q_LEAVES (by decide) H⟩,⟨_,zcs X G dv⟩,⟨_,zcs X G m_K⟩,⟨_,zcs X G m_T⟩,zcs X G a_C,⟨d3,d6,d2,d1⟩,⟨d4,b0,a0,d5⟩,ap,c1,c2,⟨_,zcs X G c4,λH=>DC c5 q_STAY (by decide) H⟩⟩
 refine⟨zcF "law" "law" (cC xO) (bE xO) (ah xO) .none ay bp ar bS bv bt,λs v=>.of_eq rfl,λbase _ _=>?_⟩;have LB:=Rw (P:=l.prog) (w:=w) (base:=base) T Ko;have ua:=JV (P:=l.prog) (w:=w) (base:=base) T CV;have Bx:=JJ (P:=l.prog) (w:=w) (base:=base) T CI;have kY:=JO (P:=l.prog) (w:=w) (base:=base) T CN;have Hi:=Ox T GN Bx kY;have Hh:=Ou (P:=l.prog) (w:=w) (base:=base) T GJ;have R5:=RB (P:=l.prog) (w:=w) (base:=base) T Ks;have Pe:=OD (P:=l.prog) (w:=w) (base:=base) T (jA (st:=uM) m t n);have Pj:=(jA (st:=uM) m t n).binds (ps:=jb) λ_ _ _ _ _ _=>J.AZ (λ_=>rfl);have Pf:=OE (P:=l.prog) (w:=w) (base:=base) T GU (JU T CU);have Pg:=OG (P:=l.prog) (w:=w) (base:=base) T GX (JK T CJ);have t9:=OF T GV (Ov T GK (Tw T Pa)) (JW T CW Pf Pg (Ru T Km Hh));exact LQ (OB T F (OH T GY) (Ow T GL ua Hi) (Ot T GF ua (FW T GH Hi 2 (by lia))) (Rx T Kp (OC T GR LB (RC T Ku LB))) (Ol T Gz (Rz T Kq (JN T CM))) (Tv T O9 (FY T zk) (JR T CQ (JP T CO))) (Om T GB ua (JT T CT) Bx kY) (JQ T CP Pe Pj (Oq T GD (OA T GQ)) (Oo T GC Hh R5 (Oz T GP))) (Oj T Gy (JM T CL)) (RD T Kv) t9 (JS T CS (JL T CK) (RA T Kr)))
theorem walk{l:PySem.W.OpenLaw}{q:yaj}{d:DefRec}{K:Params->yaI}(m:l.most=some 63)(i:d.params.defaults=[])(t:∀(w:yak)(h:Heap),YP w h->(K w.params).In h)(F:∀(w:yak)(mg:Str->Option yai)(j:Addr)(h:Heap),(K w.params).In h->h.Ns yaq mg->mg d.name=some (.ref j)->∃fd:yap,(∀(s:yah)(u:yai),yaA s fd ⟨[u],[]⟩ [("_law_script",u)])/\∀base:Heap,(K w.params).In base->base.Ns yaq mg->dS l.prog w (K w.params) mg base m5 16 j fd ["_law_script"] (zE (K w.params))):
  PySem.W.WalkO q loose XP YP l.row.toRowW d [] (λf vs=>PySem.call f vs):=
 L2.HA (n:=63) (k:=16) (x:="_law_script") (CX:=λ_=>m5) (sp:=λw=>zE (K w.params)) m (by decide) i ⟨rfl,by decide,by decide,rfl⟩ t F (λ_ _ a ns o _ v=>⟨a,ns,rfl,v,o,λ_=>rfl⟩) λ_ _ _ _ _ z=>z
end K35
open PySem PySem.W PyProof.Rows
namespace PySem.Challenge.cw_pathask_k35_whole_turned_holds
def tw1033884790483035941:=Nat
def tw923333497920214853:=Nat
def tw7653864638266989229:=Nat
def tw1953943015865412001:=Nat
def tw6746019174781101445:=Nat
def tw8922875673430378201:=Nat
def tw6185907211277742771:=Nat
def tw4400908722672865044:=Nat
def tw6781783629081356433:=Nat
def tw13204799952606301205:=Nat
def tw2471621903279025613:=Nat
def tw863442408109878384:=Nat
def tw15501288346613312452:=Nat
def tw1551133138248078368:=Nat
def tw5170310247229041603:=Nat
def tw8673698484808211215:=Nat
def tw15125891586515931365:=Nat
def tw351156840064509552:=Nat
def tw4167916375751423852:=Nat
def tw13043579714808340590:=Nat
def tw14954239392199775037:=Nat
def tw16964559287067675883:=Nat
def tw5004890144211934478:=Nat
def tw2232928926005308697:=Nat
def tw14792675255164668030:=Nat
def tw5660746217733338369:=Nat
def tw10032466267228431300:=Nat
def tw2336122582241369323:=Nat
def tw6836893179442646044:=Nat
def tw16607221543887594292:=Nat
def tw12058072221290944694:=Nat
def tw7713574631772300826:=Nat
def tw12275024356083802150:=Nat
def tw15583979011479968863:=Nat
def tw9683668296872498498:=Nat
def tw5821456680588945350:=Nat
def tw12656669419952890317:=Nat
def tw956098620241296507:=Nat
def tw7943086619461121532:=Nat
def tw17135447893199031579:=Nat
def tw9764282265993784593:=Nat
def tw18045098456783917683:=Nat
def tw15299038429623054312:=Nat
def tw12422900011043428782:=Nat
def tw6043384720538716053:=Nat
def tw4005259118457202149:=Nat
def tw8889210001611957575:=Nat
def tw1414715406900097769:=Nat
def tw13359523894420376843:=Nat
def tw10030342932937621344:=Nat
def tw13885530441552210476:=Nat
def tw18400195543187284427:=Nat
def tw16692305107038090708:=Nat
def tw5796715304115098620:=Nat
def tw8246202165827665807:=Nat
def tw8874837055968795603:=Nat
def tw7368742475655721770:=Nat
def tw10235889124368252275:=Nat
def tw25271992116002181:=Nat
def tw5745847186324766190:=Nat
def tw7157662420518998976:=Nat
def tw1319697094625780720:=Nat
def tw5871003542641367065:=Nat
def tw13940500218883080450:=Nat
def tw678552869402337122:=Nat
def tw5772711928641694229:=Nat
def tw3706898832367021828:=Nat
def tw4909994565454620852:=Nat
def tw2056836929757571816:=Nat
def tw12064014238515045428:=Nat
def tw15098166682289262081:=Nat
def tw9201370328751492417:=Nat
def tw14399363057304540813:=Nat
def tw7912285148349176195:=Nat
def tw6697304619812336888:=Nat
def tw9219180806140386537:=Nat
def tw4688319987206667698:=Nat
def tw10379153501183202950:=Nat
def tw4749338725158667618:=Nat
def tw15911104925817450218:=Nat
def tw1919562188219675901:=Nat
def tw16953826684593522806:=Nat
def tw2781350659953670346:=Nat
def tw9508899072824267066:=Nat
def tw4837449236529211828:=Nat
def tw12912749093177842569:=Nat
def tw4791547133525591361:=Nat
def tw4037454180542883489:=Nat
def tw14582496813501186190:=Nat
def tw4979501121866976511:=Nat
def tw3000583893621856833:=Nat
def tw5192556269096104147:=Nat
def tw17249755660036316721:=Nat
def tw1610381211139242713:=Nat
def tw12490504856269818438:=Nat
def tw5016515055500571701:=Nat
def tw1028899084825975362:=Nat
def tw8984090470789484085:=Nat
def tw1915823353847715014:=Nat
def tw4126129596258365800:=Nat
def tw1059379106789041403:=Nat
def tw358275606509538238:=Nat
def tw15271314737106045746:=Nat
def tw17880038286207542293:=Nat
def tw2753473894148749995:=Nat
def tw13304016660595026327:=Nat
def tw16194873387235498095:=Nat
def tw7693088269258811770:=Nat
def tw672942721535638070:=Nat
def tw14286932218131895704:=Nat
def tw8019787420742216504:=Nat
def tw3272264060341291236:=Nat
def tw7408363541084384892:=Nat
def tw15154825791015039121:=Nat
def tw17010577016186625478:=Nat
def tw16039302892509874955:=Nat
def tw10313750699982458422:=Nat
def tw13306092639876114367:=Nat
def tw9637604471854922465:=Nat
def tw10163142411549904955:=Nat
def tw1434209761137944030:=Nat
def tw4997333209283042305:=Nat
def tw8957840217538667225:=Nat
def tw402936193304910593:=Nat
def tw12555905895206095102:=Nat
def tw8776124146022127843:=Nat
def tw13923319885449507623:=Nat
def tw6869596036951664265:=Nat
def tw4888696374480231481:=Nat
def tw17083907713914466325:=Nat
def tw14343837333882458567:=Nat
def tw966781819542358687:=Nat
def tw3598868229824607397:=Nat
def tw2571536322920504587:=Nat
def tw9991425859155416320:=Nat
def tw9838957857647598034:=Nat
def tw8486199251312894166:=Nat
def tw11358907155450501383:=Nat
def tw9263709424278580582:=Nat
def tw12738202759201888463:=Nat
def tw1243353042888790549:=Nat
def tw7596702111084082464:=Nat
def tw12508981213936975174:=Nat
def tw988603482887254479:=Nat
def tw1955923875905201320:=Nat
def tw5873002163120622562:=Nat
def tw17128906351118552205:=Nat
def tw12334508056429637255:=Nat
def tw14498902442404178107:=Nat
def tw7639607734440353019:=Nat
def tw214531865745953209:=Nat
def tw9511663843776845100:=Nat
def tw11465518150210015047:=Nat
def tw5574165631316588321:=Nat
def tw4453458436796796591:=Nat
def tw11042104454810616403:=Nat
def tw18186573430455317993:=Nat
def tw17172780088835462009:=Nat
def tw8593045656374176999:=Nat
def tw4880943543978943619:=Nat
def tw5974972608270504310:=Nat
def tw9395418698778527955:=Nat
def tw13119041941875077174:=Nat
def tw13957613232890435186:=Nat
def tw1646455790114261667:=Nat
def tw17026627952598126617:=Nat
def tw9959689013890637628:=Nat
def tw11345229305940440136:=Nat
def tw15801548771099601814:=Nat
def tw7166873377452584705:=Nat
def tw11809449692469366602:=Nat
def tw12921805862216625026:=Nat
def tw16796487190322966028:=Nat
def tw13759815868463958323:=Nat
def tw14067908876686159505:=Nat
def tw17401315185422247061:=Nat
def tw11802005167048753792:=Nat
def tw14167662229132703831:=Nat
def tw15660851649057399223:=Nat
def tw3953216676613049184:=Nat
def tw13793928161476290860:=Nat
def tw14038986238550326801:=Nat
def tw17154702759552894203:=Nat
def tw15342969677770613036:=Nat
def tw12035338853878787646:=Nat
def tw15848892241696280625:=Nat
def tw17687221336310216279:=Nat
def tw11642485067819927535:=Nat
def tw10400239252155235470:=Nat
def tw1091085956889232475:=Nat
def tw16696462527199157194:=Nat
def tw12508836290422734455:=Nat
def tw14210104821706038095:=Nat
def tw5662674066176323231:=Nat
def tw3682403856073998060:=Nat
def tw6219863063803284882:=Nat
def tw8427279813518318855:=Nat
def tw16500616241458391764:=Nat
def tw16233831470399306877:=Nat
def tw10812188125743740797:=Nat
def tw8680715243761033087:=Nat
def tw9057471807633277132:=Nat
def tw11354189330080824278:=Nat
def tw17152049576829872243:=Nat
def tw3789977659836896110:=Nat
def tw1270612576130652147:=Nat
def tw16285190179215179581:=Nat
def tw9742569891503646667:=Nat
def tw11667197047312448975:=Nat
def tw17474489516285337363:=Nat
def tw6500686633131930052:=Nat
def tw12126650852234276976:=Nat
def tw17314359189103249204:=Nat
def tw15748391617372131049:=Nat
def tw4387724909397347918:=Nat
def tw10994026256576790023:=Nat
def tw10558065506115356003:=Nat
def tw2197738540469615471:=Nat
def tw24359615636558174:=Nat
def tw8006456395785371051:=Nat
def tw7705036000326553792:=Nat
def tw4937243627333273641:=Nat
def tw2067667710414479801:=Nat
def tw18071660311266393942:=Nat
def tw6937287704087950130:=Nat
def tw3138154061982585383:=Nat
def tw11636571344604605978:=Nat
def tw9649723263417225772:=Nat
def tw7065004510140036318:=Nat
def tw2066385915142909324:=Nat
def tw17421240677607410021:=Nat
def tw13027391775363259600:=Nat
def tw17455103647935084119:=Nat
def tw14433923714167906525:=Nat
def tw6362610993814422432:=Nat
def tw1074583824497815795:=Nat
def tw11426062912880817183:=Nat
def tw16730690838680730180:=Nat
def tw7102730175866365058:=Nat
def tw13657935655975326659:=Nat
def tw15336448168085167640:=Nat
def tw1328282757157873917:=Nat
def tw6830050918786030114:=Nat
def tw8752749837531576416:=Nat
def tw13415819338581204130:=Nat
def tw13111108395938197935:=Nat
def tw9778241329356941071:=Nat
def tw10516613072541507571:=Nat
def tw12913283907058184424:=Nat
def tw10071990447719662043:=Nat
def tw11954888423338712902:=Nat
def tw17136915754047898422:=Nat
def tw12697138232785031281:=Nat
def tw14403415606781204123:=Nat
def tw9676925246047309062:=Nat
def tw6760279338228315807:=Nat
def tw15408309885753684867:=Nat
def tw13943889603566824093:=Nat
def tw11822081448074327280:=Nat
def tw17134274600482976548:=Nat
def tw18038839752514789644:=Nat
def tw15816652408663707527:=Nat
def tw11581965038047925049:=Nat
def tw1606002723604653928:=Nat
def tw12028385291354733256:=Nat
def tw16898796704308158827:=Nat
def tw3524220125286243122:=Nat
def tw10379719228018137611:=Nat
def tw1516451400086965109:=Nat
def tw10628559755418509582:=Nat
def tw3081428391880028734:=Nat
def tw17302378454392694020:=Nat
def tw12940468530359725110:=Nat
def tw2499499127558164116:=Nat
def tw10764265149183903936:=Nat
def tw14685750800013790166:=Nat
def tw1944226473341774887:=Nat
def tw1324455351218790520:=Nat
def tw3057222285768471929:=Nat
def tw7429949512616816732:=Nat
def tw1895523880493230338:=Nat
def tw4464304073090207306:=Nat
def tw8908686882204167523:=Nat
def tw444372433305583138:=Nat
def tw11079405709100897226:=Nat
def tw1490529059896329203:=Nat
def tw2774550519855072292:=Nat
def tw7112964178038659800:=Nat
def tw4317402726479866633:=Nat
def tw8624697872593786044:=Nat
def tw3718651381836874536:=Nat
def tw14291373278816962136:=Nat
def tw17905994434700226231:=Nat
def tw16520212014391416241:=Nat
def tw7092615453036984153:=Nat
def tw8283538149143004316:=Nat
def tw14619089054310677422:=Nat
def tw10605949571685648135:=Nat
def tw4029129793462615291:=Nat
def tw11389210103543049741:=Nat
def tw4077578093039716484:=Nat
def tw13531615622676666013:=Nat
def tw10585392659391891148:=Nat
def tw6822366299122128042:=Nat
def tw16737767628485326299:=Nat
def tw18167784591171904068:=Nat
def tw1910062977662670808:=Nat
def tw13205335039941649396:=Nat
def tw14170343448757293074:=Nat
def tw7471708002125128605:=Nat
def tw17844675139770326163:=Nat
def tw4457239957921669243:=Nat
def tw13934192120004620315:=Nat
def tw9510505269196672451:=Nat
def tw3982471624463051283:=Nat
def tw14142758039342111089:=Nat
def tw4114719047533396552:=Nat
def tw15120858737549288915:=Nat
def tw5208608912356638071:=Nat
def tw11772539999903117184:=Nat
def tw3473681326769696098:=Nat
def tw3327263120280053550:=Nat
def tw3210203060880509638:=Nat
def tw1798888624519559041:=Nat
def tw12370920058762788846:=Nat
def tw13890898583754469372:=Nat
def tw1244592069810890013:=Nat
def tw5468453153231533420:=Nat
def tw4436913357010715963:=Nat
def tw11474962753442390394:=Nat
def tw7927868557166329107:=Nat
def tw5516326812015477353:=Nat
def tw14003499379389973693:=Nat
def tw10696143555128698656:=Nat
def tw15004704607551709617:=Nat
def tw1556650263644534460:=Nat
def tw8252018996048385391:=Nat
def tw17255407536409355265:=Nat
def tw5904819370539289207:=Nat
def tw213553216746394695:=Nat
def tw15545409142580313067:=Nat
def tw10561067006380037736:=Nat
def tw4905780319515713834:=Nat
def tw1501730139006177956:=Nat
def tw8546251238501560175:=Nat
def tw8650795125513247123:=Nat
def tw8691106308825796810:=Nat
def tw14112617242746512499:=Nat
def tw12872105876038016509:=Nat
def tw5848917465701266189:=Nat
def tw8860149003987371376:=Nat
def tw1344577715310708030:=Nat
def tw471218934847288798:=Nat
def tw6884294797137278235:=Nat
def tw6412582240360934366:=Nat
end PySem.Challenge.cw_pathask_k35_whole_turned_holds
set_option Elab.async true in
set_option maxRecDepth 100000 in
set_option maxHeartbeats 0 in
theorem PySem.Challenge.cw_pathask_k35_whole_turned_holds : PySem.Challenge.rw_pathask_k35_whole_turned.Holds := by
 w_on;o_law;k_head;(case hw=>w_witness2)
 k_fill
 refine K35.walk (l:=PySem.Challenge.rw_pathask_k35_whole_turned) rfl rfl (λw h Y=>PySem.W.kIn_of Y) ?F
 case F =>
  intro w mg fa h KX G hmg
  refine' K35.all_mk KX G hmg ?_ ?_ ?_ ?_ ?_ ?_ ?_ ?_ ?_ ?_ ?_ ?_ ?_ ?_ ?_ ?_ ?_ ?_ ?_ ?_ ?_ ?_ ?_ ?_ ?_ ?_ ?_ ?_ ?_ ?_ ?_ ?_ ?_ ?_ ?_ ?_ ?_ ?_ ?_ ?_ ?_ ?_ ?_ ?_ ?_ ?_ ?_ ?_ ?_ ?_ ?_ ?_ ?_ ?_ ?_ ?_ ?_ ?_ ?_ ?_ ?_ ?_ ?_ ?_ ?_ ?q_LEAVES ?_ ?_ ?q_STAY ?_ ?_ ?_ ?_ ?_ ?_ ?_ ?_ ?_ ?_ ?_ ?_
  (case q_LEAVES=>kernel_rfl)
  (case q_STAY=>kernel_rfl)
  all_goals try first | (refine' L2.fK.of ?a ?l ?c ?k;(case a=>k_is);(case l=>k_is);(case c=>k_is);(case k=>k_is)) | (refine' L2.C1.of ?a ?l ?c ?k ?i;(case a=>k_is);(case l=>k_is);(case c=>k_is);(case k=>k_is);(case i=>k_is)) | k_is
