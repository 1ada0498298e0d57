import PyProof.Rows.All
import Wide.All
import OpenK.AllK
import Wide.FinOn
import Lean
import PyProof.EqAt
import PyProof.EqKinds
import PyProof.TupleCall
import KE.KRevIter
import KE.KIntText
import PyProof.Rows.StrNews
import KE.KSortTup
import PyProof.Rows.SetFrom
import PyProof.WalksMore
import KE.KRevSl
import PyProof.ZipIter
import PyProof.TupleIter
import PyProof.Rows.SortRuns
import PyProof.WalksEnum
import PyProof.EnumMake
import PyProof.SetRoads
import KE.KItemsList
import PyProof.ListRange
import PySem.Challenge.RW_pathask_k14_lines_that_write_no_web
set_option compiler.extract_closed false
theorem q0(h:0=0:=by rfl)(j:0=0:=by decide):0=0:=rfl
def r0:=q0._auto_1
def r1:=q0._auto_3
open List renaming eq_nil_of_length_eq_zero->zaa,getElem?_append_right->zab,getElem?_eq_some_iff->zae,getElem?_append_left->zaf,drop_eq_getElem_cons->zag,pairwise_iff_getElem->zah,extract_eq_take_drop->zai,mem_of_find?_eq_some->zaj,getElem?_eq_getElem->zal,getElem?_cons_succ->zam,getElem?_cons_zero->zan,drop_eq_nil_of_le->zao,take_of_length_le->zap,mem_append_right->zat,getElem?_eq_none->zau,take_append_drop->zav,perm_append_comm->zaw,mem_cons_of_mem->zaA,mem_append_left->zaB,getElem?_set_ne->zaC,pairwise_append->zaD,mem_of_mem_take->zaE,mem_of_mem_drop->zaF,replicate_succ->zaH,getElem_of_mem->zaI,map_congr_left->zaJ,mem_cons_self->zaN,length_append->zaO,contains_cons->zaP,getElem?_take->zaQ,zip_cons_cons->zaR,mem_singleton->zaS,pairwise_cons->zaT,set_cons_zero->zaU,size_toArray->zbc,any_eq_false->zbd,getElem?_map->zbe,flatten_cons->zbf,append_assoc->zbg,getElem?_set->zbh,nodup_append->zbi,getElem_drop->zbj,getElem_take->zbk,pairwise_map->zbl,flatMap_cons->zbm,length_cons->zbu,length_take->zbv,length_drop->zbw,lookup_cons->zbx,all_eq_true->zby,drop_length->zbz,take_length->zbA,getElem_mem->zbB,not_mem_nil->zbC,map_fst_zip->zbD,map_snd_zip->zbE,getElem_zip->zbF,any_eq_true->zbG,mem_append->zbM,length_map->zbN,append_nil->zbO,nodup_cons->zbP,of_mem_zip->zbQ,find?_cons->zbR,length_nil->zbS,nil_append->zbT,map_append->zbU,length_set->zbV,length_zip->zbW,mem_range->zcd,replicate->zce,drop_zero->zcf,mem_cons->zcn,map_cons->zco,any_cons->zcp,all_cons->zcq,map_take->zcr,map_drop->zcs,map_nil->zcB,any_map->zcC,set_set->zcD,mem_map->zcE,map_map->zcF,lookup->zcQ,length->zcR,range->zcX,getD->zcY
open Array renaming perm_iff_toList_perm->zac,toList_setIfInBounds->zad,getElem?_toList->zax,toList_extract->zaG,length_toList->zaK,toList_append->zaL,toList_push->zbo,toList_inj->zbI
open PySem.Calls renaming call_function_entry->zak,spliced_cons->zbb,spliced_nil->zbt
open PySem.W renaming cellsFrom_some->zaq,methodCall_KW->zay,callWith_K->zaZ,mg_none_of->zba,hasDictIn->zbp,emptyDict->zbq,specialIn->zbr,plainGet->zbJ,instObj->zcb,kia_one->zcc,findIn->zci,keepIn->zcj,kitOne->zck,codeIn->zcl,subIn->zcz,mg_of->zcA,isFn->zcM,fnOf->zcN,nsIn->zcO
open PySem.Heap renaming get?_push_of_some->zar,get?_update_other->zas,get?_update_self->zaz,get?_push_size->zaM,size_push->zcm,lt_size->zcP
open Nat renaming lt_of_lt_of_le->zaV,lt_succ_of_lt->zbn,min_eq_left->zbX,le_add_left->zbY,lt_irrefl->zct,ne_of_lt->zcG,le_trans->zcH,ne_of_gt->zcI,lt_or_ge->zcJ,le_refl->zcS,zero_le->zcT,le_succ->zcU
open Int renaming emod_lt_of_pos->zaW,emod_nonneg->zbZ,le_trans->zcK,le_of_lt->zcL,le_refl->zcV
open Bool renaming false_ne_true->zaX,false_eq_true->zaY,and_eq_true->zbH,eq_iff_iff->zca,false_and->zcg,and_false->zch,false_or->zcu,or_false->zcv,and_self->zcw,and_true->zcx,true_and->zcy
open Option renaming isSome_map->zbs,getD_some->zbK,bind_some->zbL,some->zcW
open PySem renaming wpAny_bind->yaa,wpAny_pure->yab,wpAny_mono->yac,wpAny_holding->yad,wpAny_loadPart_at->yae,wpAny_newObj_type->yaf,sizeLine_eq->yag,sizeLine->yah,Shared->yai,Value->yaj,Program->yak,World->yal,Around->yam,PyData->yan,compareOp->yao,starEach->yap,FuncData->yaq,mainGlobals->yar,wpAny->yas,sysModules->yat,swapsWith->yau,backTo->yav,DictEntry->yaw,GenState->yax,codeAny_mono->yay,wpAny_standAt->yaz,recursionLimit->yaA,callWith->yaB,bindArgs->yaC,BindsTo->yaD,wpAny_loadPart->yaE,getMethod->yaF,keywordEach->yaG,backToKw->yaH,wpAny_execs_nil->yaI,wpAny_execs_cons->yaJ,OsState->yaK,wpAny_call->yaL
open PySem.W renaming Frag->yaM
theorem yDf{p:Prop}[Decidable p](h:¬p):decide p=false:=decide_eq_false h
theorem yDt{p:Prop}[Decidable p](h:p):decide p=true:=decide_eq_true h
theorem yIn.{u}{c:Prop}{h:Decidable c} (n:¬c) {a:Sort u}{t e:a}:(ite c t e)=e:=if_neg n
theorem yIp.{u}{c:Prop}{h:Decidable c} (n:c) {a:Sort u}{t e:a}:(ite c t e)=t:=if_pos n
theorem ySz(n:Nat)(h:autoParam (n<=100) r1):n<=PySem.sizeLine:=by rw[PySem.sizeLine_eq];lia
set_option Elab.async false
set_option linter.all false
set_option genSizeOf false
set_option maxRecDepth 100000
namespace L2
open PySem PySem.Spec PyProof.Rows
abbrev Key:=Sum Int Str
noncomputable def oO:Key->yaj->Bool
 |.inl k,v=>Value.isInt k v
 |.inr x,v=>Value.isStrOf x v
noncomputable def R0(w:yal):Key->Int
 |.inl k=>hashInt k
 |.inr x=>hashStr w x
theorem bK:∀{k:Key}{v:yaj},oO k v=true->(∃i t,k=Sum.inl i/\v=Value.int i t)∨(∃x t,k=Sum.inr x/\v=Value.str x t)
 |.inl i,v,h=>by
  obtain⟨t,e⟩:=Value.isInt_shape (k:=i) (v:=v) h;exact .inl ⟨i,t,rfl,e⟩
 |.inr x,v,h=>by
  obtain⟨t,e⟩:=Value.isStrOf_shape (x:=x) (v:=v) h;exact .inr ⟨x,t,rfl,e⟩
theorem Bs(i:Int)(t:Tok):oO (.inl i) (.int i t)=true:=by simp[oO,Value.isInt]
theorem Br(x:Str)(t:Tok):oO (.inr x) (.str x t)=true:=by simp[oO,Value.isStrOf]
theorem Ms(a b:Int):decide ((Sum.inl a:Key)=Sum.inl b)=(a==b):=by
 by_cases e:a=b
 ·subst e;simp
 ·have h:¬(Sum.inl a:Key)=Sum.inl b:=λq=>e (Sum.inl.inj q);rw[yDf h];exact(beq_eq_false_iff_ne.mpr e).symm
theorem Mp(a b:Str):decide ((Sum.inr a:Key)=Sum.inr b)=decide (a=b):=by
 by_cases e:a=b
 ·subst e;simp
 ·have h:¬(Sum.inr a:Key)=Sum.inr b:=λq=>e (Sum.inr.inj q);rw[yDf h,yDf e]
theorem Mr(a:Int)(b:Str):decide ((Sum.inl a:Key)=Sum.inr b)=false:=yDf (λq=>nomatch q)
theorem Mq(a:Str)(b:Int):decide ((Sum.inr a:Key)=Sum.inl b)=false:=yDf (λq=>nomatch q)
noncomputable def bu(prog:yak)(w:yal):PySem.KeyKind prog w Key where
 is:=oO
 hash:=R0 w
 inj:=λv a b o m=>by
  rcases bK o with⟨i,t,rfl,rfl⟩|⟨x,t,rfl,rfl⟩
  ·rcases bK m with⟨j,u,rfl,e⟩|⟨y,u,rfl,e⟩
   ·injection e with e1 _;rw[e1]
   ·exact nomatch e
  ·rcases bK m with⟨j,u,rfl,e⟩|⟨y,u,rfl,e⟩
   ·exact nomatch e
   ·injection e with e1 _;rw[e1]
 byValue:=λk v h=>by
  rcases bK h with⟨i,t,rfl,rfl⟩|⟨x,t,rfl,rfl⟩<;>rfl
 pyHash:=λl h=>by
  rcases bK l with⟨i,t,rfl,rfl⟩|⟨x,t,rfl,rfl⟩
  ·exact wpAny_pyHash_int h
  ·exact wpAny_pyHash_str h
 eqBool:=λn l h=>by
  rcases bK n with⟨i,t,rfl,rfl⟩|⟨x,t,rfl,rfl⟩
  ·rcases bK l with⟨j,u,rfl,rfl⟩|⟨y,u,rfl,rfl⟩
   ·rw[Ms] at h;exact wpAny_eqBool_int h
   ·rw[Mr] at h;exact SeqAt.EqAt.int_str i t y u _ _ _ _ h
  ·rcases bK l with⟨j,u,rfl,rfl⟩|⟨y,u,rfl,rfl⟩
   ·rw[Mq] at h;exact SeqAt.EqAt.str_int x t j u _ _ _ _ h
   ·rw[Mp] at h;exact wpAny_eqBool_str h
 «strs»:=λk x t v h=>by
  rcases bK h with⟨i,u,rfl,e⟩|⟨y,u,rfl,e⟩
  ·exact nomatch e
  ·injection e with e1 _;subst e1;cases v<;>rfl
theorem uM(prog:yak)(w:yal)(i:Int)(t:Tok):(bu prog w).is (.inl i) (.int i t)=true:=Bs i t
theorem uL(prog:yak)(w:yal)(x:Str)(t:Tok):(bu prog w).is (.inr x) (.str x t)=true:=Br x t
inductive V where
 |aY|bl (b:Bool)|int (i:Int)|str (x:Str)|wD (b:Array UInt8)|MC (b:UInt64)|ref (a:Addr)|ty (n:String)
 deriving DecidableEq
def RelV:V->yaj->Prop
 |.aY,u=>u=Value.none
 |.bl b,u=>u=Value.bool b
 |.int i,u=>∃t,u=Value.int i t
 |.str x,u=>∃t,u=Value.str x t
 |.wD b,u=>∃t,u=Value.bytes b t
 |.MC b,u=>∃t,u=Value.float b t
 |.ref a,u=>u=Value.ref a
 |.ty n,u=>u=Value.type n
abbrev Vals:List V->List yaj->Prop:=Paired RelV
theorem Vals.length{xs:List V}{us:List yaj}(r:Vals xs us):xs.length=us.length:=Paired.length r
theorem Vals.get:∀{xs:List V}{us:List yaj}{i:Nat}{x:V},Vals xs us->xs[i]? =some x->∃u,us[i]? =some u/\RelV x u
 |_,_,_,_,.nil,e=>by simp at e
 |_,_,0,_,.cons r _,e=>by simp at e;subst e;exact⟨_,rfl,r⟩
 |_,_,i+1,x,.cons _ t,e=>by
  obtain⟨u,h1,h2⟩:=Vals.get (i:=i) (x:=x) t (by simpa using e);exact⟨u,by simpa using h1,h2⟩
theorem Vals.append:∀{xs ys:List V}{us ws:List yaj},Vals xs us->Vals ys ws->Vals (xs++ys) (us++ws):=by
 intro xs ys us ws h g
 induction h with
 |nil=>exact g
 |cons r t ih=>exact .cons r ih
theorem Vals.take:∀{xs:List V}{us:List yaj}(n:Nat),Vals xs us->Vals (xs.take n) (us.take n)
 |_,_,0,_=>.nil
 |_,_,_+1,.nil=>.nil
 |_,_,n+1,.cons r t=>.cons r (Vals.take n t)
theorem Vals.drop:∀{xs:List V}{us:List yaj}(n:Nat),Vals xs us->Vals (xs.drop n) (us.drop n)
 |_,_,0,r=>r
 |_,_,_+1,.nil=>.nil
 |_,_,n+1,.cons _ t=>Vals.drop n t
def fj:Option V->Option yaj->Prop
 |some v,some u=>RelV v u
 |none,none=>True
 |_,_=>False
def KV{κ:Type}:List (κ×V)->List (κ×yaj)->Prop:=Paired λ(p:κ×V)(q:κ×yaj)=>p.1=q.1/\RelV p.2 q.2
noncomputable def kV:Key->V
 |.inl i=>.int i
 |.inr x=>.str x
inductive HO where
 |lst (xs:List V)
 |tup (xs:List V)
 |dK (kvs:List (Key×V))|dT (kvs:List (List Key×V))
 |set (S:Int->Bool) (n:Nat)
 |ins (C dx:Addr) (fs:List (Str×V))
 |own (x:Addr)
 |xd (fs:List (Str×V))
 |met (f x:Addr)
 |Rz (lo hi:Int)
 |zX (o:Obj) (u:HO)
 |KW (ps:Array yaj)
 |ext (φ:Heap->Prop)
abbrev Hp:=Addr->Option HO
noncomputable def upd(H:Hp)(a:Addr)(o:HO):Hp:=λb=>if b=a then some o else H b
theorem aq{H:Hp}{a:Addr}{o:HO}:upd H a o a=some o:=by unfold upd;rw[yIp rfl]
theorem au{H:Hp}{a b:Addr}{o:HO}(h:b≠a):upd H a o b=H b:=by unfold upd;rw[yIn h]
theorem O7{H:Hp}{a b:Addr}{o u:HO}(h:H a=some o)(h':H b=some u)(d:o≠u):a≠b:=by
 intro e;subst e;rw[h] at h';exact d (zcW.inj h')
theorem aF{H:Hp}{a b:Addr}{o:HO}(h:H a=some o)(h':H b=none):a≠b:=by
 intro e;subst e;rw[h] at h';cases h'
section
variable (P:yak)(w:yal)
def aW(H:Hp)(h:Heap)(a:Addr):HO->Prop
 |.lst xs=>xs.length<=yah/\∃(e:List yaj)(n:Nat),Vals xs e/\h.get? a=some {cls:=.type "list",data:=.seq e.toArray n}
 |.tup xs=>xs.length<=yah/\∃e:List yaj,Vals xs e/\IsTup h a e.toArray
 |.dK kvs=>kvs.length<=yah/\(a==yat)=false/\∃i,KV kvs i/\h.DictOf (bu P w) a i
 |.dT kvs=>kvs.length<=yah/\(a==yat)=false/\∃xs:List (List Key×Addr×yaj),
   Paired (λ(p:List Key×V)(q:List Key×Addr×yaj)=>p.1=q.1/\H q.2.1=some (.tup (p.1.map kV))/\RelV p.2 q.2.2) kvs xs/\
   ∃o j l,h.get? a=some o/\o.ExactDict/\o.data=.dict j l/\j.toList=xs.map (entryOfKey (tupleKind (bu P w)))/\(xs.map (·.1)).Nodup
 |.set S n=>h.SetOf (intKind P w) a S n
 |.ins C dx fs=>H dx=some (.own a)/\fs.length<=1000/\dx≠a/\h.get? a=some (zcb C dx)/\
   ∃mA,h.Ns1 dx mA/\(∀f,fj (fs.lookup f) (mA f))/\PySem.Within mA (fs.map (·.1))
 |.own _=>∃o,h.get? a=some o
 |.xd fs=>∃mA,h.Ns1 a mA/\∀f,fj (fs.lookup f) (mA f)
 |.Rz lo hi=>∃t u v,h.get? a=some {cls:=.type "range",data:=.fields #[.int lo t,.int hi u,.int 1 v]}
 |.zX o u=>h.get? a=some o/\aW H h a u
 |.KW ps=>h.get? a=some {cls:=.none,data:=.fields ps}
 |.met f x=>h.get? a=some (PySem.W.methodObj (.ref f) (.ref x))
 |.ext φ=>φ h/\(∃o,h.get? a=some o)/\∀h1 h2:Heap,φ h1->(∀o,h1.get? a=some o->h2.get? a=some o)->φ h2
def gg(H:Hp)(h:Heap):Prop:=∀a o,H a=some o->aW P w H h a o
end
section
variable {P:yak}{w:yal}{H H':Hp}{h h':Heap}{a:Addr}{o:HO}
theorem aW.lt(x:aW P w H h a o):a<h.objs.size:=by
 cases o with
 |lst xs=>obtain⟨_,_,_,_,e⟩:=x;exact zcP e
 |tup xs=>obtain⟨_,_,_,p⟩:=x;exact p.lt
 |dK kvs=>obtain⟨_,_,_,_,o,_,_,e,_⟩:=x;exact zcP e
 |dT kvs=>obtain⟨_,_,_,_,o,_,_,e,_⟩:=x;exact zcP e
 |set S n=>obtain⟨o,_,_,_,e,_⟩:=x;exact zcP e
 |ins C dx fs=>obtain⟨_,_,_,e,_⟩:=x;exact zcP e
 |own y=>obtain⟨_,e⟩:=x;exact zcP e
 |xd fs=>obtain⟨_,⟨_,_,_,e,_⟩,_⟩:=x;exact zcP e
 |Rz lo hi=>obtain⟨_,_,_,e⟩:=x;exact zcP e
 |zX ob u=>obtain⟨e,_⟩:=x;exact zcP e
 |KW ps=>exact zcP (show h.get? a=some _ from x)
 |met f y=>exact zcP (show h.get? a=some _ from x)
 |ext φ=>obtain⟨_,⟨_,e⟩,_⟩:=x;exact zcP e
theorem Paired.O9{l j:Type}{F G:l->j->Prop}:∀{i:List l}{e:List j},Paired F i e->(∀a b,F a b->G a b)->Paired G i e:=by
 intro a b h f
 induction h with
 |nil=>exact .nil
 |cons r t ih=>exact .cons (f _ _ r) ih
theorem aW.stay(x:aW P w H h a o)(k:∀b u,(b=a∨H b=some (.own a))->h.get? b=some u->h'.get? b=some u)(L:∀b,H b=some (.own a)->H' b=some (.own a))(I:∀b xs,H b=some (.tup xs)->H' b=some (.tup xs)):aW P w H' h' a o:=by
 induction o with
 |lst xs=>obtain⟨z,m,n,r,e⟩:=x;exact⟨z,m,n,r,k _ _ (.inl rfl) e⟩
 |tup xs=>obtain⟨z,m,r,i,e,c⟩:=x;exact⟨z,m,r,i,k _ _ (.inl rfl) e,c⟩
 |dK kvs=>obtain⟨z,y,F,r,i,j,l,e,c⟩:=x;exact⟨z,y,F,r,i,j,l,k _ _ (.inl rfl) e,c⟩
 |dT kvs=>
  obtain⟨z,y,xs,r,i,j,l,e,c⟩:=x;exact⟨z,y,xs,Paired.O9 r λp q z=>⟨z.1,I _ _ z.2.1,z.2.2⟩,i,j,l,k _ _ (.inl rfl) e,c⟩
 |set S n=>obtain⟨i,j,l,t,e,c⟩:=x;exact⟨i,j,l,t,k _ _ (.inl rfl) e,c⟩
 |ins C dx fs=>
  obtain⟨d,z,ne,e,mA,⟨E,j,l,O,c⟩,r⟩:=x;exact⟨L _ d,z,ne,k _ _ (.inl rfl) e,mA,⟨E,j,l,k _ _ (.inr d) O,c⟩,r⟩
 |own y=>obtain⟨i,e⟩:=x;exact⟨i,k _ _ (.inl rfl) e⟩
 |xd fs=>obtain⟨mA,⟨E,j,l,e,c⟩,r⟩:=x;exact⟨mA,⟨E,j,l,k _ _ (.inl rfl) e,c⟩,r⟩
 |Rz lo hi=>obtain⟨t,u,v,e⟩:=x;exact⟨t,u,v,k _ _ (.inl rfl) e⟩
 |zX i u ih=>obtain⟨e,q⟩:=x;exact⟨k _ _ (.inl rfl) e,ih q⟩
 |KW ps=>
  have e:h.get? a=some {cls:=.none,data:=.fields ps}:=x;show h'.get? a=some {cls:=.none,data:=.fields ps};exact k a _ (.inl rfl) e
 |met f y=>
  have e:h.get? a=some (PySem.W.methodObj (.ref f) (.ref y)):=x;show h'.get? a=some (PySem.W.methodObj (.ref f) (.ref y));exact k a _ (.inl rfl) e
 |ext φ=>obtain⟨p,⟨o,e⟩,st⟩:=x;exact⟨st _ _ p λo q=>k _ _ (.inl rfl) q,⟨o,k _ _ (.inl rfl) e⟩,st⟩
theorem gg.lt(x:gg P w H h)(e:H a=some o):a<h.objs.size:=(x a o e).lt
theorem gg.fresh(x:gg P w H h)(e:h.objs.size<=a):H a=none:=by
 cases q:H a with
 |none=>rfl
 |some u=>exact absurd (zaV (x.lt q) e) (zct _)
theorem gg.kept(x:gg P w H h)(k:∀b u,h.get? b=some u->h'.get? b=some u):gg P w H h':=λa o e=>
 (x a o e).stay (λb u _ q=>k b u q) (λ_ q=>q) λ_ _ q=>q
theorem gg.laid(x:gg P w H h)(k:∀b u,h.get? b=some u->h'.get? b=some u)(l:h.objs.size<=a)(new:aW P w (upd H a o) h' a o):gg P w (upd H a o) h':=λb u e=>by
 have i:=x.fresh l;by_cases j:b=a
 ·subst j;rw[aq] at e;cases e;exact new
 ·rw[au j] at e;exact(x b u e).stay (λc v _ q=>k c v q) (λc q=>by rw[au (aF q i)];exact q) λc xs q=>by rw[au (aF q i)];exact q
end
def Rd(H:Hp)(a:Addr)(u:HO):Prop:=H a=some u∨∃o,H a=some (.zX o u)
theorem Rd.ok{P:yak}{w:yal}{H:Hp}{h:Heap}{a:Addr}{u:HO}(r:Rd H a u)(x:gg P w H h):aW P w H h a u:=by
 rcases r with r|⟨o,r⟩
 ·exact x a u r
 ·obtain⟨_,q⟩:=x a _ r;exact q
def NJ:Option HO->Prop
 |some (.lst _)=>True
 |some (.dK _)=>True
 |some (.dT _)=>True
 |some (.set _ _)=>True
 |some (.ins _ _ _)=>True
 |some (.ext _)=>True
 |_=>False
section
variable {P:yak}{w:yal}{H:Hp}{h h':Heap}{x e:Addr}{o':HO}
theorem gg.write(ok:gg P w H h)(i:NJ (H x))(o:e=x∨H e=some (.own x))(k:∀b u,b≠e->h.get? b=some u->h'.get? b=some u)(m:∃u,h'.get? e=some u)(new:aW P w (upd H x o') h' x o'):gg P w (upd H x o') h':=λb u q=>by
 have C:∀c y,H c=some (.own y)->c≠x:=λc y r z=>by subst z;rw[r] at i;exact i
 have F:∀c xs,H c=some (.tup xs)->c≠x:=λc xs r z=>by subst z;rw[r] at i;exact i
 by_cases l:b=x
 ·subst l;rw[aq] at q;cases q;exact new
 ·rw[au l] at q;by_cases a:b=e
  ·have n:H b=some (.own x):=by
    rcases o with z|z
    ·exact absurd (a.trans z) l
    ·rw[a];exact z
   rw[q] at n;cases n;obtain⟨v,E⟩:=m;exact⟨v,by rw[a];exact E⟩
  ·refine(ok b u q).stay (λc v j r=>k c v ?_ r) (λc r=>by rw[au (C c b r)];exact r) λc xs r=>by rw[au (F c xs r)];exact r
   rcases j with rfl|j
   ·exact a
   ·rintro rfl;rcases o with z|z
    ·exact C c b j z
    ·rw[j] at z;cases z;exact l rfl
end
structure Un(fs ex:List Addr)(H H':Hp)(h h':Heap):Prop where
 keep:∀b o,h.get? b=some o->H b=none->b ∉ fs->b ∉ ex->h'.get? b=some o
 slot:∀b o,h.get? b=some o->H b=none->b∈fs->b ∉ ex->∃sl,h'.get? b=some {o with slots:=sl}
 free:∀b o,h.get? b=some o->H b=none->b ∉ ex->H' b=none
 there:∀b o,h.get? b=some o->b ∉ ex->∃o',h'.get? b=some o'
 tups:∀b xs,H b=some (.tup xs)->H' b=some (.tup xs)
 oY:∀b o u,H b=some (.zX o u)->H' b=some (.zX o u)
 pS:∀b ps,H b=some (.KW ps)->∃more,H' b=some (.KW (ps++more))
section
variable {fs fs' ex ex':List Addr}{H H1 H2:Hp}{h h1 h2 h':Heap}{a x e:Addr}{o:HO}
theorem Un.any(u:Un fs ex H H1 h h1){b:Addr}{ob:Obj}(q:h.get? b=some ob)(n:H b=none)(i:b ∉ ex):∃l,h1.get? b=some {ob with slots:=l}:=by
 by_cases j:b∈fs
 ·exact u.slot b ob q n j i
 ·exact⟨ob.slots,u.keep b ob q n j i⟩
theorem Un.kept(k:∀b u,h.get? b=some u->h'.get? b=some u):Un fs ex H H h h':=
 ⟨λb i q _ _ _=>k b i q,λb i q _ _ _=>⟨i.slots,k b i q⟩,λ_ _ _ n _=>n,λb i q _=>⟨i,k b i q⟩,λ_ _ q=>q,λ_ _ _ q=>q,λ_ j q=>⟨#[],by rw[q];simp⟩⟩
theorem Un.refl:Un fs ex H H h h:=Un.kept λ_ _ q=>q
theorem Un.laid(k:∀b u,h.get? b=some u->h'.get? b=some u)(j:h.objs.size<=a)(i:H a=none):Un fs ex H (upd H a o) h h' where
 keep:=λb u q _ _ _=>k b u q
 slot:=λb u q _ _ _=>⟨u.slots,k b u q⟩
 free:=λb u q n _=>by rw[au (zcG (zaV (zcP q) j))];exact n
 there:=λb u q _=>⟨u,k b u q⟩
 tups:=λb xs q=>by rw[au (aF q i)];exact q
 oY:=λb u xs q=>by rw[au (aF q i)];exact q
 pS:=λb l q=>⟨#[],by rw[au (aF q i),q];simp⟩
theorem Un.write(j:NJ (H x))(E:e=x∨H e=some (.own x))(k:∀b u,b≠e->h.get? b=some u->h'.get? b=some u)(m:∃u,h'.get? e=some u):Un fs ex H (upd H x o) h h':=by
 have y:∀b,H b=none->b≠x:=λb n z=>by subst z;rw[n] at j;exact j
 have C:∀b,H b=none->b≠e:=λb n z=>by
  subst z;rcases E with r|r
  ·exact y b n r
  ·rw[n] at r;cases r
 have l:∀b u,H b=some u->¬NJ (some u)->b≠x:=λb u q nm z=>by subst z;rw[q] at j;exact nm j
 refine⟨λb u q n _ _=>k b u (C b n) q,λb u q n _ _=>⟨u.slots,k b u (C b n) q⟩,λb u q n _=>by rw[au (y b n)];exact n,λb u q _=>?_,
  λb xs q=>by rw[au (l b _ q λz=>z)];exact q,λb u xs q=>by rw[au (l b _ q λz=>z)];exact q,λb F q=>⟨#[],by rw[au (l b _ q λz=>z),q];simp⟩⟩
 by_cases i:b=e
 ·subst i;exact m
 ·exact⟨u,k b u i q⟩
end
noncomputable def QH(h:Heap)(H:Hp):List Addr:=(zcX h.objs.size).filter λa=>(H a).isSome
noncomputable def sA(h:Heap)(H:Hp):Heap:=PySem.W.hideAll h (QH h H)
theorem Bv(h:Heap)(H:Hp):(sA h H).objs.size=h.objs.size:=PySem.W.hideAll_size _ _
theorem Er{h:Heap}{H:Hp}{b:Addr}{o:Obj}(e:h.get? b=some o)(n:H b=none):(sA h H).get? b=some o:=
 PySem.W.hideAll_get _ e λa=>by
  have q:(H b).isSome=true:=(List.mem_filter.mp a).2;rw[n] at q;simp at q
theorem Ht{h:Heap}{H:Hp}{b:Addr}{o:Obj}(e:(sA h H).get? b=some o):h.get? b=some o/\H b=none:=by
 have a:h.get? b=some o:=PySem.W.of_hideAll (QH h H) e;refine⟨a,?_⟩;cases q:H b with
 |none=>rfl
 |some x=>
  have i:b∈QH h H:=List.mem_filter.mpr ⟨zcd.mpr (zcP a),by simp[q]⟩;have z:(sA h H).get? b=none:=PySem.W.hideAll_none (QH h H) i;rw[z] at e;cases e
noncomputable def IL(g h:Heap)(L:Addr):List (Addr×Obj):=(zcX h.objs.size).filterMap λa=>if a=L∨(g.get? a).isSome=true then none else(h.get? a).map λo=>(a,o)
noncomputable def rest(g h:Heap)(L d:Addr):List (Addr×Obj):=(IL g h L).filter λp=>decide (p.1≠d)
structure Mod(K:yaM)(mg:Str->Option yaj)(base:Heap):Prop where
 JU:K.In base
 glob:base.Ns yar mg
 blt:∃mb,base.Ns builtinsNs mb/\∀x:Str,x≠"__name__"->mb x=bootBuiltins x
 nolimit:base.NoLimit
structure Cx where
 prog:yak
 w:yal
 K:yaM
 mg:Str->Option yaj
 base:Heap
 A:yam
 N:List Str
 s₀:yai
 H₀:Hp
 env:Env
 outer:List Env
 stack:List Env
 ex:List Addr
 fn:Str->Bool
 calm:Bool
 pn:List (Addr×Obj)
 xe:yaj->yai->Prop
end L2
variable {P prog:yak}{K:yaM}{mg:PySem.Str->Option yaj}{base:PySem.Heap}{C fi:PySem.Addr}{X:L2.Cx}{A:yam}{E:yaj->yai->Prop}{pins:List (PySem.Addr×PySem.Obj)}{s:yai}{H:L2.Hp}{Q:yaj->yai->Prop}{XP:(PySem.Str->Option yaj)->PySem.Heap->Prop}{osl:Array (Option yaj)}{its items:Array yaj}{b neg:Bool}{H':L2.Hp}{v:L2.V}{kvs:List (List L2.Key×L2.V)}{caps:List (Option Nat)}{keys:List (Option PySem.Expr)}{ts:List (PySem.Str×PySem.Str×PySem.Str)}{kw:List (PySem.Str×yaj)}{ks:List (yan×PySem.Addr)}{ns:List Int}{vs dvs:List L2.V}{own:List Nat}{ch fp:List PySem.Addr}{outer:List PySem.Env}{N ps ws l loose ss ms ls:List PySem.Str}{us:List yaj}{t' i j n lo m ep nrem:Nat}{cs ec:Nat->PySem.Addr}{d0:Option PySem.Addr}{od:Option PySem.Obj}{a dx f t0 CP C0:PySem.Addr}{env:PySem.Env}{h' hp:PySem.Heap}{scope:PySem.Scope}{x y qual:PySem.Str}{os:yaK}{u cd oc:yaj}{YP:yal->PySem.Heap->Prop}{fd:yaq}{es ifs elts:List PySem.Expr}{body:List PySem.Stmt}{e tg iter value:PySem.Expr}{st:PySem.Stmt}{p pos pos' apos p2 cpos pos2:PySem.Pos}
namespace L2
open PySem PySem.Spec PyProof.Rows
noncomputable def frs(l:List Env):List Addr:=l.filterMap (·.frame)
noncomputable abbrev Cx.fs(X:Cx):List Addr:=frs X.outer
def Qq(a:Scope)(x:Str):Prop:=a.names.lookup x=some .local∨a.names.lookup x=some .cell∨a.names.lookup x=some .free
def Loc(a:Scope)(x:Str):Prop:=a.names.lookup x=some .local∨a.names.lookup x=some .cell
def Look(env:Env)(h:Heap)(m:Str->Option yaj)(x:Str)(u:yaj):Prop:=
 (env.kindOf x=some .local/\m x=some u)∨((env.kindOf x=some .cell∨env.kindOf x=some .free)/\∃c,env.cells.lookup x=some c/\h.IsCell c (some u))
structure Cx.Ok(X:Cx):Prop where
 mod:Mod X.K X.mg X.base
 kind:X.env.scope.kind=.function
 glob:X.env.globals=yar
 blt:X.env.builtins=builtinsNs
 above:X.s₀.heap.objs.size<=X.env.locals
 inj:∀x y c,X.env.cells.lookup x=some c->X.env.cells.lookup y=some c->x=y
 has:∀x,(X.env.kindOf x=some .cell∨X.env.kindOf x=some .free)->∃c,X.env.cells.lookup x=some c
 N7:∀x c,X.fn x=true->X.env.cells.lookup x=some c->X.s₀.heap.objs.size<=c
 hd:X.calm=true->X.A.handled=none
 frames:X.A.frames=some X.stack
 stk:X.stack=X.outer∨(X.stack=X.env::X.outer/\X.env.frame=some X.env.locals)
 QV:∀b∈X.ex,b≠X.env.locals/\∀x c,X.env.cells.lookup x=some c->c≠b
 bs:∀b o,X.base.get? b=some o->X.s₀.heap.get? b=some o/\X.H₀ b=none
 Fb:X.base.objs.size<=X.s₀.heap.objs.size
 Bf:∀b o,X.base.get? b=some o->b ∉ X.ex
 EF:∀b∈X.ex,b ∉ X.fs
 j8:X.s₀.heap.FunFrames X.base X.outer
 Ia:∀b∈X.fs,X.H₀ b=none
structure Inv(X:Cx)(pins:List (Addr×Obj))(σ:List (Option V))(H:Hp)(s:yai):Prop where
 ok:X.Ok
 os:s.os=X.s₀.os
 bare:AllBare s.gens
 base:Un X.fs X.ex X.H₀ H X.s₀.heap s.heap
 loc:∃m,s.heap.Ns X.env.locals m/\∀(i:Nat)(x:Str)(v:V),X.N[i]? =some x->σ[i]? =some (some v)->Qq X.env.scope x->∃u,RelV v u/\Look X.env s.heap m x u
 cell:∀x c,X.env.cells.lookup x=some c->∃v,s.heap.IsCell c v
 free:H X.env.locals=none
 e8:∀x c,X.env.cells.lookup x=some c->H c=none
 pin:∀p∈X.pn++pins,s.heap.get? p.1=some p.2/\H p.1=none/\p.1≠X.env.locals/\p.1 ∉ X.fs/\∀v,p.2.data≠ .cell v
 hok:gg X.prog X.w H s.heap
 len:σ.length=X.N.length
section
variable {σ:List (Option V)}
theorem Cx.Ok.RX(ok:X.Ok){b:Addr}{o:Obj}(e:X.base.get? b=some o):b ∉ X.fs:=λa=>by
 have:=(ok.j8.mem a).1;rw[e] at this;cases this
theorem Inv.bs(I:Inv X pins σ H s):∀b o,X.base.get? b=some o->s.heap.get? b=some o/\H b=none:=λb o e=>
 ⟨I.base.keep b o (I.ok.bs b o e).1 (I.ok.bs b o e).2 (I.ok.RX e) (I.ok.Bf b o e),I.base.free b o (I.ok.bs b o e).1 (I.ok.bs b o e).2 (I.ok.Bf b o e)⟩
theorem Inv.bk(I:Inv X pins σ H s):∀b o,X.base.get? b=some o->s.heap.get? b=some o:=λb o e=>(I.bs b o e).1
theorem Inv.mod(I:Inv X pins σ H s):Mod X.K X.mg X.base:=I.ok.mod
theorem Inv.fE(I:Inv X pins σ H s):X.K.In s.heap:=I.ok.mod.JU.keeps I.bk
theorem Inv.lt(I:Inv X pins σ H s):X.env.locals<s.heap.objs.size:=by obtain⟨_,a,_⟩:=I.loc;exact a.lt
theorem Inv.sz(I:Inv X pins σ H s):X.s₀.heap.objs.size<=s.heap.objs.size:=zcH I.ok.above (Nat.le_of_lt I.lt)
theorem Inv.O3(I:Inv X pins σ H s)(h:s.heap.objs.size<=a):a ∉ X.fs:=λi=>by
 obtain⟨_,o,e,_⟩:=I.ok.j8.mem i;exact absurd (zaV (zcP e) (zcH I.sz h)) (zct _)
theorem Inv.ID(I:Inv X pins σ H s):∀x c,X.env.cells.lookup x=some c->c≠X.env.locals:=λx c e z=>by
 obtain⟨v,o,j,hd⟩:=I.cell x c e;obtain⟨m,⟨l,n,q,a,i,_⟩,_⟩:=I.loc;rw[z,a] at j;cases j;rw[i] at hd;cases hd
theorem Inv.j8(I:Inv X pins σ H s):s.heap.FunFrames X.base X.outer:=by
 have all:∀(l:List Env),(∀b∈frs l,b∈X.fs)->X.s₀.heap.FunFrames X.base l->s.heap.FunFrames X.base l:=by
  intro l
  induction l with
  |nil=>intro _ _;trivial
  |cons env r ih=>
   intro m y;obtain⟨C,⟨L,o,a,u,q,hd⟩,n⟩:=y;have j:L∈X.fs:=m L (by unfold frs;rw[List.filterMap_cons,a];exact zaN);obtain⟨E,e⟩:=I.base.slot L o q (I.ok.Ia L j) j λz=>I.ok.EF L z j;exact⟨C,⟨L,_,a,u,e,hd⟩,ih (λb i=>m b (by unfold frs;rw[List.filterMap_cons,a];exact zaA _ i)) n⟩
 exact all X.outer (λ_ i=>i) I.ok.j8
theorem Inv.stack(I:Inv X pins σ H s):s.heap.FunFrames X.base X.stack:=by
 rcases I.ok.stk with e|⟨e,i⟩
 ·rw[e];exact I.j8
 ·rw[e];obtain⟨m,a,_⟩:=I.loc;refine .cons (by rw[I.ok.kind];decide) i a ?_ I.j8;exact Heap.get?_none_of_le (zcH I.ok.Fb I.ok.above)
theorem Inv.nu(I:Inv X pins σ H s):∀b∈frs X.stack,b∈X.env.locals::X.fs:=λb a=>by
 rcases I.ok.stk with e|⟨e,i⟩
 ·rw[e] at a;exact zaA _ a
 ·rw[e] at a;unfold frs at a;rw[List.filterMap_cons,i] at a;exact a
theorem Inv.rB(I:Inv X pins σ H s):∀b∈frs X.stack,H b=none:=λb a=>by
 rcases zcn.mp (I.nu b a) with e|a
 ·rw[e];exact I.free
 ·obtain⟨_,o,i,_⟩:=I.ok.j8.mem a;exact I.base.free b o i (I.ok.Ia b a) λz=>I.ok.EF b z a
theorem Inv.step{g':Array yax}{d':Drawn}(I:Inv X pins σ H s)(y:∀b∈ch,(b∈X.ex∨X.s₀.heap.objs.size<=b)/\b≠X.env.locals/\(∀x c,X.env.cells.lookup x=some c->c≠b)/\∀p∈X.pn++pins,p.1≠b)(keep:∀b o,b≠X.env.locals->b ∉ X.fs->b ∉ ch->s.heap.get? b=some o->H b=none->h'.get? b=some o)(slot:∀b o,b≠X.env.locals->b∈X.fs->b ∉ ch->s.heap.get? b=some o->H b=none->∃U,h'.get? b=some {o with slots:=U})(free:∀b o,b ∉ ch->s.heap.get? b=some o->H b=none->H' b=none)(there:∀b o,b ∉ ch->s.heap.get? b=some o->∃o',h'.get? b=some o')(tups:∀b xs,H b=some (.tup xs)->H' b=some (.tup xs))(oY:∀b o u,H b=some (.zX o u)->H' b=some (.zX o u))(pS:∀b ps,H b=some (.KW ps)->∃more,H' b=some (.KW (ps++more)))(ns:∀m,s.heap.Ns X.env.locals m->h'.Ns X.env.locals m)(hok:gg X.prog X.w H' h')(hg:AllBare g'):
  Inv X pins σ H' {s with heap:=h',gens:=g',drawn:=d',toks:=t'}:=by
 have P:∀b o,X.s₀.heap.get? b=some o->b≠X.env.locals:=λb o e=>zcG (zaV (zcP e) I.ok.above);have E:∀b o,X.s₀.heap.get? b=some o->b ∉ X.ex->b ∉ ch:=λb o e a L=>by
  rcases(y b L).1 with z|z
  ·exact a z
  ·exact absurd (zaV (zcP e) z) (zct _)
 have C:∀x c,X.env.cells.lookup x=some c->∀v,s.heap.IsCell c v->h'.IsCell c v:=λx c e v ⟨o,O,hd⟩=>by
  have j:c ∉ ch:=λz=>(y c z).2.2.1 x c e rfl;by_cases Y:c∈X.fs
  ·obtain⟨U,q⟩:=slot c o (I.ID x c e) Y j O (I.e8 x c e);exact⟨_,q,hd⟩
  ·exact⟨o,keep c o (I.ID x c e) Y j O (I.e8 x c e),hd⟩
 refine⟨I.ok,I.os,hg,⟨λb o e n L a=>?_,λb o e n L a=>?_,λb o e n a=>?_,λb o e a=>?_,λb xs e=>tups b xs (I.base.tups b xs e),λb o xs e=>oY b o xs (I.base.oY b o xs e),λb ps e=>?_⟩,?_,λx c e=>?_,?_,λx c e=>?_,λp W=>?_,hok,I.len⟩
 ·exact keep b o (P b o e) L (E b o e a) (I.base.keep b o e n L a) (I.base.free b o e n a)
 ·obtain⟨U,F⟩:=I.base.slot b o e n L a;obtain⟨S,Q⟩:=slot b _ (P b o e) L (E b o e a) F (I.base.free b o e n a);exact⟨S,Q⟩
 ·obtain⟨o',F⟩:=I.base.there b o e a;exact free b o' (E b o e a) F (I.base.free b o e n a)
 ·obtain⟨o',F⟩:=I.base.there b o e a;exact there b o' (E b o e a) F
 ·obtain⟨m1,F⟩:=I.base.pS b ps e;obtain⟨m2,Q⟩:=pS b _ F;exact⟨m1++m2,by rw[Q,Array.append_assoc]⟩
 ·obtain⟨m,Z,hl⟩:=I.loc;refine⟨m,ns m Z,λi x v F Q e3=>?_⟩;obtain⟨u,r,l⟩:=hl i x v F Q e3;refine⟨u,r,?_⟩;rcases l with l|⟨k,c,e,z⟩
  ·exact .inl l
  ·exact .inr ⟨k,c,e,C x c e _ z⟩
 ·obtain⟨v,z⟩:=I.cell x c e;exact⟨v,C x c e v z⟩
 ·obtain⟨m,⟨o,_,_,O,_⟩,_⟩:=I.loc;exact free _ o (λz=>(y _ z).2.1 rfl) O I.free
 ·obtain⟨v,o,O,hd⟩:=I.cell x c e;exact free c o (λz=>(y c z).2.2.1 x c e rfl) O (I.e8 x c e)
 ·obtain⟨e,n,ne,nf,d⟩:=I.pin p W;have j:p.1 ∉ ch:=λz=>(y p.1 z).2.2.2 p W rfl;exact⟨keep p.1 p.2 ne nf j e n,free p.1 p.2 j e n,ne,nf,d⟩
theorem Inv.un(I:Inv X pins σ H s)(u:Un X.fs [] H H' s.heap h')(hok:gg X.prog X.w H' h'):Inv X pins σ H' {s with heap:=h',toks:=t'}:=by
 obtain⟨m,⟨o,P,Q,q,r⟩,_⟩:=id I.loc;obtain⟨F,E⟩:=u.any q I.free (by simp);exact I.step (g':=s.gens) (d':=s.drawn) (ch:=[]) (λ_ z=>nomatch z) (λb o _ i _ e n=>u.keep b o e n i (by simp)) (λb o _ i _ e n=>u.slot b o e n i (by simp)) (λb o _ e n=>u.free b o e n (by simp)) (λb o _ e=>u.there b o e (by simp)) u.tups u.oY u.pS (λO C=>by
  obtain⟨L,j,l,a,y⟩:=C;rw[q] at a;cases a;exact⟨_,j,l,E,y⟩) hok I.bare
theorem Inv.call{g':Array yax}{d':Drawn}(I:Inv X pins σ H s)(u:Un (frs X.stack) ch H H' s.heap h')(hok:gg X.prog X.w H' h')(L:AllBare g')(j:∀b∈ch,(b∈X.ex∨X.s₀.heap.objs.size<=b)/\b≠X.env.locals/\(∀x c,X.env.cells.lookup x=some c->c≠b)/\∀p∈X.pn++pins,p.1≠b):
  Inv X pins σ H' {s with heap:=h',gens:=g',drawn:=d',toks:=t'}:=by
 obtain⟨m,⟨o,U,W,C,r⟩,_⟩:=id I.loc;obtain⟨P,l⟩:=u.any C I.free λz=>(j _ z).2.1 rfl;exact I.step (ch:=ch) j (λb o l O a e n=>u.keep b o e n (λz=>(zcn.mp (I.nu b z)).elim l O) a) (λb o _ _ a e n=>u.any e n a) (λb o a e n=>u.free b o e n a) (λb o a e=>u.there b o e a) u.tups u.oY u.pS (λS F=>by
  obtain⟨Q,q,y,i,E⟩:=F;rw[C] at i;cases i;exact⟨_,q,y,l,E⟩) hok L
theorem Inv.turned{it:Addr}(I:Inv X pins σ H s)(k:∀b o,b≠it->s.heap.get? b=some o->h'.get? b=some o)(y:H it=none)(j:it≠X.env.locals)(h1:it∈X.ex∨X.s₀.heap.objs.size<=it)(h2:∀x c,X.env.cells.lookup x=some c->c≠it)(F:∀p∈X.pn++pins,p.1≠it):Inv X pins σ H {s with heap:=h',toks:=t'}:=by
 have i:∀b u,H b=some u->b≠it:=λb u e z=>by rw[z,y] at e;cases e
 refine I.step (g':=s.gens) (d':=s.drawn) (ch:=[it]) (λb E=>?_) (λb o _ _ a e _=>k b o (λz=>a (by simp[z])) e) (λb o _ _ a e _=>⟨o.slots,k b o (λz=>a (by simp[z])) e⟩) (λ_ _ _ _ n=>n)
  (λb o a e=>⟨o,k b o (λz=>a (by simp[z])) e⟩) (λ_ _ e=>e) (λ_ _ _ e=>e) (λb P e=>⟨#[],by rw[e];simp⟩) (λm C=>?_) (λb u e=>?_) I.bare
 ·have e:b=it:=by simpa using E
  subst e;exact⟨h1,j,h2,F⟩
 ·obtain⟨o,L,O,l,r⟩:=C;exact⟨o,L,O,k _ o (Ne.symm j) l,r⟩
 ·refine(I.hok b u e).stay (λc v a q=>k c v ?_ q) (λ_ q=>q) λ_ _ q=>q;rcases a with z|z
  ·rw[z];exact i b u e
  ·exact i c _ z
theorem Inv.tok(I:Inv X pins σ H s)(t:Nat):Inv X pins σ H {s with toks:=t}:=I.un (h':=s.heap) (t':=t) Un.refl I.hok
theorem Inv.kept(I:Inv X pins σ H s)(k:∀b u,s.heap.get? b=some u->h'.get? b=some u):Inv X pins σ H {s with heap:=h',toks:=t'}:=I.un (Un.kept k) (I.hok.kept k)
theorem Inv.laid{o:HO}(I:Inv X pins σ H s)(k:∀b u,s.heap.get? b=some u->h'.get? b=some u)(e:s.heap.objs.size<=a)(new:aW X.prog X.w (upd H a o) h' a o):
  Inv X pins σ (upd H a o) {s with heap:=h',toks:=t'}:=I.un (Un.laid k e (I.hok.fresh e)) (I.hok.laid k e new)
theorem Inv.write{x e:Addr}{o:HO}(I:Inv X pins σ H s)(i:NJ (H x))(j:e=x∨H e=some (.own x))(k:∀b u,b≠e->s.heap.get? b=some u->h'.get? b=some u)(a:∃u,h'.get? e=some u)(new:aW X.prog X.w (upd H x o) h' x o):Inv X pins σ (upd H x o) {s with heap:=h',toks:=t'}:=I.un (Un.write i j k a) (I.hok.write i j k a new)
theorem Inv.weak{a:List (Option V)}(I:Inv X pins σ H s)(l:a.length=σ.length)(w:∀(i:Nat) v,a[i]? =some (some v)->σ[i]? =some (some v)):Inv X pins a H s:=
 ⟨I.ok,I.os,I.bare,I.base,by obtain⟨m,j,e⟩:=I.loc;exact⟨m,j,λi x v q o n=>e i x v q (w i v o) n⟩,I.cell,I.free,I.e8,I.pin,I.hok,l.trans I.len⟩
theorem Inv.jQ{pins':List (Addr×Obj)}(I:Inv X pins σ H s)(h:∀p∈pins',s.heap.get? p.1=some p.2/\H p.1=none/\p.1≠X.env.locals/\p.1 ∉ X.fs/\∀v,p.2.data≠ .cell v):Inv X pins' σ H s:=
 ⟨I.ok,I.os,I.bare,I.base,I.loc,I.cell,I.free,I.e8,λp a=>(zbM.mp a).elim (λz=>I.pin p (zaB _ z)) (h p),I.hok,I.len⟩
theorem oA(e:N.Nodup)(a:N[i]? =some x)(b:N[j]? =some x):i=j:=by
 obtain⟨h1,m⟩:=zae.mp a;obtain⟨h2,l⟩:=zae.mp b;exact(List.getElem_inj e).mp (m.trans l.symm)
theorem AF{M:Model}{Q:Unit->yai->Prop}(I:Inv X pins σ H s)(hN:X.N.Nodup)(hi:X.N[i]? =some x)(O:Loc X.env.scope x)(r:RelV v u)(h:∀s',Inv X pins (σ.set i (some v)) H s'->(∃a,Heap.SameBut a s.heap s'.heap/\(a=X.env.locals∨X.env.cells.lookup x=some a))->Q () s')(hf:X.fn x=true∨X.env.scope.names.lookup x=some .local:=by first|exact .inl rfl|exact .inr rfl|assumption):yas M A (storeName X.env x u) Q E s:=by
 obtain⟨m,hn,hl⟩:=id I.loc;have ac:(X.env.scope.kind== .class||(X.env.scope.kind== .module&&X.env.locals != X.env.globals))=false:=by rw[I.ok.kind];rfl
 have W:i<σ.length:=by rw[I.len];exact(zae.mp hi).1
 have ID:=I.ID;have C:∀{a:Addr}{h':Heap},(∃o,s.heap.get? a=some o/\H a=none)->Heap.SameBut a s.heap h'->gg X.prog X.w H h':=λ{a h'} ha l b ob e=>by
  obtain⟨_,_,P⟩:=ha;refine(I.hok b ob e).stay (λc w' L q=>(l.2 c ?_).trans q) (λ_ q=>q) λ_ _ q=>q;rintro rfl;rcases L with rfl|L
  ·rw[P] at e;cases e
  ·rw[P] at L;cases L
 rcases O with U|U
 ·refine wpAny_storeName_local U hn (λh' hn' l=>?_) ac;obtain⟨oL,_,_,hoL,_⟩:=id hn;refine h _ ⟨I.ok,I.os,I.bare,⟨λb o e n hb O=>?_,λb o e n hb O=>?_,I.base.free,λb o e O=>?_,I.base.tups,I.base.oY,I.base.pS⟩,⟨_,hn',λj y v' F S e3=>?_⟩,λy c e=>?_,I.free,I.e8,λp hp=>?_,C ⟨oL,hoL,I.free⟩ l,by simpa using I.len⟩ ⟨_,l,.inl rfl⟩
  ·exact(l.2 b (zcG (zaV (zcP e) I.ok.above))).trans (I.base.keep b o e n hb O)
  ·obtain⟨sl,F⟩:=I.base.slot b o e n hb O;exact⟨sl,(l.2 b (zcG (zaV (zcP e) I.ok.above))).trans F⟩
  ·obtain⟨o',F⟩:=I.base.there b o e O;exact⟨o',(l.2 b (zcG (zaV (zcP e) I.ok.above))).trans F⟩
  ·by_cases Y:j=i
   ·subst Y;rw[hi] at F;cases F;rw[List.getElem?_set_self W] at S;cases S;exact⟨u,r,.inl ⟨U,by simp⟩⟩
   ·rw[zaC (Ne.symm Y)] at S;obtain⟨u',r',q⟩:=hl j y v' F S e3;refine⟨u',r',?_⟩;rcases q with⟨k,e⟩|⟨k,c,e,z⟩
    ·refine .inl ⟨k,?_⟩;have:y≠x:=λe=>Y (oA hN F (e▸hi));simp[this,e]
    ·exact .inr ⟨k,c,e,z.sameBut l (ID y c e)⟩
  ·obtain⟨w',z⟩:=I.cell y c e;exact⟨w',z.sameBut l (ID y c e)⟩
  ·obtain⟨e,n,ne,nf,d⟩:=I.pin p hp;exact⟨(l.2 p.1 ne).trans e,n,ne,nf,d⟩
 ·have Z:X.fn x=true:=by
   rcases hf with z|z
   ·exact z
   ·rw[z] at U;cases U
  obtain⟨c,L⟩:=I.ok.has x (.inl U);obtain⟨w',z⟩:=I.cell x c L;refine wpAny_storeName_cell I.ok.kind U L z (λh' hc' l=>?_);obtain⟨oc,hoc,ab⟩:=id z;refine h {s with heap:=h'} ⟨I.ok,I.os,I.bare,⟨λb o e n hb O=>?_,λb o e n hb O=>?_,I.base.free,λb o e O=>?_,I.base.tups,I.base.oY,I.base.pS⟩,⟨m,hn.sameBut l (Ne.symm (ID x c L)),λj y v' F S e3=>?_⟩,λy c' e=>?_,I.free,I.e8,λp hp=>?_,C ⟨oc,hoc,I.e8 x c L⟩ l,by simpa using I.len⟩ ⟨c,l,.inr L⟩
  ·exact(l.2 b (zcG (zaV (zcP e) (I.ok.N7 x c Z L)))).trans (I.base.keep b o e n hb O)
  ·obtain⟨sl,F⟩:=I.base.slot b o e n hb O;exact⟨sl,(l.2 b (zcG (zaV (zcP e) (I.ok.N7 x c Z L)))).trans F⟩
  ·obtain⟨o',F⟩:=I.base.there b o e O;exact⟨o',(l.2 b (zcG (zaV (zcP e) (I.ok.N7 x c Z L)))).trans F⟩
  ·by_cases Y:j=i
   ·subst Y;rw[hi] at F;cases F;rw[List.getElem?_set_self W] at S;cases S;exact⟨u,r,.inr ⟨.inl U,c,L,hc'⟩⟩
   ·rw[zaC (Ne.symm Y)] at S;obtain⟨u',r',q⟩:=hl j y v' F S e3;refine⟨u',r',?_⟩;rcases q with q|⟨k,c',e,z'⟩
    ·exact .inl q
    ·refine .inr ⟨k,c',e,z'.sameBut l ?_⟩;rintro rfl;exact Y (oA hN F (I.ok.inj _ _ _ e L▸hi))
  ·by_cases hcc:c'=c
   ·subst hcc;exact⟨_,hc'⟩
   ·obtain⟨w2,z2⟩:=I.cell y c' e;exact⟨w2,z2.sameBut l hcc⟩
  ·obtain⟨e,n,ne,nf,d⟩:=I.pin p hp;refine⟨(l.2 p.1 ?_).trans e,n,ne,nf,d⟩;intro q;rw[q,hoc] at e;have q':oc=p.2:=zcW.inj e;exact d w' (by rw[<-q'];exact ab)
theorem gW{M:Model}{Q:Unit->yai->Prop}(I:Inv X pins σ H s)(l:X.N.Nodup)(e:X.N[i]? =some x)(a:Loc X.env.scope x)(r:RelV v u)(h:∀s',Inv X pins (σ.set i (some v)) H s'->Q () s')(j:X.fn x=true∨X.env.scope.names.lookup x=some .local:=by first|exact .inl rfl|exact .inr rfl|assumption):yas M A (storeName X.env x u) Q E s:=
 AF I l e a r (λs' m _=>h s' m) j
theorem Inv.E7{s':yai}(I:Inv X pins σ H s)(j:s'.os=s.os)(u:Un (frs X.stack) ch H H' s.heap s'.heap)(hok:gg X.prog X.w H' s'.heap)(l:AllBare s'.gens)(a:∀b∈ch,(b∈X.ex∨X.s₀.heap.objs.size<=b)/\b≠X.env.locals/\(∀x c,X.env.cells.lookup x=some c->c≠b)/\∀p∈X.pn++pins,p.1≠b):Inv X pins σ H' s':=by
 obtain⟨m,g',d',t',i⟩:=s';have e:i=s.os:=j;subst e;exact I.call (g':=g') (t':=t') (d':=d') u hok l a
end
abbrev XK:=yaj->Option Addr->Hp->Prop
abbrev St:=List (Option V)
abbrev VK:=V->Hp->Prop
abbrev TE:=St->Hp->VK->Prop
abbrev TT:=St->Hp->(Bool->Hp->Prop)->Prop
abbrev TA:=St->Hp->(List V->Hp->Prop)->Prop
structure Ends where
 nx:St->Hp->Prop
 rt:VK
 bk:St->Hp->Prop:=λ_ _=>False
 ct:St->Hp->Prop:=λ_ _=>False
abbrev TS:=Ends->St->Hp->Prop
def EP(X:Cx)(a:List (Addr×Obj))(i:St)(Q:VK)(u:yaj)(s':yai):Prop:=∃v e,Inv X a i e s'/\RelV v u/\Q v e
def TP(X:Cx)(a:List (Addr×Obj))(i:St)(Q:Bool->Hp->Prop)(b:Bool)(s':yai):Prop:=∃e,Inv X a i e s'/\Q b e
def AP(X:Cx)(a:List (Addr×Obj))(j:St)(Q:List V->Hp->Prop)(us:List yaj)(s':yai):Prop:=∃e i,Inv X a j i s'/\Vals e us/\Q e i
def SP(X:Cx)(e:List (Addr×Obj))(D:Ends)(f:Flow)(s':yai):Prop:=
 match f with
 |.next=>∃a i,Inv X e a i s'/\D.nx a i
 |.brk=>∃a i,Inv X e a i s'/\D.bk a i
 |.cont=>∃a i,Inv X e a i s'/\D.ct a i
 |.ret u=>∃v a i,Inv X e a i s'/\RelV v u/\D.rt v i
def PE(X:Cx)(e:Expr)(t:TE):Prop:=
 ∀(a:List (Addr×Obj))(s:yai)(i:St)(H:Hp)(Q:VK),Inv X a i H s->t i H Q->yas (model X.prog X.w) X.A (eval e X.env) (EP X a i Q) X.xe s
def PT(X:Cx)(e:Expr)(t:TT):Prop:=
 ∀(a:List (Addr×Obj))(s:yai)(i:St)(H:Hp)(Q:Bool->Hp->Prop),Inv X a i H s->t i H Q->yas (model X.prog X.w) X.A (isTrue e X.env (eval e X.env)) (TP X a i Q) X.xe s
def PW(X:Cx)(e:Expr)(t:TT):Prop:=
 ∀(i:Sem yaj)(a:List (Addr×Obj))(s:yai)(j:St)(H:Hp)(Q:Bool->Hp->Prop),Inv X a j H s->t j H Q->yas (model X.prog X.w) X.A (isTrue e X.env i) (TP X a j Q) X.xe s
theorem PW.pt{t:TT}(h:PW X e t):PT X e t:=h _
def PA(X:Cx)(es:List Expr)(t:TA):Prop:=
 ∀(i:Pos)(a:List (Addr×Obj))(s:yai)(e:St)(H:Hp)(Q:List V->Hp->Prop),Inv X a e H s->t e H Q->yas (model X.prog X.w) X.A (spliced (yav i (yap es X.env))) (AP X a e Q) X.xe s
def PS(X:Cx)(st:Stmt)(t:TS):Prop:=
 ∀(a:List (Addr×Obj))(s:yai)(e:St)(H:Hp)(D:Ends),Inv X a e H s->t D e H->yas (model X.prog X.w) X.A (exec st X.env) (SP X a D) X.xe s
def pQ(X:Cx)(st:List Stmt)(t:TS):Prop:=
 ∀(a:List (Addr×Obj))(s:yai)(e:St)(H:Hp)(D:Ends),Inv X a e H s->t D e H->yas (model X.prog X.w) X.A (execs st X.env) (SP X a D) X.xe s
theorem bS{e:Type}{t:Sem e}{Q i:e->yai->Prop}{M:Model}(h:yas M A t Q E s)(j:∀a s,Q a s->i a s):yas M A t i E s:=yac h j λ_ _ x=>x
section
def tV(i:Nat):TE:=λa H Q=>∃v,a[i]? =some (some v)/\Q v H
def tC(v:V):TE:=λ_ H Q=>Q v H
theorem DC(L:X.N[i]? =some x)(z:Qq X.env.scope x)(hd:autoParam ((x==("__debug__":Str))=false) r1)(o:autoParam ((x==("__classdict__":Str))=false) r1):PE X (.Name x pos) (tV i):=by
 intro n s y H Q I h;obtain⟨v,e,h⟩:=h;obtain⟨m,C,F⟩:=I.loc;obtain⟨u,r,l⟩:=F i x v L e z;have fin:EP X n y Q u s:=⟨v,H,I,r,h⟩
 rcases l with⟨j,E⟩|⟨j,c,q,a⟩
 ·exact wpAny_Name (wpAny_loadName_local I.ok.kind j C E fin) hd
 ·rcases j with j|j
  ·exact wpAny_Name (wpAny_loadName_cell I.ok.kind j q a fin) hd
  ·exact wpAny_Name (wpAny_loadName_free I.ok.kind j q a fin o) hd
theorem ao{i j pos}:PE X (.Constant (.int i) j pos) (tC (.int i)):=λ_ _ _ H _ I h=>wpAny_Constant_int ⟨.int i,H,I.tok _,⟨_,rfl⟩,h⟩
theorem dz{b j pos}:PE X (.Constant (.bool b) j pos) (tC (.bl b)):=λ_ _ _ H _ I h=>Constant_bool ⟨.bl b,H,I,rfl,h⟩
theorem oi{j pos}:PE X (.Constant .none j pos) (tC .aY):=λ_ _ _ H _ I h=>Constant_none ⟨.aY,H,I,rfl,h⟩
theorem ak{x j pos}:PE X (.Constant (.str x) j pos) (tC (.str x)):=λ_ _ _ H _ I h=>Calls.Constant_str ⟨.str x,H,I.tok _,⟨_,rfl⟩,h⟩
def Gl(X:Cx)(x:Str):Prop:=X.env.kindOf x=some .globalImplicit
theorem fB{a:St}(I:Inv X pins a H s)(i:Gl X x)(e:X.mg x=some u)(h:Q u s)(hd:autoParam ((x==("__debug__":Str))=false) r1):yas (model X.prog X.w) X.A (eval (.Name x pos) X.env) Q E s:=
 Calls.Name_function_global I.ok.kind i (Calls.loadGlobal_global (by rw[I.ok.glob];exact I.mod.glob.keeps I.bk) e h) hd
theorem gD{a:St}(I:Inv X pins a H s)(l:Gl X x)(j:X.mg x=none)(e:bootBuiltins x=some u)(h:Q u s)(i:autoParam (x≠"__name__") r1)(hd:autoParam ((x==("__debug__":Str))=false) r1):yas (model X.prog X.w) X.A (eval (.Name x pos) X.env) Q E s:=by
 obtain⟨mb,h1,h2⟩:=I.mod.blt;exact Calls.Name_function_global I.ok.kind l (Calls.loadGlobal_builtin (by rw[I.ok.glob];exact I.mod.glob.keeps I.bk) j (by rw[I.ok.blt];exact h1.keeps I.bk) ((h2 x i).trans e) h) hd
theorem mD(e:Gl X x)(a:X.mg x=some u)(r:RelV v u)(hd:autoParam ((x==("__debug__":Str))=false) r1):PE X (.Name x pos) (tC v):=
 λ_ _ _ H _ I h=>fB I e a ⟨v,H,I,r,h⟩ hd
theorem Hi(j:Gl X x)(i:X.mg x=none)(a:bootBuiltins x=some u)(r:RelV v u)(e:autoParam (x≠"__name__") r1)(hd:autoParam ((x==("__debug__":Str))=false) r1):PE X (.Name x pos) (tC v):=
 λ_ _ _ H _ I h=>gD I j i a ⟨v,H,I,r,h⟩ e hd
variable {a b:Expr}{ta tb:TE}
def tB(t:TE):TT:=λe H Q=>t e H λx i=>∃c,x=.bl c/\Q c i
theorem d7{t:TE}(h:PE X e t)(o:∀i,isTrue e X.env i=(do let v <-i;standAt e.pos;holding [v] (truthy v)):=by intro _;rfl):PT X e (tB t):=by
 intro j s l H Q I hw;refine isTrue_plain (bS (h j s l H _ I hw) λv z ⟨x,y,u,m,n⟩=>?_) (o _);obtain⟨d,rfl,q⟩:=n;cases m;exact wpAny_truthy_bool ⟨y,u,q⟩
variable {tA tB':TT}{rest:List Expr}
def Oo(t u:TT):TT:=λe H Q=>t e H λc i=>if c=true then u e i Q else Q false i
def Rg(t u:TT):TT:=λe H Q=>t e H λc i=>if c=true then Q true i else u e i Q
def K0(t:TT):TT:=λe H Q=>t e H λc i=>Q (!c) i
theorem pw_and1(l:PT X a tA):PW X (.BoolOp .And [a] pos) tA:=by
 intro m i s j H Q I h;refine isTrue_and (bS (l i s j H Q I h) λc n e=>?_);cases c with
 |true=>exact isTrue_and_nil e
 |false=>exact e
theorem pw_or1(l:PT X a tA):PW X (.BoolOp .Or [a] pos) tA:=by
 intro m i s j H Q I h;refine isTrue_or (bS (l i s j H Q I h) λc n e=>?_);cases c with
 |false=>exact isTrue_or_nil e
 |true=>exact e
theorem pw_and(y:PT X a tA)(u:PW X (.BoolOp .And (b::rest) pos) tB'):PW X (.BoolOp .And (a::b::rest) pos) (Oo tA tB'):=by
 intro o e s j H Q I h;refine isTrue_and (bS (y e s j H _ I h) λc q i=>?_);obtain⟨n,m,l⟩:=i;cases c with
 |true=>exact u o e q j n Q m l
 |false=>exact⟨n,m,l⟩
theorem pw_or(y:PT X a tA)(u:PW X (.BoolOp .Or (b::rest) pos) tB'):PW X (.BoolOp .Or (a::b::rest) pos) (Rg tA tB'):=by
 intro o e s j H Q I h;refine isTrue_or (bS (y e s j H _ I h) λc q i=>?_);obtain⟨n,m,l⟩:=i;cases c with
 |true=>exact⟨n,m,l⟩
 |false=>exact u o e q j n Q m l
theorem gX(j:PT X a tA):PT X (.UnaryOp .Not a pos) (K0 tA):=by
 intro e s i H Q I h;exact isTrue_not (j e s i H (λc l=>Q (!c) l) I h)
def Jz(ta tb:TE):TE:=λe H Q=>ta e H λx i=>∃c,x=.bl c/\if c=true then tb e i Q else Q (.bl false) i
theorem kU{op}{t:TE}(h:PE X a t):PE X (.BoolOp op [a] pos) t:=λe s i H Q I hw=>BoolOp_one (h e s i H Q I hw)
theorem g7(y:PE X a ta)(u:PE X (.BoolOp .And (b::rest) pos) tb):PE X (.BoolOp .And (a::b::rest) pos) (Jz ta tb):=by
 intro e s l H Q I h;refine BoolOp_and (bS (y e s l H _ I h) λv o j=>?_);obtain⟨x,n,m,q,i⟩:=j;obtain⟨c,rfl,i⟩:=i;cases q;refine wpAny_truthy_bool ?_;cases c with
 |true=>exact u e o l n Q m i
 |false=>exact⟨.bl false,n,m,rfl,i⟩
end
def b9(K:yaM)(H:Hp)(a:Addr)(xs:List V):Prop:=
 Rd H a (.lst xs)∨
  ∃(o:Obj)(e:Array yaj)(n:Nat),K.lookup a=some o/\o.cls=.type "list"/\o.dict=none/\o.data=.seq e n/\e.size<=yah/\Vals xs e.toList
def ee(K:yaM)(H:Hp)(a:Addr)(xs:List V):Prop:=
 Rd H a (.tup xs)∨
  ∃(o:Obj)(e:Array yaj)(n:Nat),K.lookup a=some o/\o.cls=.type "tuple"/\o.data=.seq e n/\e.size<=yah/\Vals xs e.toList
noncomputable def Sq:yaj->Option V
 |.none=>some .aY
 |.bool b=>some (.bl b)
 |.int i _=>some (.int i)
 |.str x _=>some (.str x)
 |.bytes b _=>some (.wD b)
 |.float b _=>some (.MC b)
 |.ref a=>some (.ref a)
 |.type n=>some (.ty n)
 |_=>none
theorem RelV.abs{x:V}(r:RelV x u):Sq u=some x:=by
 cases x with
 |aY=>cases r;rfl
 |bl _=>cases r;rfl
 |int _=>obtain⟨t,rfl⟩:=r;rfl
 |str _=>obtain⟨t,rfl⟩:=r;rfl
 |wD _=>obtain⟨t,rfl⟩:=r;rfl
 |MC _=>obtain⟨t,rfl⟩:=r;rfl
 |ref _=>cases r;rfl
 |ty _=>cases r;rfl
theorem RelV.inj{x y:V}(r:RelV x u)(q:RelV y u):x=y:=zcW.inj (r.abs.symm.trans q.abs)
theorem Vals.inj:∀{xs ys:List V}{us:List yaj},Vals xs us->Vals ys us->xs=ys:=by
 intro xs ys us h
 induction h generalizing ys with
 |nil=>intro g;cases g;rfl
 |cons r t ih=>
  intro g;cases g with
  |cons r' t'=>rw[r.inj r',ih t']
section
variable {σ:St}{xs ys:List V}
theorem b9.of(h:H a=some (.lst xs)):b9 K H a xs:=.inl (.inl h)
theorem ee.of(h:H a=some (.tup xs)):ee K H a xs:=.inl (.inl h)
theorem Inv.list(I:Inv X pins σ H s)(h:b9 X.K H a xs):∃its:List yaj,Vals xs its/\PlainL s.heap a its.toArray/\xs.length<=yah:=by
 rcases h with h|⟨o,its,n,j,l,hd,i,hz,r⟩
 ·obtain⟨z,its,n,r,e⟩:=h.ok I.hok;exact⟨its,r,⟨_,n,e,rfl,rfl,rfl⟩,z⟩
 ·refine⟨its.toList,r,⟨o,n,I.fE a o j,l,hd,by simpa using i⟩,?_⟩;have e:=r.length;simp only[zaK] at e;lia
theorem Inv.tuple(I:Inv X pins σ H s)(h:ee X.K H a xs):∃its:List yaj,Vals xs its/\IsTup s.heap a its.toArray/\xs.length<=yah:=by
 rcases h with h|⟨o,its,n,j,l,i,hz,r⟩
 ·obtain⟨z,its,r,p⟩:=h.ok I.hok;exact⟨its,r,p,z⟩
 ·refine⟨its.toList,r,⟨o,I.fE a o j,l,n,by simpa using i⟩,?_⟩;have e:=r.length;simp only[zaK] at e;lia
theorem Inv.uT(I:Inv X pins σ H s)(h:b9 X.K H a xs)(h':b9 X.K H a ys):xs=ys:=by
 obtain⟨j,r,⟨o,n,e,_,_,d⟩,_⟩:=I.list h;obtain⟨i,q,⟨u,y,l,_,_,m⟩,_⟩:=I.list h';rw[e] at l;cases l;rw[d] at m;injection m with d1 _;have:j=i:=by simpa using congrArg Array.toList d1
 subst this;exact r.inj q
theorem Inv.AB(I:Inv X pins σ H s)(h:ee X.K H a xs)(h':ee X.K H a ys):xs=ys:=by
 obtain⟨j,r,⟨o,e,_,n,d⟩,_⟩:=I.tuple h;obtain⟨i,q,⟨u,l,_,y,m⟩,_⟩:=I.tuple h';rw[e] at l;cases l;rw[d] at m;injection m with d1 _;have:j=i:=by simpa using congrArg Array.toList d1
 subst this;exact r.inj q
end
noncomputable abbrev Cx.pR(X:Cx)(E:yaj->yai->Prop):Cx:={X with xe:=E}
noncomputable abbrev Cx.DS(X:Cx):Cx:=X.pR λ_ _=>False
theorem Cx.Ok.pR(ok:X.Ok)(E:yaj->yai->Prop):(X.pR E).Ok:=
 ⟨ok.mod,ok.kind,ok.glob,ok.blt,ok.above,ok.inj,ok.has,ok.N7,ok.hd,ok.frames,ok.stk,ok.QV,ok.bs,ok.Fb,ok.Bf,ok.EF,ok.j8,ok.Ia⟩
theorem Cx.Ok.gR(ok:(X.pR E).Ok):X.Ok:=
 ⟨ok.mod,ok.kind,ok.glob,ok.blt,ok.above,ok.inj,ok.has,ok.N7,ok.hd,ok.frames,ok.stk,ok.QV,ok.bs,ok.Fb,ok.Bf,ok.EF,ok.j8,ok.Ia⟩
section
variable {σ:St}
theorem Inv.pR(I:Inv X pins σ H s)(E:yaj->yai->Prop):Inv (X.pR E) pins σ H s:=⟨I.ok.pR E,I.os,I.bare,I.base,I.loc,I.cell,I.free,I.e8,I.pin,I.hok,I.len⟩
theorem Inv.gR(I:Inv (X.pR E) pins σ H s):Inv X pins σ H s:=⟨I.ok.gR,I.os,I.bare,I.base,I.loc,I.cell,I.free,I.e8,I.pin,I.hok,I.len⟩
theorem SP.gR{D:Ends}{f:Flow}{s':yai}(h:SP (X.pR E) pins D f s'):SP X pins D f s':=by
 cases f with
 |next=>obtain⟨a,e,I,q⟩:=h;exact⟨a,e,I.gR,q⟩
 |brk=>obtain⟨a,e,I,q⟩:=h;exact⟨a,e,I.gR,q⟩
 |cont=>obtain⟨a,e,I,q⟩:=h;exact⟨a,e,I.gR,q⟩
 |ret u=>obtain⟨v,a,e,I,r,q⟩:=h;exact⟨v,a,e,I.gR,r,q⟩
theorem pQ.DS{st:List Stmt}{t:TS}(h:pQ X.DS st t):pQ X st t:=λa s σ H D I hw=>
 yac (h a s σ H D (I.pR _) hw) (λ_ _ q=>q.gR) λ_ _ z=>False.elim z
end
section
variable {rest:List Stmt}{t u:TS}{te:TE}
def Ct:TS:=λD a H=>D.nx a H
def Gn(t u:TS):TS:=λD a H=>t {D with nx:=u D} a H
theorem aM:pQ X [] Ct:=λ_ _ a H _ I h=>yaI ⟨a,H,I,h⟩
theorem aa(h1:PS X st t)(h2:pQ X rest u):pQ X (st::rest) (Gn t u):=by
 intro a s i H D I h;refine yaJ (bS (h1 a s i H {D with nx:=u D} I h) λf j q=>?_);cases f with
 |next=>
  obtain⟨e,m,l,q⟩:=q;exact h2 a j e m D l q
 |ret v=>exact q
 |brk=>exact q
 |cont=>exact q
theorem aj(h1:PS X st t):pQ X [st] t:=by
 intro a s e H D I h;refine yaJ (bS (h1 a s e H D I h) λf i q=>?_);cases f with
 |next=>exact yaI q
 |ret v=>exact q
 |brk=>exact q
 |cont=>exact q
theorem Inv.quiet{a:St}(I:Inv X pins a H s):interactive X.env=false:=by simp[interactive,I.ok.kind]
def Jx(te:TE):TS:=λD a H=>te a H λ_ e=>D.nx a e
theorem bA(n:PE X e te)(m:autoParam (yau e none pos.line X.env=pure false) r0):PS X (.Expr e pos) (Jx te):=by
 intro a s j H D I h;refine wpAny_Expr_any (bS (n a s j H _ I h) λv y i=>?_) I.quiet m;obtain⟨x,q,o,z,l⟩:=i;exact⟨j,q,o,l⟩
def Cs(te:TE):TS:=λD a H=>te a H D.rt
theorem aJ(n:PE X e te):PS X (.Return (some e) pos) (Cs te):=by
 intro a s j H D I h;refine wpAny_Return_some (bS (n a s j H _ I h) λv y i=>?_);obtain⟨x,q,o,l,m⟩:=i;exact⟨x,j,q,o,l,m⟩
def K5(c:TT)(t u:TS):TS:=λD a H=>c a H λb e=>if b=true then t D a e else u D a e
theorem bh{c:Expr}{a b:List Stmt}{tc:TT}(q:PT X c tc)(z:pQ X a t)(y:pQ X b u):PS X (.If c a b pos) (K5 tc t u):=by
 intro e s i H D I h;refine wpAny_If (bS (q e s i H _ I h) λd l j=>?_);obtain⟨o,n,m⟩:=j;cases d with
 |true=>exact z e l i o D n m
 |false=>exact y e l i o D n m
def K1:TS:=λ_ _ _=>False
theorem dO:PS X st K1:=λ_ _ _ _ _ _ h=>h.elim
end
abbrev TG:=V->St->Hp->(St->Hp->Prop)->Prop
abbrev Jd:=List V->St->Hp->(St->Hp->Prop)->Prop
def PG(X:Cx)(a:Expr)(t:TG):Prop:=
 ∀(e:List (Addr×Obj))(s:yai)(j:St)(H:Hp)(v:V)(u:yaj)(Q:St->Hp->Prop),Inv X e j H s->RelV v u->t v j H Q->
  yas (model X.prog X.w) X.A (assign a X.env u) (λ_ m=>∃i l,Inv X e i l m/\Q i l) X.xe s
def NG(X:Cx)(ts:List Expr)(t:Jd):Prop:=
 ∀(a:List (Addr×Obj))(s:yai)(i:St)(H:Hp)(j:List V)(l:List yaj)(Q:St->Hp->Prop),Inv X a i H s->Vals j l->t j i H Q->
  yas (model X.prog X.w) X.A (assignInOrder ((assignEach ts X.env).map (·.2)) l) (λ_ n=>∃e m,Inv X a e m n/\Q e m) X.xe s
def qJ(i:Nat):TG:=λv a H Q=>Q (a.set i (some v)) H
theorem c9(m:X.N.Nodup)(j:X.N[i]? =some x)(e:Loc X.env.scope x)(l:X.fn x=true∨X.env.scope.names.lookup x=some .local:=by first|exact .inl rfl|exact .inr rfl|assumption):PG X (.Name x pos) (qJ i):=by
 intro a s o H v u Q I r h;exact wpAny_assign_Name (gW I m j e r (λq n=>⟨_,H,n,h⟩) l)
def Px:Jd:=λe a H Q=>e=[]/\Q a H
def J0(t:TG)(u:Jd):Jd:=λi e H Q=>∃v r,i=v::r/\t v e H λa j=>u r a j Q
theorem jR:NG X [] Px:=by
 intro a s i H j l Q I r h;obtain⟨e,h⟩:=h;subst e;cases r;exact assignInOrder_nil ⟨i,H,I,h⟩
theorem dQ{t:TG}{u:Jd}(h1:PG X e t)(h2:NG X es u)(n:autoParam ((assignEach (e::es) X.env).map (·.2)=assign e X.env::(assignEach es X.env).map (·.2)) r0):NG X (e::es) (J0 t u):=by
 intro a s j H z E Q I r h;obtain⟨v,C,o,h⟩:=h;subst o;cases r with
 |cons r rr=>
  rw[n];refine assignInOrder_cons (bS (h1 a s j H _ _ _ I r h) λ_ l ⟨i,y,q,m⟩=>?_);exact h2 a l i y _ _ Q q rr m
def Pw(K:yaM)(n:Nat)(t:Jd):TG:=λv e H Q=>∃a xs,v=.ref a/\ee K H a xs/\xs.length=n/\t xs e H Q
theorem oh{k:Nat}{t:Jd}(L:X.calm=true)(h:NG X es t)(E:autoParam ((assignEach es X.env).length=n) r0)(j:autoParam ((assignEach es X.env).findIdx? (·.1)=none) r0):PG X (.Tuple es k pos) (Pw X.K n t):=by
 intro i s l H v u Q I r hw;obtain⟨a,xs,P,C,F,hw⟩:=hw;subst P;cases r;obtain⟨q,m,z,hz⟩:=I.tuple C;refine assign_Tuple_tuple (I.ok.hd L) z (by simp[E,<-F,m.length]) j λO y=>?_;have S:Inv X i l H {s with heap:=O}:=I.kept (t':=s.toks) λb o e=>y b o (zcG (zcP e)) e;exact h i _ l H xs _ Q S (by simpa using m) hw
def CA(te:TE)(g:TG):TS:=λD a H=>te a H λx e=>g x a e D.nx
theorem bR{te:TE}(E:X.N.Nodup)(u:X.N[i]? =some x)(o:Loc X.env.scope x)(C:PE X e te)(q:autoParam (yau e (some (.Name x pos')) pos.line X.env=pure false) r0)(z:X.fn x=true∨X.env.scope.names.lookup x=some .local:=by first|exact .inl rfl|exact .inr rfl|assumption):
  PS X (.Assign [.Name x pos'] e pos) (CA te (qJ i)):=by
 intro a s l H D I h;refine wpAny_Assign_Name (bS (C a s l H _ I h) λv Q j=>?_) q;obtain⟨y,O,L,m,n⟩:=j;exact gW L E u o m (λP F=>⟨_,O,F,n⟩) z
structure It where
 go:Nat->Hp->Prop
 B6:Nat->Hp->V->Hp->Prop
 stop:Nat->Hp->Prop
def lE(X:Cx)(a:List (Addr×Obj))(H:Hp)(b:Addr):Prop:=
 H b=none/\b≠X.env.locals/\b ∉ X.fs/\(b∈X.ex∨X.s₀.heap.objs.size<=b)/\(∀x c,X.env.cells.lookup x=some c->c≠b)/\∀p∈X.pn++a,p.1≠b
theorem Inv.vc{i:St}{b:Addr}(I:Inv X pins i H s)(a:s.heap.objs.size<=b)(l:H' b=none):lE X pins H' b:=by
 refine⟨l,zcI (zaV I.lt a),I.O3 a,.inr (zcH I.sz a),λx c e z=>?_,λp j z=>?_⟩
 ·obtain⟨v,q⟩:=I.cell x c e;exact absurd (zaV q.lt (by rw[z];exact a)) (zct _)
 ·exact absurd (zaV (zcP (I.pin p j).1) (by rw[z];exact a)) (zct _)
structure Turn(P:yak)(w:yal)(K:yaM)(tg:Expr)(J:It)(fp:List Addr)(it:Addr)(tn:Nat->Heap->Prop):Prop where
 mem:it∈fp
 obj:∀i h,tn i h->∀b∈fp,∃o,h.get? b=some o/\∀v,o.data≠ .cell v
 keep:∀i h h',tn i h->(∀b∈fp,∀o,h.get? b=some o->h'.get? b=some o)->tn i h'
 item:∀(X:Cx),X.prog=P->X.w=w->X.K=K->X.calm=true->∀(i:Nat)(pins:List (Addr×Obj))(s:yai)(σ:St)(H:Hp)(E:yaj->yai->Prop),Inv X pins σ H s->(∀b∈fp,lE X pins H b)->tn i s.heap->J.go i H->
  yas (model P w) X.A (pyNext (.ref it)) (λr s1=>∃u,r=some u/\yas (model P w) X.A (letOwnedTupleGo tg (.ref it) u) (λ_ s2=>∃x H',Inv X pins σ H' s2/\RelV x u/\J.B6 i H x H'/\tn (i+1) s2.heap/\∀b∈fp,H' b=none) E s1) E s
 done:∀(X:Cx),X.prog=P->X.w=w->X.K=K->X.calm=true->∀(i:Nat)(pins:List (Addr×Obj))(s:yai)(σ:St)(H:Hp)(E:yaj->yai->Prop),Inv X pins σ H s->(∀b∈fp,lE X pins H b)->tn i s.heap->J.stop i H->
  yas (model P w) X.A (pyNext (.ref it)) (λr s1=>r=none/\Inv X pins σ H s1) E s
 self:∀(A:yam)(i:Nat)(s:yai)(Q:yaj->yai->Prop)(E:yaj->yai->Prop),tn i s.heap->Q (.ref it) s->yas (model P w) A (pyIter (.ref it)) Q E s
abbrev TI:=St->Hp->(It->Hp->Prop)->Prop
def Te(X:Cx)(a:List (Addr×Obj))(m:St)(n:Expr)(R:It->Hp->Prop)(e:yaj)(j:yai):Prop:=
 ∃(it:Addr)(l:List Addr)(tn:Nat->Heap->Prop)(J:It)(i:Hp),e=.ref it/\Inv X a m i j/\Turn X.prog X.w X.K n J l it tn/\tn 0 j.heap/\(∀b∈l,lE X a i b)/\R J i
def PI(X:Cx)(l e:Expr)(j:TI):Prop:=
 ∀(a:List (Addr×Obj))(s:yai)(i:St)(H:Hp)(R:It->Hp->Prop),Inv X a i H s->j i H R->
  yas (model X.prog X.w) X.A (eval e X.env) (λv m=>yas (model X.prog X.w) X.A (pyIter v) (Te X a i l R) X.xe m) X.xe s
theorem zU{M:Model}{it:Addr}{o:Obj}{n:String}{vs:Array yaj}{Q:Unit->yai->Prop}(e:s.heap.get? it=some o)(j:o.cls=.type n)(hd:o.data=.fields vs)(i:["enumerate","zip","dict_itemiterator","dict_reverseitemiterator","odict_iterator","itertools.zip_longest","itertools.pairwise"].contains n=false)(a:Q () s):yas M A (letOwnedTupleGo tg (.ref it) u) Q E s:=by
 unfold letOwnedTupleGo;cases tg<;>first
  |exact yab a
  |(cases u<;>first|exact yab a|(refine yaa (wpAny_load e ?_);rw[j,hd];show yas M A (if(["enumerate","zip","dict_itemiterator","dict_reverseitemiterator","odict_iterator","itertools.zip_longest","itertools.pairwise"].contains n&&vs[0]? ==some (rawInt _))=true then _ else _) Q E s;rw[yIn (by intro h;rw[i,zcg] at h;cases h)];exact yab a))
noncomputable def Qw(K:yaM)(a:Addr):It:=
 ⟨λi H=>∃xs x,b9 K H a xs/\xs[i]? =some x,λi H x e=>e=H/\∀xs,b9 K H a xs->xs[i]? =some x,λi H=>∃xs,b9 K H a xs/\xs.length<=i⟩
noncomputable def Q4(K:yaM)(a:Addr):It:=
 ⟨λi H=>∃xs x,ee K H a xs/\xs[i]? =some x,λi H x e=>e=H/\∀xs,ee K H a xs->xs[i]? =some x,λi H=>∃xs,ee K H a xs/\xs.length<=i⟩
noncomputable def Q6(a:Int)(n:Nat):It:=⟨λi _=>i<n,λi H x e=>e=H/\x=.int (a+i),λi _=>n<=i⟩
theorem Ay{w:yal}(a it:Addr):Turn P w K tg (Qw K a) [it] it (λi h=>h.IsListIter it a i) where
 mem:=by simp
 obj:=λi h st b l=>by
  have e:b=it:=by simpa using l
  subst e;obtain⟨o,e,c,d⟩:=st;exact⟨o,e,λv z=>by rw[d] at z;cases z⟩
 keep:=λi h y st k=>st.at λo e=>k it (by simp) o e
 item:=by
  intro X Q hw S hc i j s σ H E I q st O;subst Q hw S;obtain⟨xs,x,n,L⟩:=O;obtain⟨F,C,p,hz⟩:=I.list n;obtain⟨u,hu,ru⟩:=C.get L;obtain⟨f0,Z,f2,Y,W,U⟩:=q it (by simp);refine wpAny_pyNext_list_item st p.isList (x:=u) (by simpa using hu) λy m sb=>?_;have I1:Inv X j σ H {s with heap:=y}:=I.turned (t':=s.toks) (λb o l e=>(sb.2 b l).trans e) f0 Z Y W U;obtain⟨o,e,c,d⟩:=id m;exact⟨u,rfl,zU (s:={s with heap:=y}) e c d (by decide) ⟨x,H,I1,ru,⟨rfl,λys hy=>by rw[I.uT hy n];exact L⟩,m,λb l=>(q b l).1⟩⟩
 done:=by
  intro X Q hw S hc i j s σ H E I q st O;subst Q hw S;obtain⟨xs,n,L⟩:=O;obtain⟨F,C,p,hz⟩:=I.list n;obtain⟨f0,Z,f2,Y,W,U⟩:=q it (by simp);have hl:=C.length;exact wpAny_pyNext_list_end (I.ok.hd hc) st p.isList (by simp;lia) λy eb=>⟨rfl,I.turned (t':=s.toks) (λb o l e=>eb b o l e) f0 Z Y W U⟩
 self:=λ_ _ _ _ _ st h=>wpAny_pyIter_listiter st h
theorem wG{w:yal}(a it:Addr):Turn P w K tg (Q4 K a) [it] it (λi h=>h.IsTupleIter it a i) where
 mem:=by simp
 obj:=λi h st b m=>by
  have e:b=it:=by simpa using m
  subst e;obtain⟨o,e,c,d⟩:=st;exact⟨o,e,λv z=>by rw[d] at z;cases z⟩
 keep:=λi h C st k=>st.at λo e=>k it (by simp) o e
 item:=by
  intro X Q hw S hc i j s σ H E I y st O;subst Q hw S;obtain⟨xs,x,q,L⟩:=O;obtain⟨l,F,p,hz⟩:=I.tuple q;obtain⟨u,hu,ru⟩:=F.get L;obtain⟨f0,Z,f2,Y,W,U⟩:=y it (by simp);refine wpAny_pyNext_tuple_item st (show s.heap.IsTuple a l.toArray from p) (x:=u) (by simpa using hu) λC n sb=>?_;have I1:Inv X j σ H {s with heap:=C}:=I.turned (t':=s.toks) (λb o m e=>(sb.2 b m).trans e) f0 Z Y W U;obtain⟨o,e,c,d⟩:=id n;exact⟨u,rfl,zU (s:={s with heap:=C}) e c d (by decide) ⟨x,H,I1,ru,⟨rfl,λys hy=>by rw[I.AB hy q];exact L⟩,n,λb m=>(y b m).1⟩⟩
 done:=by
  intro X Q hw S hc i j s σ H E I y st O;subst Q hw S;obtain⟨xs,q,L⟩:=O;obtain⟨l,F,p,hz⟩:=I.tuple q;obtain⟨f0,Z,f2,Y,W,U⟩:=y it (by simp);have hl:=F.length;exact wpAny_pyNext_tuple_end (I.ok.hd hc) st (show s.heap.IsTuple a l.toArray from p) (by simp;lia) λC eb=>⟨rfl,I.turned (t':=s.toks) (λb o m e=>eb b o m e) f0 Z Y W U⟩
 self:=λ_ _ _ _ _ st h=>wpAny_pyIter_tupleiter st h
theorem wH{w:yal}(it:Addr)(m:Int)(n:Nat):Turn P w K tg (Q6 m n) [it] it (λi h=>IsRangeIter h it (m+(i:Nat)*1) ((n:Int) - (i:Nat)) 1) where
 mem:=by simp
 obj:=λi h st b j=>by
  have e:b=it:=by simpa using j
  subst e;exact⟨_,st,λv z=>by
   have z':Data.fields _=Data.cell v:=z;cases z'⟩
 keep:=λi h u st k=>k it (by simp) _ st
 item:=by
  intro X F hw L C i a s Z H E I q st y;subst F hw L;obtain⟨Y,U,f2,S,Q,O⟩:=q it (by simp);have W:=Walks.range (prog:=X.prog) (w:=X.w) (I.ok.hd C) it m 1 n;refine W.item i s _ _ y st λv u tk hv l kk=>?_;obtain⟨t,rfl⟩:=hv;have I1:Inv X a Z H {s with heap:=u,toks:=tk}:=I.turned (λb o j e=>kk b o (by simpa using j) e) Y U S Q O;refine⟨_,rfl,zU (s:={s with heap:=u,toks:=tk}) (n:="range_iterator") l rfl rfl (by decide) ⟨.int (m+i),H,I1,⟨t,?_⟩,⟨rfl,rfl⟩,l,λb j=>(q b j).1⟩⟩;rw[Int.mul_one]
 done:=by
  intro X F hw L C i a s Z H E I q st y;subst F hw L;obtain⟨Y,U,f2,S,Q,O⟩:=q it (by simp);exact wpAny_pyNext_range_end (I.ok.hd C) st (by have:n<=i:=y;lia) λu eb=>⟨rfl,I.turned (t':=s.toks) (λb o j e=>eb b o j e) Y U S Q O⟩
 self:=λ_ _ _ _ _ st h=>wpAny_pyIter_rangeiter st h
theorem uC{j:St}{R:It->Hp->Prop}{a i:Int}{t u v:Tok}{tk:Nat}(I:Inv X pins j H s)(h1: -(2 ^ 62)<=a)(h2:a<2 ^ 62)(y: -(2 ^ 62)<=i)(n:i<2 ^ 62)(q:R (Q6 a (i - a).toNat) H):yas (model X.prog X.w) X.A (pyIter (.ref s.heap.objs.size)) (Te X pins j tg R) E {s with heap:=s.heap.push {cls:=.type "range",data:=.fields #[.int a t,.int i u,.int 1 v]},toks:=tk}:=by
 refine wpAny_pyIter_range (IsRange.new ..) (small_one h1 h2 y n) ?_;have l:Inv X pins j H {s with heap:=s.heap.push {cls:=.type "range",data:=.fields #[.int a t,.int i u,.int 1 v]},toks:=tk}:=I.kept λb o e=>zar _ e;refine⟨(s.heap.push {cls:=.type "range",data:=.fields #[.int a t,.int i u,.int 1 v]}).objs.size,[(s.heap.push {cls:=.type "range",data:=.fields #[.int a t,.int i u,.int 1 v]}).objs.size],_,_,H,rfl,l.kept (t':=tk) λb o e=>zar _ e,wH _ a (i - a).toNat,?_,λb m=>?_,q⟩
 ·have C:a+((0:Nat):Int)*1=a:=by simp
  have z:(((i - a).toNat:Nat):Int) - ((0:Nat):Int)=Builtin.Range.rangeSize a i 1:=by rw[rangeSize_one];split<;>lia
  show IsRangeIter _ _ (a+((0:Nat):Int)*1) ((((i - a).toNat:Nat):Int) - ((0:Nat):Int)) 1;rw[C,z];exact zaM _ rfl
 ·have e:b=(s.heap.push {cls:=.type "range",data:=.fields #[.int a t,.int i u,.int 1 v]}).objs.size:=by simpa using m
  subst e;exact l.vc (zcS _) (l.hok.fresh (zcS _))
def JZ(i:TA):TI:=λa H R=>i a H λe l=>∃j:Int,e=[.int j]/\-(2 ^ 62)<=j/\j<2 ^ 62/\R (Q6 0 j.toNat) l
def qH(l:TA):TI:=λa H R=>l a H λe m=>∃i j:Int,e=[.int i,.int j]/\(-(2 ^ 62)<=i/\i<2 ^ 62/\-(2 ^ 62)<=j/\j<2 ^ 62)/\R (Q6 i (j - i).toNat) m
theorem bP{a:Expr}{n:TA}(C:Gl X "range")(z:X.mg "range"=none)(E:PA X [a] n)(y:autoParam (yap [a] X.env=[(false,eval a X.env)]) r0):PI X tg (.Call (.Name "range" p) [a] [] pos) (JZ n):=by
 intro i s o H R I h;refine Call_ (gD I C z boot_range (PyProof.Rows.callWith_type1 (bS (E pos i s o H _ I h) λO P l=>?_) y rfl));obtain⟨L,Q,F,u,m⟩:=l;obtain⟨j,e,m,q2,q⟩:=m;subst e;cases u with
 |cons r rr=>
  cases rr;obtain⟨t,rfl⟩:=r;exact call_range_1 (uC F (by simp) (by simp) m q2 (by simpa using q))
theorem kT{a b:Expr}{u:TA}(F:Gl X "range")(E:X.mg "range"=none)(L:PA X [a,b] u)(C:autoParam (yap [a,b] X.env=[(false,eval a X.env),(false,eval b X.env)]) r0)(m:autoParam (yap [b] X.env=[(false,eval b X.env)]) r0):
  PI X tg (.Call (.Name "range" p) [a,b] [] pos) (qH u):=by
 intro l s y H R I h;refine Call_ (gD I F E boot_range (PyProof.Rows.callWith_type1 (bS (L pos l s y H _ I h) λQ U n=>?_) (by rw[C,m]) (by rw[m];rfl)));obtain⟨P,W,O,z,o⟩:=n;obtain⟨i,j,e,⟨o,q2,q3,q4⟩,q⟩:=o;subst e;cases z with
 |cons r rr=>
  cases rr with
  |cons r' rr=>
   cases rr;obtain⟨t,rfl⟩:=r;obtain⟨S,rfl⟩:=r';exact call_range_2 (uC O o q2 q3 q4 q)
def Om(o:TI)(g:TG)(tb:TS):TS:=λD a H=>o a H λJ u=>∃W:Nat->Nat->St->Hp->Prop,(∃m,W 0 m a u)/\∀i m a H,W i m a H->
 (J.stop i H/\D.nx a H)∨(J.go i H/\∃N:St->Hp->Prop,(∀e j,N e j->∃n,n<m/\W (i+1) n e j)/\∀x j,J.B6 i H x j->g x a j λl q=>tb {D with nx:=N,ct:=N,bk:=D.nx} l q)
noncomputable def nZ(fp:List Addr)(h:Heap):List (Addr×Obj):=fp.filterMap λb=>(h.get? b).map λo=>(b,o)
theorem gB{h:Heap}{b:Addr}{o:Obj}(a:b∈fp)(e:h.get? b=some o):(b,o)∈nZ fp h:=List.mem_filterMap.mpr ⟨b,a,by rw[e];rfl⟩
theorem Bc{h:Heap}{p:Addr×Obj}(a:p∈nZ fp h):p.1∈fp/\h.get? p.1=some p.2:=by
 obtain⟨b,i,e⟩:=List.mem_filterMap.mp a;cases q:h.get? b with
 |none=>rw[q] at e;cases e
 |some o=>
  rw[q] at e;have j:(b,o)=p:=zcW.inj e;subst j;exact⟨i,q⟩
theorem Inv.pinned{a:St}(I:Inv X pins a H s)(n:∀b∈fp,lE X pins H b)(m:∀b∈fp,∃o,s.heap.get? b=some o/\∀v,o.data≠ .cell v):Inv X (pins++nZ fp s.heap) a H s:=
 I.jQ λp l=>(zbM.mp l).elim (λz=>I.pin p (zat _ z)) λz=>by
  obtain⟨i,e⟩:=Bc z;obtain⟨y,u,q,_⟩:=n p.1 i;obtain⟨o,j,d⟩:=m p.1 i;rw[e] at j;cases j;exact⟨e,y,u,q,d⟩
theorem Inv.gT{pl:List (Addr×Obj)}{a:St}(I:Inv X (pins++pl) a H s):Inv X pins a H s:=I.jQ λp e=>I.pin p (zat _ (zaB _ e))
theorem d8{wi:TI}{g:TG}{tb:TS}(Y:PassesOwn (model X.prog X.w) X.A X.env X.xe)(hc:X.calm=true)(hi:PI X tg iter wi)(hg:PG X tg g)(z:pQ X body tb)(hs:∀x,foldedSetIterable iter X.env x=pure x:=by intro _;rfl):PS X (.For tg iter body [] pos) (Om wi g tb):=by
 intro j s σ H D I h;refine wpAny_For (bS (hi j s σ H _ I h) λv s1 h1=>bS h1 λitv s2 h2=>?_) hs;obtain⟨it,fp,tn,J,H2,e,I2,T,st2,f2,W,⟨m0,w0⟩,Q⟩:=h2;subst e;have K6:∀{L:Hp},(∀b∈fp,L b=none)->∀b∈fp,lE X j L b:=λhn b z=>⟨hn b z,(f2 b z).2⟩
 refine codeAny_forLoop_any (λn s'=>∃i y L,Inv X j y L s'/\tn i s'.heap/\(∀b∈fp,L b=none)/\W i n y L) ?_ m0 ⟨0,σ,H2,I2,st2,λb z=>(f2 b z).1,w0⟩;rintro n s3 ⟨i,q,H3,I3,S,Z,w3⟩;rcases Q i n q H3 w3 with⟨stop,qn⟩|⟨go,N,hN,step⟩
 ·refine wpAny_passesOwn Y (bS (T.done X rfl rfl rfl hc i j s3 q H3 X.xe I3 (K6 Z) S stop) λr s4 l=>?_);obtain⟨hr,I4⟩:=l;subst hr;exact yaI ⟨q,H3,I4,qn⟩
 ·refine wpAny_passesOwn Y (bS (T.item X rfl rfl rfl hc i j s3 q H3 X.xe I3 (K6 Z) S go) λr s4 l=>?_);obtain⟨u,hr,h4⟩:=l;subst hr;refine wpAny_passesOwn Y (bS h4 λ_ s5 l=>?_);obtain⟨x,H5,I5,r5,y5,P,fr5⟩:=l;have I5':=I5.pinned (K6 fr5) (T.obj _ _ P);refine wpAny_passesOwn Y (bS (hg _ s5 q H5 x u _ I5' r5 (step x H5 y5)) λ_ s6 l=>?_);obtain⟨σ6,H6,I6,q6⟩:=l;refine wpAny_passesOwn Y (bS (z _ s6 σ6 H6 _ I6 q6) λf s7 O=>?_);have C:∀{a:St}{F:Hp},Inv X (j++nZ fp s5.heap) a F s7->N a F->∃m,m<n/\∃i y L,Inv X j y L s7/\tn i s7.heap/\(∀b∈fp,L b=none)/\W i m y L:=λ{a F} E U=>by
   obtain⟨m',hm,w7⟩:=hN a F U;refine⟨m',hm,i+1,a,F,E.gT,T.keep _ _ _ P λb z o e=>(E.pin (b,o) (zat _ (zat _ (gB z e)))).1,λb z=>?_,w7⟩;obtain⟨o,e,d⟩:=T.obj _ _ P b z;exact(E.pin (b,o) (zat _ (zat _ (gB z e)))).2.1
  cases f with
  |next=>obtain⟨a,F,E,U⟩:=O;exact C E U
  |cont=>obtain⟨a,F,E,U⟩:=O;exact C E U
  |brk=>obtain⟨a,F,E,O⟩:=O;exact⟨a,F,E.gT,O⟩
  |ret v=>obtain⟨x7,a,F,E,r7,O⟩:=O;exact⟨x7,a,F,E.gT,r7,O⟩
abbrev R2:=V->V->Hp->VK->Prop
def fk(X:Cx)(f:yaj->yaj->Sem yaj)(r:R2):Prop:=
 ∀(a:List (Addr×Obj))(s:yai)(e:St)(H:Hp)(x y:V)(v u:yaj)(Q:VK),Inv X a e H s->RelV x v->RelV y u->r x y H Q->
  yas (model X.prog X.w) X.A (f v u) (EP X a e Q) X.xe s
def N9(X:Cx)(f:yaj->Sem yaj)(r:V->Hp->VK->Prop):Prop:=
 ∀(a:List (Addr×Obj))(s:yai)(e:St)(H:Hp)(x:V)(v:yaj)(Q:VK),Inv X a e H s->RelV x v->r x H Q->
  yas (model X.prog X.w) X.A (f v) (EP X a e Q) X.xe s
def bN(X:Cx)(f:yaj)(r:List V->Hp->VK->Prop):Prop:=
 ∀(a:List (Addr×Obj))(s:yai)(e:St)(H:Hp)(xs:List V)(i:List yaj)(Q:VK),Inv X a e H s->Vals xs i->r xs H Q->
  yas (model X.prog X.w) X.A (call f i) (EP X a e Q) X.xe s
def Sz(X:Cx)(r:V->Hp->(Bool->Hp->Prop)->Prop):Prop:=
 ∀(a:List (Addr×Obj))(s:yai)(e:St)(H:Hp)(x:V)(v:yaj)(Q:Bool->Hp->Prop),Inv X a e H s->RelV x v->r x H Q->
  yas (model X.prog X.w) X.A (truthy v) (TP X a e Q) X.xe s
def AD(r:R2)(e tb:TE):TE:=λa H Q=>e a H λx j=>tb a j λy i=>r x y i Q
def SN(r:V->Hp->VK->Prop)(e:TE):TE:=λa H Q=>e a H λx i=>r x i Q
def rI(C:Int->Int->Prop)(g:Int->Int->V):R2:=λx y H Q=>∃i j,x=.int i/\y=.int j/\C i j/\Q (g i j) H
def Ds(g:Int->Int->V):R2:=λx y H Q=>∃i j,x=.int i/\y=.int j/\Q (g i j) H
def rU(g:Int->V):V->Hp->VK->Prop:=λx H Q=>∃i,x=.int i/\Q (g i) H
section
variable {a b c:Expr}{ta tb tc:TE}
theorem Nf(L:PE X a ta)(F:PE X b tb){e:St}{R:V->V->Hp->Prop}(I:Inv X pins e H s)(h:ta e H λx n=>tb e n λy i=>R x y i){f:yaj->yaj->Sem yaj}(E:∀v u m x y i,Inv X pins e i m->RelV x v->RelV y u->R x y i->yas (model X.prog X.w) X.A (f v u) Q X.xe m):
  yas (model X.prog X.w) X.A (eval a X.env) (λv l=>yas (model X.prog X.w) X.A (eval b X.env) (λu j=>yas (model X.prog X.w) X.A (f v u) Q X.xe j) X.xe l) X.xe s:=by
 refine bS (L pins s e H _ I h) λv o ⟨x,n,P,z,C⟩=>?_;refine bS (F pins o e n _ P C) λu m ⟨y,i,O,q,q2⟩=>?_;exact E v u m x y i O z q q2
theorem aA{i:Operator}{r:R2}(o:fk X (binaryOp i) r)(C:PE X a ta)(z:PE X b tb):PE X (.BinOp a i b pos) (AD r ta tb):=by
 intro e s j H Q I h;exact wpAny_BinOp (Nf C z I h λv u l x y F E n m q=>o e l j F x y v u Q E n m q)
theorem DE{l:UnaryOp}{r:V->Hp->VK->Prop}(q:N9 X (unaryOp l) r)(u:PE X a ta):PE X (.UnaryOp l a pos) (SN r ta):=by
 intro e s j H Q I h;refine UnaryOp_ (bS (u e s j H _ I h) λv m i=>?_);obtain⟨x,z,y,n,o⟩:=i;exact q e m j z x v Q y n o
theorem QJ{f:yaj->yaj->Sem yaj}{C:Int->Int->Prop}{g:Int->Int->Int}(e:∀(i j:Int)(t u:Tok)(s:yai)(Q:yaj->yai->Prop)(E:yaj->yai->Prop),C i j->Q (.int (g i j) s.toks) {s with toks:=s.toks+1}->yas (model X.prog X.w) X.A (f (.int i t) (.int j u)) Q E s):
  fk X f (rI C λi j=>.int (g i j)):=by
 intro l s F H x y v u Q I o n h;obtain⟨i,j,rfl,rfl,z,q⟩:=h;obtain⟨t,rfl⟩:=o;obtain⟨m,rfl⟩:=n;exact e i j t m s _ _ z ⟨.int (g i j),H,I.tok _,⟨_,rfl⟩,q⟩
theorem OU{f:yaj->yaj->Sem yaj}{g:Int->Int->Int}(e:∀(i j:Int)(t u:Tok)(s:yai)(Q:yaj->yai->Prop)(E:yaj->yai->Prop),Q (.int (g i j) s.toks) {s with toks:=s.toks+1}->yas (model X.prog X.w) X.A (f (.int i t) (.int j u)) Q E s):
  fk X f (Ds λi j=>.int (g i j)):=by
 intro l s z H x y v u Q I o n h;obtain⟨i,j,rfl,rfl,q⟩:=h;obtain⟨t,rfl⟩:=o;obtain⟨m,rfl⟩:=n;exact e i j t m s _ _ ⟨.int (g i j),H,I.tok _,⟨_,rfl⟩,q⟩
theorem Hr{f:yaj->yaj->Sem yaj}{g:Int->Int->Bool}(e:∀(i j:Int)(t u:Tok)(s:yai)(Q:yaj->yai->Prop)(E:yaj->yai->Prop),Q (.bool (g i j)) s->yas (model X.prog X.w) X.A (f (.int i t) (.int j u)) Q E s):
  fk X f (Ds λi j=>.bl (g i j)):=by
 intro l s z H x y v u Q I o n h;obtain⟨i,j,rfl,rfl,q⟩:=h;obtain⟨t,rfl⟩:=o;obtain⟨m,rfl⟩:=n;exact e i j t m s _ _ ⟨.bl (g i j),H,I,rfl,q⟩
def F8(i j:Int):Prop:=0<j/\j<1073741824
def SJ(i j:Int):Prop:=0<=j/\j<=1000000/\i.natAbs<2 ^ 64
def B5(i j:Int):Prop:=(-(2 ^ 64)<i/\i<2 ^ 64)∨(-(2 ^ 64)<j/\j<2 ^ 64)
theorem B5.ok{i j:Int}(h:B5 i j):IntMulOk i j:=by
 rcases h with⟨h1,h2⟩|⟨h1,h2⟩
 ·exact .of_left (intBits_le_64 h1 h2)
 ·exact .of_right (intBits_le_64 h1 h2)
theorem g8:fk X (binaryOp .Add) (Ds λi j=>.int (i+j)):=OU λ_ _ _ _ _ _ _ q=>add_int q
theorem DG:fk X (binaryOp .Sub) (Ds λi j=>.int (i - j)):=OU λ_ _ _ _ _ _ _ q=>sub_int q
theorem gz:fk X (binaryOp .Mult) (rI B5 λi j=>.int (i*j)):=QJ λ_ _ _ _ _ _ _ e q=>mul_int q e.ok
theorem zB:fk X (binaryOp .FloorDiv) (rI F8 λi j=>.int (i / j)):=QJ λi j _ _ _ _ _ e q=>by
 have h1:(0:Int)<j:=e.1;have h2:j<1073741824:=e.2;exact floordiv_int (by lia) (by rw[Int.fdiv_eq_ediv_of_nonneg i (by lia)];exact q) (.inl (PyProof.noPylong_small (by omega)))
theorem gA:fk X (binaryOp .Mod) (rI (λ_ j=>0<j) λi j=>.int (i % j)):=QJ λi j _ _ _ _ _ e q=>by
 have h1:(0:Int)<j:=e;exact mod_int' (by lia) (by rw[Int.fmod_eq_emod_of_nonneg i (by lia)];exact q)
theorem LX:fk X (binaryOp .Pow) (rI SJ λi j=>.int (i ^ j.toNat)):=QJ λ_ _ _ _ _ _ _ e q=>pow_int_small e.1 e.2.1 e.2.2 q
theorem unI{f:yaj->Sem yaj}{g:Int->Int}(e:∀(i:Int)(t:Tok)(s:yai)(Q:yaj->yai->Prop)(E:yaj->yai->Prop),Q (.int (g i) s.toks) {s with toks:=s.toks+1}->yas (model X.prog X.w) X.A (f (.int i t)) Q E s):
  N9 X f (rU λi=>.int (g i)):=by
 intro j s m H x v Q I l h;obtain⟨i,rfl,q⟩:=h;obtain⟨t,rfl⟩:=l;exact e i t s _ _ ⟨.int (g i),H,I.tok _,⟨_,rfl⟩,q⟩
theorem KL:N9 X (unaryOp .USub) (rU λi=>.int (-i)):=unI λ_ _ _ _ _ q=>neg_int q
end
noncomputable def Ot:V->V->Bool
 |.aY,.aY=>true|.aY,.int _=>true|.int _,.aY=>true|.aY,.bl _=>true|.bl _,.aY=>true|.aY,.str _=>true|.str _,.aY=>true
 |.int _,.int _=>true|.bl _,.bl _=>true|.str _,.str _=>true|.wD _,.wD _=>true
 |.int _,.str _=>true|.str _,.int _=>true|.bl _,.str _=>true|.str _,.bl _=>true
 |_,_=>false
def rEq:R2:=λx y H Q=>Ot x y=true/\Q (.bl (decide (x=y))) H
def rNe:R2:=λx y H Q=>Ot x y=true/\Q (.bl (!decide (x=y))) H
theorem Aa{i j:Int}:decide (V.int i=V.int j)=(i==j):=by
 rw[zca];simp
theorem EM{i j:Bool}:decide (V.bl i=V.bl j)=(i==j):=by
 rw[zca];simp
theorem z9{i j:Str}:decide (V.str i=V.str j)=(i==j):=by
 rw[zca];simp
theorem Ab{i j:Array UInt8}:decide (V.wD i=V.wD j)=(i.toList==j.toList):=by
 rw[zca];cases i;cases j;simp
section
variable {a b c:Expr}{ta tb tc:TE}
theorem aX{i:St}{Q:VK}{k j:Bool}(I:Inv X pins i H s)(q:Q (.bl k) H)(e:k=j):EP X pins i Q (.bool j) s:=by
 subst e;exact⟨.bl k,H,I,rfl,q⟩
theorem DI:fk X (yao .Eq) rEq:=by
 intro o s z H x y v u Q I n e h;obtain⟨m,q⟩:=h;cases x with
 |aY=>
  cases n;cases y with
  |aY=>cases e;exact PySem.EqNone.eq_none_none (aX I q (by simp))
  |bl j=>cases e;exact PySem.EqNone.eq_none_bool (aX I q (by simp))
  |int j=>obtain⟨l,rfl⟩:=e;exact PySem.EqNone.eq_none_int (aX I q (by simp))
  |str j=>obtain⟨l,rfl⟩:=e;exact PySem.EqNone.eq_none_str (aX I q (by simp))
  |_=>exact absurd (show false=true from m) zaX
 |bl i=>
  cases n;cases y with
  |aY=>cases e;exact PySem.EqNone.eq_bool_none (aX I q (by simp))
  |bl j=>cases e;exact eq_bool (aX I q EM)
  |str j=>obtain⟨l,rfl⟩:=e;exact PySem.EqMixed.eq_bool_str (aX I q (by simp))
  |_=>exact absurd (show false=true from m) zaX
 |int i=>
  obtain⟨t,rfl⟩:=n;cases y with
  |aY=>cases e;exact PySem.EqNone.eq_int_none (aX I q (by simp))
  |int j=>obtain⟨l,rfl⟩:=e;exact eq_int (aX I q Aa)
  |str j=>obtain⟨l,rfl⟩:=e;exact PySem.EqMixed.eq_int_str (aX I q (by simp))
  |_=>exact absurd (show false=true from m) zaX
 |str i=>
  obtain⟨t,rfl⟩:=n;cases y with
  |aY=>cases e;exact PySem.EqNone.eq_str_none (aX I q (by simp))
  |bl j=>cases e;exact PySem.EqMixed.eq_str_bool (aX I q (by simp))
  |int j=>obtain⟨l,rfl⟩:=e;exact PySem.EqMixed.eq_str_int (aX I q (by simp))
  |str j=>obtain⟨l,rfl⟩:=e;exact eq_str (aX I q z9)
  |_=>exact absurd (show false=true from m) zaX
 |wD i=>
  obtain⟨t,rfl⟩:=n;cases y with
  |wD j=>obtain⟨l,rfl⟩:=e;exact PySem.W.eq_bytes (aX I q Ab)
  |_=>exact absurd (show false=true from m) zaX
 |_=>cases y<;>exact absurd (show false=true from m) zaX
theorem JN:fk X (yao .NotEq) rNe:=by
 intro o s z H x y v u Q I n e h;obtain⟨m,q⟩:=h;cases x with
 |aY=>
  cases n;cases y with
  |aY=>cases e;exact PySem.EqNone.ne_none_none (aX I q (by simp))
  |bl j=>cases e;exact PySem.EqNone.ne_none_bool (aX I q (by simp))
  |int j=>obtain⟨l,rfl⟩:=e;exact PySem.EqNone.ne_none_int (aX I q (by simp))
  |str j=>obtain⟨l,rfl⟩:=e;exact PySem.EqNone.ne_none_str (aX I q (by simp))
  |_=>exact absurd (show false=true from m) zaX
 |bl i=>
  cases n;cases y with
  |aY=>cases e;exact PySem.EqNone.ne_bool_none (aX I q (by simp))
  |bl j=>cases e;exact ne_bool (aX I q (congrArg not EM))
  |str j=>obtain⟨l,rfl⟩:=e;exact PySem.EqMixed.ne_bool_str (aX I q (by simp))
  |_=>exact absurd (show false=true from m) zaX
 |int i=>
  obtain⟨t,rfl⟩:=n;cases y with
  |aY=>cases e;exact PySem.EqNone.ne_int_none (aX I q (by simp))
  |int j=>obtain⟨l,rfl⟩:=e;exact ne_int (aX I q (congrArg not Aa))
  |str j=>obtain⟨l,rfl⟩:=e;exact PySem.EqMixed.ne_int_str (aX I q (by simp))
  |_=>exact absurd (show false=true from m) zaX
 |str i=>
  obtain⟨t,rfl⟩:=n;cases y with
  |aY=>cases e;exact PySem.EqNone.ne_str_none (aX I q (by simp))
  |bl j=>cases e;exact PySem.EqMixed.ne_str_bool (aX I q (by simp))
  |int j=>obtain⟨l,rfl⟩:=e;exact PySem.EqMixed.ne_str_int (aX I q (by simp))
  |str j=>obtain⟨l,rfl⟩:=e;exact ne_str (aX I q (congrArg not z9))
  |_=>exact absurd (show false=true from m) zaX
 |wD i=>
  obtain⟨t,rfl⟩:=n;cases y with
  |wD j=>obtain⟨l,rfl⟩:=e;exact PySem.W.ne_bytes (aX I q (congrArg not Ab))
  |_=>exact absurd (show false=true from m) zaX
 |_=>cases y<;>exact absurd (show false=true from m) zaX
theorem JO:fk X (yao .Lt) (Ds λi j=>.bl (decide (i<j))):=Hr λ_ _ _ _ _ _ _ q=>lt_int q
theorem OS:fk X (yao .LtE) (Ds λi j=>.bl (decide (i<=j))):=Hr λ_ _ _ _ _ _ _ q=>le_int q
theorem DH:fk X (yao .Gt) (Ds λi j=>.bl (decide (j<i))):=Hr λ_ _ _ _ _ _ _ q=>gt_int q
theorem OT:fk X (yao .GtE) (Ds λi j=>.bl (decide (j<=i))):=Hr λ_ _ _ _ _ _ _ q=>ge_int q
theorem A9:fk X (yao .Lt) (λx y H Q=>∃i j,x=.str i/\y=.str j/\Q (.bl (decide (i.cps.toList<j.cps.toList))) H):=by
 intro e s n H x y v u Q I m l h;obtain⟨i,j,rfl,rfl,q⟩:=h;obtain⟨t,rfl⟩:=m;obtain⟨o,rfl⟩:=l;exact lt_str (aX I q rfl)
theorem aS(b:Expr){e:CmpOp}(h:autoParam (e≠ .In) r1)(h2:autoParam (e≠ .NotIn) r1):behindInMarks e b=false:=by
 have j:(e==CmpOp.In)=false:=by cases e<;>first|rfl|exact absurd rfl h
 have i:(e==CmpOp.NotIn)=false:=by cases e<;>first|rfl|exact absurd rfl h2
 cases b<;>simp[behindInMarks,j,i]
theorem cH{i:CmpOp}{r:R2}(o:fk X (yao i) r)(E:PE X a ta)(C:PE X b tb)(z:behindInMarks i b=false):PE X (.Compare a [i] [b] pos) (AD r ta tb):=by
 intro e s j H Q I h;exact wpAny_Compare1 (Nf E C I h λv u l x y L F n m q=>o e l j L x y v u Q F n m q) z
def Cr(t:TE):TT:=λe H Q=>t e H λx i=>∃k,x=.bl k/\Q k i
theorem aG{o:CmpOp}{r:R2}(P:fk X (yao o) r)(W:PE X a ta)(U:PE X b tb)(S:behindInMarks o b=false):PT X (.Compare a [o] [b] pos) (Cr (AD r ta tb)):=by
 intro i s j H Q I h;refine wpAny_isTrue_Compare1 (bS (W i s j H _ I h) λv C n=>?_) S;obtain⟨x,H1,I1,L,O⟩:=n;refine bS (U i C j H1 _ I1 O) λu q m=>?_;obtain⟨y,H2,Z,F,q2⟩:=m;refine bS (P i q j H2 x y v u _ Z L F q2) λc s3 l=>?_;obtain⟨z,H3,Y,E,k,e,q3⟩:=l;subst e;cases E;exact wpAny_truthy_bool ⟨H3,Y,q3⟩
def wL(r l:R2)(ta tb tc:TE):TE:=λe H Q=>ta e H λx o=>tb e o λy n=>r x y n λz i=>∃k,z=.bl k/\
 (if k=true then tc e i λj m=>l y j m Q else Q (.bl false) i)
theorem jW{q j:CmpOp}{r F:R2}(ho:fk X (yao q) r)(C:fk X (yao j) F)(ha:PE X a ta)(hb:PE X b tb)(hc:PE X c tc)(hm:lastMarks [q,j] [b,c]=false:=by with_unfolding_all rfl):PE X (.Compare a [q,j] [b,c] pos) (wL r F ta tb tc):=by
 intro i s l H Q I h;refine Compare_chain (bS (ha i s l H _ I h) λv Z o=>?_) hm;obtain⟨x,H1,I1,r1,q1⟩:=o;refine chain_link (bS (hb i Z l H1 _ I1 q1) λu Y n=>?_);obtain⟨y,H2,I2,E,q2⟩:=n;refine bS (ho i Y l H2 x y v u _ I2 r1 E q2) λd W m=>?_;obtain⟨z,O,L,r3,k,e,q3⟩:=m;subst e;cases r3;refine wpAny_truthy_bool ?_;cases k with
 |false=>exact ite_ff ⟨.bl false,O,L,rfl,q3⟩
 |true=>exact ite_tt (chain_last (bS (hc i W l O _ L q3) λS U ⟨P,H4,I4,r4,q4⟩=>C i U l H4 y P u S Q I4 E r4 q4))
theorem nW{q m:CmpOp}{r F:R2}(ho:fk X (yao q) r)(C:fk X (yao m) F)(ha:PE X a ta)(hb:PE X b tb)(hc:PE X c tc)(hm:lastMarks [q,m] [b,c]=false:=by with_unfolding_all rfl):PT X (.Compare a [q,m] [b,c] pos) (Cr (wL r F ta tb tc)):=by
 intro i s n H Q I h;refine isTrue_chain (bS (ha i s n H _ I h) λv Z l=>?_) hm;obtain⟨x,H1,I1,r1,q1⟩:=l;refine test_link (bS (hb i Z n H1 _ I1 q1) λu Y j=>?_);obtain⟨y,H2,I2,E,q2⟩:=j;refine bS (ho i Y n H2 x y v u _ I2 r1 E q2) λd W o=>?_;obtain⟨z,O,L,r3,k,e,q3⟩:=o;subst e;cases r3;refine wpAny_truthy_bool ?_;cases k with
 |false=>
  obtain⟨k',e',q'⟩:=q3;cases e';exact ite_ff ⟨O,L,q'⟩
 |true=>
  refine ite_tt (test_last (bS (hc i W n O _ L q3) λS U l=>?_));obtain⟨P,H4,I4,r4,q4⟩:=l;refine bS (C i U n H4 y P u S _ I4 E r4 q4) λd' s5 j=>?_;obtain⟨z2,H5,I5,r5,k2,e2,q5⟩:=j;subst e2;cases r5;exact wpAny_truthy_bool ⟨H5,I5,q5⟩
def FE(K:yaM)(x:V)(H:Hp)(k:Bool):Prop:=
 match x with
 |.aY=>k=false
 |.bl b=>k=b
 |.int i=>k=(i != 0)
 |.str y=>y.length<=yah/\k=((y.length:Int) != 0)
 |.wD y=>y.size<=yah/\k=((y.size:Int) != 0)
 |.ref p=>(∃xs,b9 K H p xs/\k= !xs.isEmpty)∨(∃xs,ee K H p xs/\k= !xs.isEmpty)∨∃e,H p=some (.dK e)/\k= !e.isEmpty
 |_=>False
theorem xU{κ:Type}{kvs:List (κ×V)}{vs:List (κ×yaj)}(r:KV kvs vs):(!vs.isEmpty)= !kvs.isEmpty:=by
 cases r<;>rfl
theorem oU{xs:List V}{its:List yaj}(r:Vals xs its):(!its.toArray.isEmpty)= !xs.isEmpty:=by
 cases r<;>simp
theorem oM:(yah:Nat)<2 ^ 63:=by rw[yag];decide
theorem KP:Sz X (λx H Q=>∃k,FE X.K x H k/\Q k H):=by
 intro E s O H x v Q I o h;obtain⟨k,e,q⟩:=h;have U:=oM;have S:yah=16777216:=yag;cases x with
 |aY=>
  cases o;have j:k=false:=e;subst j;exact truthy_none ⟨H,I,q⟩
 |bl b=>
  cases o;have j:k=b:=e;subst j;exact wpAny_truthy_bool ⟨H,I,q⟩
 |int i=>
  obtain⟨t,rfl⟩:=o;have j:k=(i != 0):=e;subst j;exact PySem.P.truthy_int ⟨H,I,q⟩
 |str y=>
  obtain⟨t,rfl⟩:=o;obtain⟨F,j⟩:y.length<=yah/\k=((y.length:Int) != 0):=e;subst j;exact PySem.P.truthy_str (by lia) ⟨H,I.tok _,q⟩
 |wD y=>
  obtain⟨t,rfl⟩:=o;obtain⟨F,j⟩:y.size<=yah/\k=((y.size:Int) != 0):=e;subst j;exact PySem.W.truthy_bytes (by lia) ⟨H,I.tok _,q⟩
 |ref p=>
  cases o;have j:(∃xs,b9 X.K H p xs/\k= !xs.isEmpty)∨(∃xs,ee X.K H p xs/\k= !xs.isEmpty)∨∃l,H p=some (.dK l)/\k= !l.isEmpty:=e;rcases j with⟨xs,u,j⟩|⟨xs,u,j⟩|⟨l,u,j⟩
  ·subst j;obtain⟨C,r,pl,hz⟩:=I.list u;have n:=r.length;exact wpAny_truthy_list pl.isList (by simp only[zbc];lia) ⟨H,I.tok _,by rw[oU r];exact q⟩
  ·subst j;obtain⟨C,r,pl,hz⟩:=I.tuple u;have n:=r.length;exact truthy_tuple pl (by simp only[zbc];lia) ⟨H,I.tok _,by rw[oU r];exact q⟩
  ·subst j;obtain⟨hz,L,z,r,m⟩:l.length<=yah/\(p==yat)=false/\∃z,KV l z/\s.heap.DictOf (bu X.prog X.w) p z:=I.hok p _ u;have n:l.length=z.length:=Paired.length r;exact wpAny_truthy_dict L m (by lia) ⟨H,I.tok _,by rw[xU r];exact q⟩
 |_=>exact(show False from e).elim
theorem Dw(u:PE X a ta)(q:∀e,isTrue a X.env e=(do let v <-e;standAt a.pos;holding [v] (truthy v))):
  PT X a (λj H Q=>ta j H λx H'=>∃k,FE X.K x H' k/\Q k H'):=by
 intro i s j H Q I h;refine isTrue_plain (bS (u i s j H _ I h) λv m l=>?_) (q _);obtain⟨x,z,y,n,o⟩:=l;exact KP i m j z x v Q y n o
theorem xC:fk X (binaryOp .Add) (λx y H Q=>∃i j,x=.str i/\y=.str j/\i.length+j.length<=yah/\Q (.str (i++j)) H):=by
 intro e s o H x y v u Q I n m h;obtain⟨i,j,rfl,rfl,hz,q⟩:=h;obtain⟨t,rfl⟩:=n;obtain⟨l,rfl⟩:=m;exact add_str (λl tk=>⟨.str (i++j),H,I.tok _,⟨_,rfl⟩,q⟩) hz
theorem vals1{x:V}(r:Vals [x] us):∃u,us=[u]/\RelV x u:=by
 cases r with
 |cons r1 r2=>cases r2;exact⟨_,rfl,r1⟩
theorem vals2{x y:V}(r:Vals [x,y] us):∃u e,us=[u,e]/\RelV x u/\RelV y e:=by
 cases r with
 |cons r1 r2=>
  cases r2 with
  |cons r3 r4=>cases r4;exact⟨_,_,rfl,r1,r3⟩
theorem BI(m:X.calm=true):bN X (.builtin "max") (λxs H Q=>∃i j,xs=[.int i,.int j]/\Q (.int (if j> i then j else i)) H):=by
 intro l s n H xs y Q I r h;obtain⟨i,j,rfl,q⟩:=h;obtain⟨u,o,rfl,⟨t,rfl⟩,⟨z,rfl⟩⟩:=vals2 r;refine max_two_ints (I.ok.hd m) λC tk k=>⟨_,H,I.kept k,?_,q⟩
 by_cases e:j> i
 ·rw[yIp e,yIp e];exact⟨_,rfl⟩
 ·rw[yIn e,yIn e];exact⟨_,rfl⟩
theorem BH(m:X.calm=true):bN X (.builtin "min") (λxs H Q=>∃i j,xs=[.int i,.int j]/\Q (.int (if j<i then j else i)) H):=by
 intro l s n H xs y Q I r h;obtain⟨i,j,rfl,q⟩:=h;obtain⟨u,o,rfl,⟨t,rfl⟩,⟨z,rfl⟩⟩:=vals2 r;refine min_two_ints (I.ok.hd m) λC tk k=>⟨_,H,I.kept k,?_,q⟩
 by_cases e:j<i
 ·rw[yIp e,yIp e];exact⟨_,rfl⟩
 ·rw[yIn e,yIn e];exact⟨_,rfl⟩
def NK(K:yaM)(x:V)(H:Hp)(n:Nat):Prop:=
 match x with
 |.str y=>y.length<=yah/\n=y.length
 |.wD y=>y.size<=yah/\n=y.size
 |.ref p=>(∃xs,b9 K H p xs/\n=xs.length)∨∃xs,ee K H p xs/\n=xs.length
 |_=>False
theorem vJ:bN X (.builtin "len") (λxs H Q=>∃x n,xs=[x]/\NK X.K x H n/\Q (.int n) H):=by
 intro C s F H xs L Q I r h;obtain⟨x,n,rfl,e,q⟩:=h;obtain⟨u,rfl,l⟩:=vals1 r;have P:=oM;have O:yah=16777216:=yag;cases x with
 |str y=>
  obtain⟨t,rfl⟩:=l;obtain⟨E,j⟩:y.length<=yah/\n=y.length:=e;subst j;exact len_str (by lia) ⟨.int _,H,I.tok _,⟨_,rfl⟩,q⟩
 |wD y=>
  obtain⟨t,rfl⟩:=l;obtain⟨E,j⟩:y.size<=yah/\n=y.size:=e;subst j;exact PySem.W.len_bytes (by lia) ⟨.int _,H,I.tok _,⟨_,rfl⟩,q⟩
 |ref p=>
  cases l;have j:(∃xs,b9 X.K H p xs/\n=xs.length)∨∃xs,ee X.K H p xs/\n=xs.length:=e;rcases j with⟨xs,z,j⟩|⟨xs,z,j⟩
  ·subst j;obtain⟨o,m,pl,hz⟩:=I.list z;have i:=m.length;exact Calls.call_len_list pl.isList (by simp only[zbc];lia) ⟨.int xs.length,H,I.tok _,⟨_,by simp only[zbc];rw[i]⟩,q⟩
  ·subst j;obtain⟨o,m,pl,hz⟩:=I.tuple z;have i:=m.length;exact len_tuple pl (by simp only[zbc];lia) ⟨.int xs.length,H,I.tok _,⟨_,by simp only[zbc];rw[i]⟩,q⟩
 |_=>exact(show False from e).elim
end
structure yv(h:Heap)(x dx C:Addr)(mA:Str->Option yaj):Prop where
 obj:h.get? x=some (zcb C dx)
 ns:h.Ns1 dx mA
 ne:dx≠x
theorem k6{h:Heap}{mA:Str->Option yaj}(n:h.Ns1 dx mA):∃od,h.get? dx=some od/\∀name,PySem.W.lookIn name od=some (mA name):=by
 obtain⟨o,j,F,m,hd,C,_,u⟩:=n;refine⟨o,m,λname=>?_⟩;have e:=u name;unfold nsFind findBy at e;rw[<-Array.find?_toList] at e;unfold PySem.W.lookIn;rw[hd];dsimp only;split
 ·rename_i y q;rw[q] at e;exact congrArg some e
 ·rename_i q;rw[q] at e;have a:j.toList.any (·.refKey)=false:=by
   rw[zbd];intro y l;obtain⟨z,t,i⟩:=C y (Array.mem_toList_iff.mp l);simp[DictEntry.refKey,i]
  have E:¬j.toList.any (·.refKey)=true:=by rw[a];exact zaX
  rw[yIn E];exact congrArg some e
theorem yv.look{h:Heap}{x:Addr}{mA:Str->Option yaj}(I:yv h x dx C mA):∃od,PySem.W.InstAt h x (zcb C dx) C (some od)/\∀name,PySem.W.lookIn name od=some (mA name):=
 by obtain⟨od,a,e⟩:=k6 I.ns;exact⟨od,⟨I.obj,rfl,rfl,a⟩,e⟩
section
variable {w:yal}{x:Addr}{mA:Str->Option yaj}{name:Str}{v:yaj}
theorem get_map{a:Bool}(X:K.In s.heap)(I:yv s.heap x dx C mA)(m:zbJ K C name=true)(l:zbp K C=true)(n:zci K (.ref C) name=some none)(i:mA name=some v)(e:PySem.W.handedIn v=true)(h:Q v {s with toks:=s.toks+1}):
  yas (model prog w) A (getAttr (.ref x) name a) Q E s:=by
 obtain⟨o,J,j⟩:=I.look;exact PySem.W.get_value X J (PySem.W.plainGet_of m).1 (PySem.W.findObj_own l n rfl (by rw[j,i])) e h
theorem Et{pl:Sem Bool}{Q:yaj×List yaj->yai->Prop}(X:K.In s.heap)(I:yv s.heap x dx C mA)(a:zbJ K C name=true)(m:zci K (.ref C) name=some (some (.ref f)))(j:zcM K (.ref f)=true)(i:mA name=none)(h:Q (.ref f,[.ref x]) s):
  yas (model prog w) A (yaF (.ref x) name pl) Q E s:=by
 obtain⟨e,J,l⟩:=I.look;exact PySem.W.method_fn X J (PySem.W.plainGet_of a).1 (PySem.W.plainGet_of a).2 m (beq_iff_eq.mp j) (by show(PySem.W.lookIn name e).map (·.isSome)=some false;rw[l,i];rfl) h
theorem Gu{ns:List Str}{Q:Unit->yai->Prop}(X:K.In s.heap)(I:yv s.heap x dx C mA)(q:zci K (.ref C) "__setattr__"=some (some (.builtin "object.__setattr__")))(u:PySem.W.plainOver K C=true)(o:PySem.W.takerIn K C name=some none)(z:zbp K C=true)(hw:PySem.Within mA ns)(hsz:ns.length<=yah)(h:∀h',yv h' x dx C (λy=>if y=name then some v else mA y)->Heap.SameBut dx s.heap h'->Q () {s with heap:=h',toks:=s.toks+2}):
  yas (model prog w) A (setAttr (.ref x) name v) Q E s:=by
 obtain⟨O,J,S⟩:=I.look;refine PySem.W.set_plain X J q (PySem.W.osa_open (s:={s with toks:=s.toks+1}) (r:=none) X J u o λb=>?_);obtain⟨U,F,l⟩:=PySem.W.any_some z;have n:s.heap.get? x=some ⟨.ref C,some dx,.plain,#[]⟩:=I.obj;refine yaa (yab (yaa (yaa (yaE n (yaa (PySem.W.Looks.here (s:={s with toks:=s.toks+1}) (PySem.W.looks_clsIn X F) ?_))))));rw[l];refine yab (a:=some dx) (yaa (yab (yaa ?_)));refine wpAny_nsSet1 (s:={s with toks:=s.toks+1}) I.ns λh' i e=>?_;obtain⟨P,H,L,j,QU,m⟩:=i.count (PySem.Within.cons name v hw);refine yaa (wpAny_lookBehind j (by rw[QU];exact pastItsLine_dict (zcH m (by rw[zbu];lia))) ?_);exact yab (h _ ⟨(e.2 _ (Ne.symm I.ne)).trans I.obj,i,I.ne⟩ e)
theorem D6{R:Result->yai->Prop}{vs:List yaj}(X:K.In s.heap)(a:PySem.W.makesIn K C=true)(e:zci K (.ref C) "__init__"=some (some (.ref f)))(i:PySem.W.typeIn K (.ref f)=some (.type "function"))(h:codeAny (model prog w) (A.under (.builtin "type.__call__" ⟨.ref C::vs,kw⟩)) (.call (.ref f) ⟨.ref (s.heap.objs.size+1)::vs,kw⟩) (PySem.W.InitBack (s.heap.objs.size+1) R) {s with heap:=(s.heap.push zbq).push (zcb C s.heap.objs.size)}):
  codeAny (model prog w) A (.call (.ref C) ⟨vs,kw⟩) R s:=by
 obtain⟨j,g,d,t,os⟩:=s;exact PySem.W.make_core (PySem.W.makes_of X a) (PySem.W.looks_findIn X e) (λself=>PySem.W.bind_fn X self i) (.inl rfl) h
end
noncomputable def fN(f:Str)(v:V):List (Str×V)->List (Str×V)
 |[]=>[(f,v)]
 |(g,x)::r=>if g=f then(g,v)::r else(g,x)::fN f v r
theorem ig(f g:Str)(v:V):∀fs:List (Str×V),(fN f v fs).lookup g=if g=f then some v else fs.lookup g
 |[]=>by
  show zcQ g [(f,v)]=_;by_cases h:g=f
  ·have a:(g==f)=true:=beq_iff_eq.mpr h;simp only[zcQ,a,yIp h]
  ·have a:(g==f)=false:=beq_eq_false_iff_ne.mpr h;simp only[zcQ,a,yIn h]
 |(k,x)::r=>by
  have j:=ig f g v r;rw[show fN f v ((k,x)::r)=(if k=f then(k,v)::r else(k,x)::fN f v r) from rfl];by_cases i:k=f
  ·rw[yIp i];by_cases h:g=k
   ·have a:(g==k)=true:=beq_iff_eq.mpr h;simp only[zcQ,a,yIp (h.trans i)]
   ·have a:(g==k)=false:=beq_eq_false_iff_ne.mpr h;simp only[zcQ,a,yIn (λe:g=f=>h (e.trans i.symm))]
  ·rw[yIn i];by_cases h:g=k
   ·have a:(g==k)=true:=beq_iff_eq.mpr h;simp only[zcQ,a,yIn (λe:g=f=>i (h.symm.trans e))]
   ·have a:(g==k)=false:=beq_eq_false_iff_ne.mpr h;simp only[zcQ,a];exact j
theorem fU(f:Str)(v:V):∀fs:List (Str×V),f∈(fN f v fs).map (·.1)/\∀g,g∈fs.map (·.1)->g∈(fN f v fs).map (·.1)
 |[]=>⟨by simp[fN],λg h=>by simp at h⟩
 |(k,x)::r=>by
  obtain⟨j,i⟩:=fU f v r;rw[show fN f v ((k,x)::r)=(if k=f then(k,v)::r else(k,x)::fN f v r) from rfl];by_cases a:k=f
  ·rw[yIp a];subst a;exact⟨by simp,λg h=>by simpa using h⟩
  ·rw[yIn a];refine⟨?_,λg h=>?_⟩
   ·rw[zco];exact zaA _ j
   ·rw[zco] at h⊢;rcases zcn.mp h with e|e
    ·exact zcn.mpr (.inl e)
    ·exact zaA _ (i g e)
theorem lK(f:Str)(v:V):∀fs:List (Str×V),(fN f v fs).length<=fs.length+1
 |[]=>by simp[fN]
 |(k,x)::r=>by
  have e:=lK f v r;rw[show fN f v ((k,x)::r)=(if k=f then(k,v)::r else(k,x)::fN f v r) from rfl];by_cases a:k=f
  ·rw[yIp a,zbu,zbu];simp
  ·rw[yIn a,zbu,zbu];lia
theorem fj.some_of{o:Option yaj}(r:fj (some v) o):∃u,o=some u/\RelV v u:=by
 cases o with
 |none=>exact(show False from r).elim
 |some u=>exact⟨u,rfl,r⟩
theorem fj.none_of{o:Option yaj}(r:fj none o):o=none:=by
 cases o with
 |none=>rfl
 |some u=>exact(show False from r).elim
theorem qI(r:RelV v u):PySem.W.handedIn u=true:=by
 cases v with
 |aY=>cases(show u=Value.none from r);rfl
 |bl b=>cases(show u=Value.bool b from r);rfl
 |int i=>obtain⟨t,e⟩:=(show∃t,u=Value.int i t from r);cases e;rfl
 |str x=>obtain⟨t,e⟩:=(show∃t,u=Value.str x t from r);cases e;rfl
 |wD b=>obtain⟨t,e⟩:=(show∃t,u=Value.bytes b t from r);cases e;rfl
 |MC b=>obtain⟨t,e⟩:=(show∃t,u=Value.float b t from r);cases e;rfl
 |ref a=>cases(show u=Value.ref a from r);rfl
 |ty n=>cases(show u=Value.type n from r);rfl
section
variable {w:yal}{h:Heap}{fs fs':List (Str×V)}
theorem mP(hok:gg P w H h)(e:H a=some (.ins C dx fs)):∃mA,yv h a dx C mA/\(∀f,fj (fs.lookup f) (mA f))/\PySem.Within mA (fs.map (·.1))/\fs.length<=1000/\H dx=some (.own a):=by
 obtain⟨d,z,ne,i,mA,n,r,q⟩:=(show aW P w H h a (.ins C dx fs) from hok a _ e)
 exact⟨mA,⟨i,n,ne⟩,r,q,z,d⟩
end
structure wz(K:yaM)(C:Addr):Prop where
 pg:zbJ K C Str.empty=true
 hd:zbp K C=true
 po:PySem.W.plainOver K C=true
 sa:zci K (.ref C) "__setattr__"=some (some (.builtin "object.__setattr__"))
theorem wz.get(c:wz K C)(f:Str):zbJ K C f=true:=c.pg
def fh(K:yaM)(C:Addr)(f:Str):Prop:=zci K (.ref C) f=some none
theorem fh.Oh{f:Str}(n:fh K C f):PySem.W.takerIn K C f=some none:=by
 unfold PySem.W.takerIn;rw[show zci K (.ref C) f=some none from n];rfl
structure Meth(K:yaM)(C:Addr)(m:Str)(f:Addr):Prop where
 at_:zci K (.ref C) m=some (some (.ref f))
 fn:zcM K (.ref f)=true
 kp:zcj K (.ref f)=true
section
variable {σ:St}{fs:List (Str×V)}{f:Str}
theorem xW(I:Inv X pins σ H s)(e:H a=some (.ins C dx fs))(c:wz X.K C)(n:fh X.K C f)(l:fs.lookup f=some v)(h:∀u s',Inv X pins σ H s'->RelV v u->Q u s'):yas (model X.prog X.w) A (getAttr (.ref a) f b) Q E s:=by
 obtain⟨mA,O,r,_,_,_⟩:=mP I.hok e;obtain⟨u,i,ru⟩:=fj.some_of (v:=v) (o:=mA f) (by rw[<-l];exact r f);exact get_map I.fE O (c.get f) c.hd n i (qI ru) (h u _ (I.tok _) ru)
theorem oX{m:Str}{g:Addr}{pl:Sem Bool}{Q:yaj×List yaj->yai->Prop}(I:Inv X pins σ H s)(e:H a=some (.ins C dx fs))(c:wz X.K C)(k:Meth X.K C m g)(l:fs.lookup m=none)(h:Q (.ref g,[.ref a]) s):yas (model X.prog X.w) A (yaF (.ref a) m pl) Q E s:=by
 obtain⟨mA,O,r,_,_,_⟩:=mP I.hok e;have i:mA m=none:=fj.none_of (by rw[<-l];exact r m);exact Et I.fE O (c.get m) k.at_ k.fn i h
theorem wV{y:V}{Q:Unit->yai->Prop}(I:Inv X pins σ H s)(e:H a=some (.ins C dx fs))(c:wz X.K C)(n:fh X.K C f)(U:fs.length<1000)(m:RelV y u)(h:∀s',Inv X pins σ (upd H a (.ins C dx (fN f y fs))) s'->Q () s'):yas (model X.prog X.w) A (setAttr (.ref a) f u) Q E s:=by
 obtain⟨mA,O,r,j,_,l⟩:=mP I.hok e;have hz:(fs.map (·.1)).length<=yah:=by rw[zbN,yag];lia
 refine Gu I.fE O c.sa c.po n.Oh c.hd j hz λP i sb=>h _ ?_;have hd:∃o,P.get? dx=some o:=by obtain⟨o,_,_,S,_⟩:=i.ns;exact⟨o,S⟩
 refine I.write (x:=a) (e:=dx) (by rw[e];exact True.intro) (.inr l) (λb q L z=>(sb.2 b L).trans z) hd ?_;refine⟨by rw[au O.ne];exact l,?_,O.ne,i.obj,_,i.ns,λg=>?_,λg F=>?_⟩
 ·have:=lK f y fs;lia
 ·show fj ((fN f y fs).lookup g) (if g=f then some u else mA g);rw[ig];by_cases q:g=f
  ·rw[yIp q,yIp q];exact m
  ·rw[yIn q,yIn q];exact r g
 ·by_cases q:g=f
  ·rw[q];exact(fU f y fs).1
  ·refine(fU f y fs).2 g (j g λz=>F ?_);show(if g=f then some u else mA g)=none;rw[yIn q];exact z
theorem Inv.made(I:Inv X pins σ H s):Inv X pins σ (upd (upd H s.heap.objs.size (.own (s.heap.objs.size+1))) (s.heap.objs.size+1) (.ins C s.heap.objs.size []))
  {s with heap:=(s.heap.push zbq).push (zcb C s.heap.objs.size)}:=by
 have i:(s.heap.push zbq).get? s.heap.objs.size=some zbq:=zaM s.heap rfl;have n:((s.heap.push zbq).push (zcb C s.heap.objs.size)).get? (s.heap.objs.size+1)=some (zcb C s.heap.objs.size):=by
  have:=zaM (s.heap.push zbq) (o:=zcb C s.heap.objs.size) rfl
  rwa [zcm] at this
 have m:(s.heap.push zbq).Ns s.heap.objs.size (λ_=>none):=⟨zbq,#[],_,i,rfl,(λe l=>absurd l (by simp)),λ_=>rfl⟩
 have z:=I.laid (a:=s.heap.objs.size) (o:=.own (s.heap.objs.size+1)) (h':=s.heap.push zbq) (t':=s.toks) (λb u q=>zar _ q) (zcS _) ⟨_,i⟩;refine z.laid (a:=s.heap.objs.size+1) (o:=.ins C s.heap.objs.size []) (t':=s.toks) (λb u q=>zar _ q) (Nat.le_of_eq (zcm _ _)) ?_;have ne:s.heap.objs.size≠s.heap.objs.size+1:=zcG (Nat.lt_succ_self _);refine⟨by rw[au ne,aq],zcT _,ne,n,λ_=>none,(Heap.Ns1.of_empty m).at λo q=>zar _ q,λ_=>True.intro,λy j=>absurd rfl j⟩
theorem Ak{w:yal}{f:Str}{s:yai}(i:attributeBase e f env (eval e env)=eval e env)(h:yas (model prog w) A (eval e env) (λo a=>yas (model prog w) A (getAttr o f true) Q E a) E s):yas (model prog w) A (eval (.Attribute e f pos) env) Q E s:=
 Attribute_any_ h (by rw[arm_eval_Attribute,i])
end
def Rh(K:yaM)(j:TE)(f:Str):TE:=λi H Q=>j i H λx e=>∃a C l fs v,x=.ref a/\e a=some (.ins C l fs)/\wz K C/\fh K C f/\fs.lookup f=some v/\Q v e
def Rx(K:yaM)(m l:TE)(f:Str):TS:=λD e H=>l e H λy n=>m e n λx j=>∃a C i fs,x=.ref a/\j a=some (.ins C i fs)/\wz K C/\fh K C f/\fs.length<1000/\
 D.nx e (upd j a (.ins C i (fN f y fs)))
section
variable {o:Expr}{f:Str}{tpos:Pos}{ta tv:TE}
theorem b7(z:PE X e ta)(E:attributeBase e f X.env (eval e X.env)=eval e X.env):PE X (.Attribute e f pos) (Rh X.K ta f):=by
 intro i s m H Q I h;refine Ak E (bS (z i s m H _ I h) λu W j=>?_);obtain⟨x,P,O,y,a,C,Y,fs,v,ex,F,c,n,l,q⟩:=j;subst ex;obtain rfl:u=Value.ref a:=y;exact xW O F c n l λS U L ru=>⟨v,P,L,ru,q⟩
theorem nX(P:PE X o ta)(L:PE X value tv)(O:yau value (some (.Attribute o f pos')) pos.line X.env=pure false):PS X (.Assign [.Attribute o f pos'] value pos) (Rx X.K ta tv f):=by
 intro e s i H D I h;refine plainObj_wpAny_Assign_Attribute (bS (L e s i H _ I h) λu z m=>?_) O;obtain⟨y,Y,W,E,q⟩:=m;refine bS (P e z i Y _ W q) λov s2 j=>?_;obtain⟨x,H2,U,F,a,C,dx,fs,ex,Q,c,n,l,q2⟩:=j;subst ex;obtain rfl:ov=Value.ref a:=F;exact wV U Q c n l E λZ S=>⟨i,_,S,q2⟩
end
section
variable {σ:St}{c:yaj}
inductive kH(K:yaM)(H:Hp):V->yaj->Prop where
 |aY:kH K H .aY (.type "NoneType")
 |bl (x:Bool):kH K H (.bl x) (.type "bool")
 |int (i:Int):kH K H (.int i) (.type "int")
 |str (x:Str):kH K H (.str x) (.type "str")
 |MC (x:UInt64):kH K H (.MC x) (.type "float")
 |lst {a:Addr}{xs:List V} (e:H a=some (.lst xs)):kH K H (.ref a) (.type "list")
 |zX {a:Addr}{o:Obj}{xs:List V} (e:H a=some (.zX o (.lst xs))):kH K H (.ref a) (.type "list")
 |tup {a:Addr}{xs:List V} (e:H a=some (.tup xs)):kH K H (.ref a) (.type "tuple")
 |dK {a:Addr}{kvs:List (Key×V)} (e:H a=some (.dK kvs)):kH K H (.ref a) (.type "dict")
 |dT {a:Addr}{kvs:List (List Key×V)} (e:H a=some (.dT kvs)):kH K H (.ref a) (.type "dict")
 |ins {a C dx:Addr}{fs:List (Str×V)} (e:H a=some (.ins C dx fs)) (cl:wz K C) (ha:zci K (.ref C) "__class__"=some (some (.builtin "object.__class__")))
   (hn:zbr K (.builtin "object.__class__") "__get__"=some (some (.builtin "getset_descriptor.__get__"))) (htk:PySem.W.takesIn K (.builtin "object.__class__")=some true)
   (hm:PySem.W.mroIn K C (.type "object")=some true):kH K H (.ref a) (.ref C)
theorem Bu{x:V}{t:yaj}(I:Inv X pins σ H s)(j:RelV x u)(ty:kH X.K H x t)(e:zck X.K t c=some b)(h:∀tk,Q (.bool b) {s with toks:=tk}):
  yas (model X.prog X.w) A (call (.builtin "isinstance") [u,c]) Q E s:=by
 cases ty with
 |aY=>cases(show u=Value.none from j);exact zcc PySem.W.kitx_none I.fE True.intro e (λz=>nomatch z) h
 |bl y=>cases(show u=Value.bool y from j);exact zcc PySem.W.kitx_bool I.fE True.intro e (λz=>nomatch z) h
 |int i=>obtain⟨t,q⟩:=(show∃t,u=Value.int i t from j);cases q;exact zcc PySem.W.kitx_int I.fE True.intro e (λz=>nomatch z) h
 |str y=>obtain⟨t,q⟩:=(show∃t,u=Value.str y t from j);cases q;exact zcc PySem.W.kitx_str I.fE True.intro e (λz=>nomatch z) h
 |MC y=>obtain⟨t,q⟩:=(show∃t,u=Value.float y t from j);cases q;exact zcc PySem.W.kitx_float I.fE True.intro e (λz=>nomatch z) h
 |@lst a xs ea=>
  cases(show u=Value.ref a from j);obtain⟨_,_,n,_,h1⟩:=(show aW X.prog X.w H s.heap a (.lst xs) from I.hok a _ ea)
  exact zcc PySem.W.kitx_list I.fE ⟨_,h1,rfl⟩ e (λz=>nomatch z) h
 |@zX a ob xs ea=>
  cases(show u=Value.ref a from j);obtain⟨_,_,_,n,_,h1⟩:=(show aW X.prog X.w H s.heap a (.zX ob (.lst xs)) from I.hok a _ ea)
  exact zcc PySem.W.kitx_list I.fE ⟨_,h1,rfl⟩ e (λz=>nomatch z) h
 |@tup a xs ea=>
  cases(show u=Value.ref a from j);obtain⟨_,_,_,p⟩:=(show aW X.prog X.w H s.heap a (.tup xs) from I.hok a _ ea)
  obtain⟨o,h1,h2,_⟩:=p;exact zcc PySem.W.kitx_tuple I.fE ⟨o,h1,h2⟩ e (λz=>nomatch z) h
 |@dK a kvs ea=>
  cases(show u=Value.ref a from j);obtain⟨_,_,F,_,p⟩:=(show aW X.prog X.w H s.heap a (.dK kvs) from I.hok a _ ea)
  obtain⟨o,l,m,h1,h2,_⟩:=p;exact zcc PySem.W.kitx_dict I.fE ⟨o,h1,h2.1⟩ e (λz=>nomatch z) h
 |@dT a kvs ea=>
  cases(show u=Value.ref a from j);obtain⟨_,_,xs,_,o,l,m,h1,h2,_⟩:=(show aW X.prog X.w H s.heap a (.dT kvs) from I.hok a _ ea)
  exact zcc PySem.W.kitx_dict I.fE ⟨o,h1,h2.1⟩ e (λz=>nomatch z) h
 |@ins a C dx fs ea cl ha hn htk hm=>
  cases(show u=Value.ref a from j);obtain⟨mA,O,_⟩:=mP I.hok ea;obtain⟨L,J,_⟩:=O.look;exact zcc (PySem.W.kitx_own (cl.get _) cl.hd ha hn htk hm) I.fE J e (λz=>nomatch z) h
end
structure aR(k:Nat)(A:yam):Prop where
 hd:A.handled=none
 dp:A.depth+3*k+5<yaA
 un:A.units+16*k+200<cLine
 gd:A.guards=some []
theorem aR.mono{k:Nat}(r:aR k A)(h:j<=k):aR j A:=⟨r.hd,by have:=r.dp;lia,by have:=r.un;lia,r.gd⟩
theorem aR.deeper{k:Nat}(r:aR (k+1) A)(env:Env):aR k (A.deeper env):=
 ⟨r.hd,by have:=r.dp;show A.depth+1+3*k+5<_;lia,by have:=r.un;show A.units+3+16*k+200<_;lia,r.gd⟩
theorem xN:(A.under (.builtin "type.__call__" ⟨.ref C::us,kw⟩)).depth=A.depth+1:=by
 first|rfl|simp[Around.under,Code.weight,Code.isCreation,Code.isGuard,Code.isCaller,Code.frames,Code.isFrame,guardIds]
theorem xM:(A.under (.builtin "type.__call__" ⟨.ref C::us,kw⟩)).units=A.units+1:=by
 first|rfl|simp[Around.under,Code.cUnits,Code.frames,Code.isFrame]
theorem aR.make{k:Nat}(r:aR (k+1) A)(C:Addr)(us:List yaj)(a:List (Str×yaj)):aR k (A.under (.builtin "type.__call__" ⟨.ref C::us,a⟩)):=
 ⟨r.hd,by have:=r.dp;rw[xN];lia,by have:=r.un;rw[xM];lia,r.gd⟩
theorem aR.depth{k:Nat}(r:aR k A):A.depth<yaA:=by have:=r.dp;lia
theorem aR.units{k:Nat}(r:aR k A):A.units+64<cLine:=by have:=r.un;lia
def wK:TA:=λ_ H Q=>Q [] H
def nj(e:TE)(tr:TA):TA:=λa H Q=>e a H λx j=>tr a j λxs i=>Q (x::xs) i
section
variable {te:TE}{t:TA}
theorem ai:PA X [] wK:=λ_ _ _ _ H Q I h=>zbt ⟨[],H,I,.nil,h⟩
theorem Hj(C:PE X e te)(z:PA X es t)(y:autoParam (yap (e::es) X.env=(false,eval e X.env)::yap es X.env) r0):PA X (e::es) (nj te t):=by
 intro j a s l H Q I h;rw[y];show yas _ _ (spliced ((false,eval e X.env)::yav j (yap es X.env))) _ _ s;refine zbb (bS (C a s l H _ I h) λu m i=>?_);obtain⟨x,O,F,o,q⟩:=i;refine bS (z j a m l O _ F q) λP S i=>?_;obtain⟨xs,L,E,n,q2⟩:=i;exact⟨x::xs,L,E,.cons o n,q2⟩
def KY(t:TA):TE:=λe H Q=>t e H λxs a=>xs.length<=yah/\∀p,a p=none->Q (.ref p) (upd a p (.tup xs))
def K3(t:TA):TE:=λe H Q=>t e H λxs a=>xs.length<=yah/\∀p,a p=none->Q (.ref p) (upd a p (.lst xs))
theorem br{x1}(h:PA X es t):PE X (.Tuple es x1 pos) (KY t):=by
 intro a s n H Q I y;refine wpAny_Tuple_spliced (bS (h pos a s n H _ I y) λo i j=>?_);obtain⟨xs,m,l,r,z,q⟩:=j;refine⟨by rw[<-r.length];exact z,?_⟩;have C:m i.heap.objs.size=none:=l.hok.fresh (zcS _);refine⟨.ref i.heap.objs.size,upd m i.heap.objs.size (.tup xs),l.laid (t':=i.toks) (λb u e=>zar _ e) (zcS _) ?_,rfl,q _ C⟩;exact⟨z,o,r,⟨_,zaM _ rfl,rfl,_,rfl⟩⟩
theorem aQ(h:PA X es t):PE X (.List es pos) (K3 t):=by
 intro a s n H Q I y;refine wpAny_List_spliced (bS (h pos a s n H _ I y) λo i j=>?_);obtain⟨xs,m,l,r,z,q⟩:=j;refine⟨by rw[<-r.length];exact z,?_⟩;have C:m i.heap.objs.size=none:=l.hok.fresh (zcS _);refine⟨.ref i.heap.objs.size,upd m i.heap.objs.size (.lst xs),l.laid (t':=i.toks) (λb u e=>zar _ e) (zcS _) ?_,rfl,q _ C⟩;exact⟨z,o,0,r,zaM _ rfl⟩
end
abbrev Sp:=List V->Hp->VK->XK->Prop
abbrev wA:=List Env->Hp->yai->XK->yaj->yai->Prop
structure tG(P:yak)(w:yal)(K:yaM)(mg:Str->Option yaj)(base:Heap)(A:yam)(outer:List Env)(s:yai)(H:Hp):Prop where
 frames:A.frames=some outer
 mod:Mod K mg base
 bs:∀b o,base.get? b=some o->s.heap.get? b=some o/\H b=none
 Fb:base.objs.size<=s.heap.objs.size
 j8:s.heap.FunFrames base outer
 Ia:∀b∈frs outer,H b=none
 hok:gg P w H s.heap
 bare:AllBare s.gens
def CE(outer:List Env)(P:yak)(w:yal)(H:Hp)(s:yai)(Q:VK)(u:yaj)(s':yai):Prop:=
 ∃v a,s'.os=s.os/\AllBare s'.gens/\Un (frs outer) [] H a s.heap s'.heap/\gg P w a s'.heap/\RelV v u/\Q v a
def CR(CX:wA)(outer:List Env)(P:yak)(w:yal)(H:Hp)(s:yai)(Q:VK)(E:XK)(r:Result)(s':yai):Prop:=
 match r with
 |.ok (.ret u)=>CE outer P w H s Q u s'
 |.ok _=>False
 |.error e=>CX outer H s E e s'
structure bL(P:yak)(w:yal)(K:yaM)(mg:Str->Option yaj)(base:Heap)(CX:wA)(k:Nat)(f:Addr)(fd:yaq)(ps:List Str)(sp:Sp):Prop where
 len:∀vs H Q E,sp vs H Q E->vs.length=ps.length
 run:∀(A:yam)(outer:List Env)(s:yai)(H:Hp)(args:Args)(us:List yaj)(vs:List V)(Q:VK)(E:XK),aR k A->tG P w K mg base A outer s H->yaD s fd args (ps.zip us)->Vals vs us->sp vs H Q E->
  codeAny (model P w) A (.call (.ref f) args) (CR CX outer P w H s Q E) s
theorem bL.mono{w:yal}{CX:wA}{k:Nat}{sp:Sp}(F:bL P w K mg base CX j f fd ps sp)(h:j<=k):
  bL P w K mg base CX k f fd ps sp:=⟨F.len,λA outer s H a i e Q E l=>F.run A outer s H a i e Q E (l.mono h)⟩
theorem bL.imp{w:yal}{CX:wA}{k:Nat}{sp a:Sp}(F:bL P w K mg base CX k f fd ps sp)(h:∀vs H Q E,a vs H Q E->sp vs H Q E):bL P w K mg base CX k f fd ps a:=
 ⟨λvs H Q E q=>F.len vs H Q E (h _ _ _ _ q),λA outer s H e i vs Q E m n o j l=>F.run A outer s H e i vs Q E m n o j (h _ _ _ _ l)⟩
theorem tG.make{w:yal}(e:tG P w K mg base A outer s H)(C:Addr)(us:List yaj)(a:List (Str×yaj)):
  tG P w K mg base (A.under (.builtin "type.__call__" ⟨.ref C::us,a⟩)) outer s H:=⟨by first|exact e.frames|(simpa[Around.under,Code.envs,Code.isFrame,pushEnvs] using e.frames),e.mod,e.bs,e.Fb,e.j8,e.Ia,e.hok,e.bare⟩
section
variable {σ:St}{s':yai}
theorem Inv.EJ(I:Inv X pins σ H s):tG X.prog X.w X.K X.mg X.base X.A X.stack s H:=
 ⟨I.ok.frames,I.ok.mod,I.bs,zcH I.ok.Fb I.sz,I.stack,I.rB,I.hok,I.bare⟩
theorem Inv.after{Q:VK}(I:Inv X pins σ H s)(h:CE X.stack X.prog X.w H s Q u s'):EP X pins σ Q u s':=by
 obtain⟨v,i,os,bare,un,hok,r,q⟩:=h;obtain⟨e,g,d,t,a⟩:=s';obtain rfl:a=s.os:=os;exact⟨v,i,I.call (h':=e) (g':=g) (d':=d) (t':=t) (ch:=[]) un hok bare (λb z=>absurd z (by simp)),r,q⟩
end
def yN(sp:Sp)(dvs:List V)(E:XK)(t:TA):TE:=λa H Q=>t a H λe i=>sp (e++dvs) i Q E
def Cu(C:Addr)(m:Str)(sp:Sp)(dvs:List V)(E:XK)(l:TE)(t:TA):TE:=λe H Q=>l e H λx i=>∃a n fs,x=.ref a/\i a=some (.ins C n fs)/\fs.lookup m=none/\
 t e i λj o=>sp (x::(j++dvs)) o Q E
def Ol(C:Addr)(sp:Sp)(dvs:List V)(E:XK)(t:TA):TE:=λi H Q=>t i H λj e=>∀x a,e x=none->e a=none->a≠x->
 sp (.ref x::(j++dvs)) (upd (upd e a (.own x)) x (.ins C a [])) (λv l=>v=.aY/\Q (.ref x) l) E
def Binds(K:yaM)(fd:yaq)(ps:List Str)(ds:List yaj):Prop:=
 ∀(s:yai)(a:List yaj),K.In s.heap->(a++ds).length=ps.length->yaD s fd ⟨a,[]⟩ (ps.zip (a++ds))
theorem Binds.all(h:∀us:List yaj,us.length=ps.length->yaC fd ⟨us,[]⟩=pure (ps.zip us)):Binds K fd ps []:=λs us _ a=>by
 rw[zbO] at a⊢;exact .of_eq (h us a)
def Passes(CX:wA)(X:Cx)(E:XK):Prop:=∀(a:List (Addr×Obj))(j:St)(H:Hp)(s:yai)(e:yaj)(i:yai),Inv X a j H s->CX X.stack H s E e i->X.xe e i
section
variable {CX:wA}{k:Nat}{sp:Sp}{ds:List yaj}{E:XK}{m:Str}{o:Expr}{ta:TE}{t:TA}
theorem xq{i:St}{Q:VK}(F:bL X.prog X.w X.K X.mg X.base CX k f fd ps sp)(q:aR k X.A)(z:Binds X.K fd ps ds)(hd:Vals dvs ds)(n:Passes CX X E)(I:Inv X pins i H s)(r:Vals vs us)(h:sp (vs++dvs) H Q E):yas (model X.prog X.w) X.A (call (.ref f) us) (EP X pins i Q) X.xe s:=by
 have j:Vals (vs++dvs) (us++ds):=r.append hd;have y:(us++ds).length=ps.length:=by rw[<-j.length];exact F.len _ _ _ _ h
 refine yaL (yay (F.run X.A X.stack s H ⟨us,[]⟩ (us++ds) (vs++dvs) Q E q I.EJ (z s us I.fE y) j h) λr l a=>?_);cases r with
 |error e=>exact n pins i H s e l I a
 |ok fl=>
  cases fl with
  |ret u=>exact I.after a
  |next=>exact False.elim a
  |brk=>exact False.elim a
  |cont=>exact False.elim a
theorem Hh(F:bL X.prog X.w X.K X.mg X.base CX k f fd ps sp)(z:aR k X.A)(O:Gl X x)(C:X.mg x=some (.ref f))(L:zcj X.K (.ref f)=true)(S:Binds X.K fd ps ds)(hd:Vals dvs ds)(y:Passes CX X E)(U:PA X (e::es) t)(l:autoParam ((x==("__debug__":Str))=false) r1)(P:autoParam (yap (e::es) X.env=(false,eval e X.env)::yap es X.env) r0)(j:autoParam ((yav pos (yap es X.env)).any (·.1)=false) r0):
  PE X (.Call (.Name x p) (e::es) [] pos) (yN sp dvs E t):=by
 intro a s u H Q I h;refine wpAny_Call_Name_kw (fB I O C ?_ l);refine zaZ (h₀:=X.base) I.ok.mod.JU L (bS (U pos a s u H _ I h) λY Z i=>?_) P j;obtain⟨W,H1,n,r,q⟩:=i;refine⟨n.fE,?_⟩;exact xq F z S hd y n r q
theorem cj{pl:Sem Bool}(he:PE X o ta)(c:wz X.K C)(L:Meth X.K C m f)(F:bL X.prog X.w X.K X.mg X.base CX k f fd ps sp)(Z:aR k X.A)(hb:Binds X.K fd ps ds)(hd:Vals dvs ds)(W:Passes CX X E)(ha:PA X (e::es) t)(n:autoParam (yap (e::es) X.env=(false,eval e X.env)::yap es X.env) r0)(y:autoParam ((yav pos (yap es X.env)).any (·.1)=false) r0)(Y:autoParam (eval (.Call (.Attribute o m apos) (e::es) [] pos) X.env=(do
   let ov <-eval o X.env
   standAt apos.atName
   let(f,first) <-holding [ov] (yaF ov m pl)
   yaB pos f first (yav pos (yap (e::es) X.env)) (yaH pos (yaG [] X.env)))) r0):
  PE X (.Call (.Attribute o m apos) (e::es) [] pos) (Cu C m sp dvs E ta t):=by
 intro i s z H Q I h;refine zay (pl:=pl) (bS (he i s z H _ I h) λu S j=>?_) Y;obtain⟨x,H1,P,U,a,dx,fs,ex,ea,l,q⟩:=j;subst ex;obtain rfl:u=Value.ref a:=U;refine oX P ea c L l ?_;refine zaZ (first:=[.ref a]) (h₀:=X.base) I.ok.mod.JU L.kp (bS (ha pos i S z H1 _ P q) λus s2 j=>?_) n y;obtain⟨vs,H2,O,r,q2⟩:=j;refine⟨O.fE,?_⟩;exact xq (us:=.ref a::us) (vs:=.ref a::vs) F Z hb hd W O (.cons rfl r) q2
theorem jS{pl:Sem Bool}(S:PE X o ta)(c:wz X.K C)(n:Meth X.K C m f)(F:bL X.prog X.w X.K X.mg X.base CX k f fd ps sp)(P:aR k X.A)(U:Binds X.K fd ps ds)(hd:Vals dvs ds)(L:Passes CX X E)(O:autoParam (eval (.Call (.Attribute o m apos) [] [] pos) X.env=(do
   let ov <-eval o X.env
   standAt apos.atName
   let(f,first) <-holding [ov] (yaF ov m pl)
   yaB pos f first (yav pos (yap [] X.env)) (yaH pos (yaG [] X.env)))) r0):
  PE X (.Call (.Attribute o m apos) [] [] pos) (Cu C m sp dvs E ta wK):=by
 intro e s y H Q I h;refine zay (pl:=pl) (bS (S e s y H _ I h) λu Z i=>?_) O;obtain⟨x,H1,j,z,a,dx,fs,ex,Y,l,q⟩:=i;subst ex;obtain rfl:u=Value.ref a:=z;refine oX j Y c n l ?_;exact PySem.W.callWith_K0 (first:=[.ref a]) j.fE n.kp (xq (us:=[.ref a]) (vs:=[.ref a]) F P U hd L j (.cons rfl .nil) q)
structure Mk(K:yaM)(C f:Addr):Prop where
 makes:PySem.W.makesIn K C=true
 init:zci K (.ref C) "__init__"=some (some (.ref f))
 fn:zcM K (.ref f)=true
 kp:zcj K (.ref C)=true
theorem Dh{l:St}{Q:VK}(M:Mk X.K C f)(F:bL X.prog X.w X.K X.mg X.base CX k f fd ps sp)(O:aR (k+1) X.A)(S:Binds X.K fd ps ds)(hd:Vals dvs ds)(L:Passes CX X E)(I:Inv X pins l H s)(r:Vals vs us)(h:∀x i,H x=none->H i=none->i≠x->sp (.ref x::(vs++dvs)) (upd (upd H i (.own x)) x (.ins C i [])) (λv Y=>v=.aY/\Q (.ref x) Y) E):
  yas (model X.prog X.w) X.A (call (.ref C) us) (EP X pins l Q) X.xe s:=by
 have q:=h (s.heap.objs.size+1) s.heap.objs.size (I.hok.fresh (zcU _)) (I.hok.fresh (zcS _)) (zcG (Nat.lt_succ_self _));have j:=Inv.made (C:=C) I;have n:Vals (V.ref (s.heap.objs.size+1)::(vs++dvs)) (Value.ref (s.heap.objs.size+1)::(us++ds)):=.cons rfl (r.append hd);have P:(Value.ref (s.heap.objs.size+1)::us++ds).length=ps.length:=by
  have e:=n.length;rw[F.len _ _ _ _ q] at e;exact e.symm
 refine yaL (D6 (f:=f) I.fE M.makes M.init (beq_iff_eq.mp M.fn) (yay (F.run _ X.stack _ _ ⟨Value.ref (s.heap.objs.size+1)::us,[]⟩ (Value.ref (s.heap.objs.size+1)::(us++ds)) _ _ E (O.make C us []) (j.EJ.make C us []) (S _ (Value.ref (s.heap.objs.size+1)::us) j.fE P) n q) λr y a=>?_));cases r with
 |error e=>exact L pins l _ _ e y j a
 |ok fl=>
  cases fl with
  |ret u=>
   obtain⟨v,Z,W,z,U,q3⟩:=j.after a;subst U;exact⟨z,⟨V.ref (s.heap.objs.size+1),Z,W,rfl,q3⟩⟩
  |next=>exact False.elim a
  |brk=>exact False.elim a
  |cont=>exact False.elim a
theorem jT(M:Mk X.K C f)(F:bL X.prog X.w X.K X.mg X.base CX k f fd ps sp)(j:aR (k+1) X.A)(n:Gl X x)(l:X.mg x=some (.ref C))(q:Binds X.K fd ps ds)(hd:Vals dvs ds)(i:Passes CX X E)(a:autoParam ((x==("__debug__":Str))=false) r1):PE X (.Call (.Name x p) [] [] pos) (Ol C sp dvs E wK):=by
 intro e s u H Q I h;refine wpAny_Call_Name_kw (fB I n l ?_ a);exact PySem.W.callWith_K0 I.fE M.kp (Dh (us:=[]) M F j q hd i I .nil h)
end
structure aE(N P:List Str)(sc:Scope):Prop where
 kind:sc.kind=.function
 co:sc.isCoroutine=false
 gen:sc.isGenerator=false
 nd:N.Nodup
 pre:N.take P.length=P
 par:∀x∈P,sc.names.lookup x=some .local∨sc.names.lookup x=some .cell
 Mf:∀y∈sc.names,y.2≠ .free
theorem qR{a:Str->Option NameKind}{x:Str}:∀{binds:List (Str×yaj)}{m:Str->Option yaj},(∀v,(x,v) ∉ binds)->bindL a binds m x=m x
 |[],_,_=>rfl
 |(n,v)::r,m,h=>by
  unfold bindL;rw[qR λw hw=>h w (zaA _ hw)];split
  ·have:x≠n:=by rintro rfl;exact h v zaN
   simp[this]
  ·rfl
theorem qU{a:Str->Option NameKind}{x:Str}:∀{binds:List (Str×yaj)}{m:Str->Option yaj},(∀v,(x,v) ∉ binds)->bindC a binds m x=m x
 |[],_,_=>rfl
 |(n,v)::r,m,h=>by
  unfold bindC;rw[qU λw hw=>h w (zaA _ hw)];split
  ·rfl
  ·have:x≠n:=by rintro rfl;exact h v zaN
   simp[this]
theorem qS{a:Str->Option NameKind}{x:Str}{v:yaj}:∀{P:List Str}{vs:List yaj}{i:Nat}{m:Str->Option yaj},P.Nodup->P[i]? =some x->vs[i]? =some v->a x=some .local->
  bindL a (P.zip vs) m x=some v
 |[],_,_,_,_,h,_,_=>by simp at h
 |_::_,[],_,_,_,_,h,_=>by simp at h
 |p::P,w::vs,0,m,nd,h1,h2,hk=>by
  simp at h1 h2;subst h1;subst h2;show bindL a ((p,w)::P.zip vs) m p=_;unfold bindL;rw[qR λv e=>(zbP.mp nd).1 (zbQ e).1,yIp hk];simp
 |p::P,w::vs,i+1,m,nd,h1,h2,hk=>by
  show bindL a ((p,w)::P.zip vs) m x=_;unfold bindL;exact qS (i:=i) (zbP.mp nd).2 (by simpa using h1) (by simpa using h2) hk
theorem qV{a:Str->Option NameKind}{x:Str}{v:yaj}:∀{P:List Str}{vs:List yaj}{i:Nat}{m:Str->Option yaj},P.Nodup->P[i]? =some x->vs[i]? =some v->a x≠some .local->
  bindC a (P.zip vs) m x=some v
 |[],_,_,_,_,h,_,_=>by simp at h
 |_::_,[],_,_,_,_,h,_=>by simp at h
 |p::P,w::vs,0,m,nd,h1,h2,hk=>by
  simp at h1 h2;subst h1;subst h2;show bindC a ((p,w)::P.zip vs) m p=_;unfold bindC;rw[qU λv e=>(zbP.mp nd).1 (zbQ e).1,yIn hk];simp
 |p::P,w::vs,i+1,m,nd,h1,h2,hk=>by
  show bindC a ((p,w)::P.zip vs) m x=_;unfold bindC;exact qV (i:=i) (zbP.mp nd).2 (by simpa using h1) (by simpa using h2) hk
noncomputable def start(N:List Str)(vs:List V):St:=vs.map some++zce (N.length - vs.length) none
noncomputable def d9(CX:wA)(P:yak)(w:yal)(K:yaM)(mg:Str->Option yaj)(base:Heap)(N:List Str)(a:Str)(scope:Scope)(f:Addr)(j:yaj)(A:yam)(outer:List Env)(s:yai)(H:Hp)(E:XK):Cx where
 prog:=P
 w:=w
 K:=K
 mg:=mg
 base:=base
 A:=A.deeper (envOfC a scope s.heap.objs.size f j)
 N:=N
 s₀:=s
 H₀:=H
 env:=envOfC a scope s.heap.objs.size f j
 outer:=outer
 stack:=envOfC a scope s.heap.objs.size f j::outer
 ex:=[]
 calm:=true
 fn:=λ_=>true
 pn:=[]
 xe:=λe l=>yas (model P w) (A.deeper (envOfC a scope s.heap.objs.size f j)) (leaving (envOfC a scope s.heap.objs.size f j) e) (λ_ i=>CX outer H s E e i) (λm i=>CX outer H s E m i) l
theorem vF{a:Scope}(h:a.names.lookup x=some .cell):∃c,(cellsFrom n a.names []).lookup x=some c:=by
 have q:=zaq a.names n [] (.inl h);exact Option.isSome_iff_exists.mp q
theorem qD{CX:wA}{w:yal}{s1:yai}{E:XK}(S:aE N ps scope)(hd:A.handled=none)(j:tG P w K mg base A outer s H)(W:vs.length=ps.length)(r:Vals vs us)(x:InCallC s s.heap.objs.size (bindL (envOfC qual scope s.heap.objs.size f cd).kindOf (ps.zip us) λ_=>none) (cellsFrom (s.heap.objs.size+1) scope.names []) (bindC (envOfC qual scope s.heap.objs.size f cd).kindOf (ps.zip us) λ_=>none) s1):
  Inv (d9 CX P w K mg base N qual scope f cd A outer s H E) [] (start N vs) H s1:=by
 have Q:ps.length<=N.length:=by have:=congrArg zcR S.pre;rw[zbv] at this;lia
 obtain⟨h1,tk,rfl,L⟩:=x.done;have l:∀b:Addr,b ∉ (d9 CX P w K mg base N qual scope f cd A outer s H E).ex:=λb z=>absurd (show b∈([]:List Addr) from z) (by simp);refine⟨⟨j.mod,S.kind,rfl,rfl,zcS _,λy z c h1 h2=>?_,λy m=>?_,λy c _ h=>?_,λ_=>hd,Around.frames_deeper j.frames,.inr ⟨rfl,rfl⟩,λb z=>absurd z (l b),j.bs,j.Fb,λb _ _=>l b,λb z=>absurd z (l b),j.j8,j.Ia⟩,rfl,j.bare,Un.kept L,⟨_,x.toInCall.ns,λi y v h1 h2 X=>?_⟩,λy c h=>⟨_,x.cell y c h⟩,j.hok.fresh (zcS _),λy c h=>?_,λp C=>absurd (show p∈([]:List (Addr×Obj)) from C) (by simp),j.hok.kept L,?_⟩
 ·exact name_of_addr x.apart (PySem.mem_of_lookup h1) (PySem.mem_of_lookup h2)
 ·have m:scope.names.lookup y=some .cell∨scope.names.lookup y=some .free:=m;rcases m with m|m
  ·exact vF m
  ·exact absurd rfl (S.Mf _ (PySem.mem_of_lookup m))
 ·exact Nat.le_of_lt (x.above y c (PySem.mem_of_lookup h))
 ·have F:i<vs.length:=by
   unfold start at h2;by_cases F:i<vs.length
   ·exact F
   ·rw[zab (by simpa using F)] at h2;rw[List.getElem?_replicate] at h2;split at h2<;>cases h2
  have U:vs[i]? =some v:=by
   unfold start at h2;rw[zaf (by simpa using F),zbe] at h2;cases e:vs[i]? with
   |none=>rw[e] at h2;cases h2
   |some a=>rw[e] at h2;cases h2;rfl
  obtain⟨u,I,O⟩:=r.get U;have C:ps[i]? =some y:=by
   rw[<-S.pre,List.getElem?_take_of_lt (by lia)];exact h1
  have o:ps.Nodup:=by rw[<-S.pre];exact S.nd.sublist (List.take_sublist _ _)
  refine⟨u,O,?_⟩;rcases S.par y (List.mem_of_getElem? C) with k|k
  ·exact .inl ⟨k,qS o C I k⟩
  ·obtain⟨c,e⟩:=vF (n:=s.heap.objs.size+1) k;refine .inr ⟨.inl k,c,e,?_⟩;have q:=x.cell y c e;rw[qV o C I (by show scope.names.lookup y≠_;rw[k];decide)] at q;exact q
 ·exact j.hok.fresh (Nat.le_of_lt (x.above y c (PySem.mem_of_lookup h)))
 ·unfold start;show _=N.length;rw[zaO,zbN,List.length_replicate];lia
theorem J1{CX:wA}{w:yal}{k:Nat}{name:Str}{i:Arguments}{dV kV L pm a ct:yaj}{an od:Option Addr}{sp:Sp}(lk:K.lookup f=some ⟨oc,od,.func (zcN name qual i body scope dV kV L pm an a ct),osl⟩)(Z:zcl K a qual=true)(S:aE N ps scope)(len:∀vs H Q E,sp vs H Q E->vs.length=ps.length)(m:∀(A:yam)(outer:List Env)(s:yai)(H:Hp)(vs:List V)(Q:VK)(E:XK),aR k (A.deeper (envOfC qual scope s.heap.objs.size f a))->sp vs H Q E->∃t,pQ (d9 CX P w K mg base N qual scope f a A outer s H E) body t/\t {nx:=λ_ H'=>Q .aY H',rt:=Q} (start N vs) H):
  bL P w K mg base CX (k+1) f (zcN name qual i body scope dV kV L pm an a ct) ps sp:=by
 refine⟨len,λA outer s H ab us vs Q E Y F hb r C=>?_⟩;have hl:=len _ _ _ _ C;have KX:K.In s.heap:=F.mod.JU.keeps λb o e=>(F.bs b o e).1;have X:s.heap.NoLimit:=F.mod.nolimit.keeps λb o e=>(F.bs b o e).1;have l:∀y∈ps.zip us,scope.names.lookup y.1=some .local∨(scope.names.lookup y.1=some .cell/\((cellsFrom (s.heap.objs.size+1) scope.names []).lookup y.1).isSome=true):=λ⟨n,v⟩ hy=>by
  rcases S.par n (zbQ hy).1 with q|q
  ·exact .inl q
  ·exact .inr ⟨q,zaq _ _ _ (.inl q)⟩
 refine codeAny_call_function Y.depth (KX _ _ lk) rfl S.co S.gen rfl (PySem.W.codeRec_of KX Z) (hb _ _ _ _ ?_);refine wpAny_newFunctionEnv_cells S.kind l λenv he s1 x=>?_;subst he;refine⟨X.keeps x.toInCall.keep,codeAny_func ?_⟩;obtain⟨t,ht,hq⟩:=m A outer s H vs Q E (Y.deeper _) C;have I:Inv (d9 CX P w K mg base N qual scope f a A outer s H E) [] (start N vs) H s1:=qD S Y.hd F hl r x;refine yac (ht [] s1 (start N vs) H _ I hq) (λfl O z=>?_) λe O z=>z;have fin:∀{j:St}{H':Hp}{v:V}{u:yaj},Inv (d9 CX P w K mg base N qual scope f a A outer s H E) [] j H' O->RelV v u->Q v H'->CE outer P w H s Q u O:=
  λ{j H' v u} J U q=>⟨v,H',J.os,J.bare,J.base,J.hok,U,q⟩
 cases fl with
 |ret u=>
  obtain⟨v,j,H',J,U,q⟩:=z;exact fin J U q
 |next=>
  obtain⟨j,H',J,q⟩:=z;exact fin (v:=V.aY) (u:=Value.none) J rfl q
 |brk=>
  obtain⟨_,_,_,q⟩:=z;exact False.elim q
 |cont=>
  obtain⟨_,_,_,q⟩:=z;exact False.elim q
section
variable {t:TA}{id T:String}{r:List V->Hp->VK->Prop}
def NU(r:List V->Hp->VK->Prop)(t:TA):TE:=λa H Q=>t a H λe i=>r e i Q
theorem DF(O:bN X (.builtin id) r)(F:Gl X x)(E:X.mg x=none)(z:bootBuiltins x=some (.builtin id))(P:PA X (e::es) t)(C:autoParam (x≠"__name__") r1)(l:autoParam ((x==("__debug__":Str))=false) r1)(L:autoParam (yap (e::es) X.env=(false,eval e X.env)::yap es X.env) r0)(j:autoParam ((yav pos (yap es X.env)).any (·.1)=false) r0):PE X (.Call (.Name x p) (e::es) [] pos) (NU r t):=by
 intro a s m H Q I h;refine wpAny_Call_Name_kw (gD I F E z ?_ C l);refine PyProof.Rows.callWith_builtin1 (bS (P pos a s m H _ I h) λo q i=>?_) L j;obtain⟨n,U,S,u,y⟩:=i;exact O a q m U n o Q S u y
theorem AZ(L:bN X (.type T) r)(E:Gl X x)(C:X.mg x=none)(y:bootBuiltins x=some (.type T))(O:PA X (e::es) t)(z:autoParam (x≠"__name__") r1)(j:autoParam ((x==("__debug__":Str))=false) r1)(F:autoParam (yap (e::es) X.env=(false,eval e X.env)::yap es X.env) r0)(i:autoParam ((yav pos (yap es X.env)).any (·.1)=false) r0):PE X (.Call (.Name x p) (e::es) [] pos) (NU r t):=by
 intro a s l H Q I h;refine wpAny_Call_Name_kw (gD I E C y ?_ z j);exact PyProof.Rows.callWith_type1 (bS (O pos a s l H _ I h) λn o ⟨m,S,P,q,u⟩=>L a o l S m n Q P q u) F i
end
section
variable {κ:Type}[DecidableEq κ]
noncomputable def gQ(kvs:List (κ×V))(k:κ):Option V:=(kvs.find? λa=>decide (a.1=k)).map (·.2)
noncomputable def putK(kvs:List (κ×V))(k:κ)(v:V):List (κ×V):=
 if(kvs.any λa=>decide (a.1=k))=true then kvs.map (λa=>if a.1=k then(a.1,v) else a) else kvs++[(k,v)]
theorem m8{p:κ×V}{r:List (κ×V)}{k:κ}(e:p.1=k):gQ (p::r) k=some p.2:=by simp[gQ,zbR,e]
theorem m9{p:κ×V}{r:List (κ×V)}{k:κ}(e:¬p.1=k):gQ (p::r) k=gQ r k:=by simp[gQ,zbR,e]
theorem ng(k:κ):∀kvs:List (κ×V),(kvs.any λa=>decide (a.1=k))=(gQ kvs k).isSome
 |[]=>rfl
 |p::r=>by
  rw[zcp];by_cases e:p.1=k
  ·simp only[m8 e,yDt e,Bool.true_or,Option.isSome_some]
  ·rw[m9 e,yDf e,zcu];exact ng k r
theorem fz(kvs:List (κ×V))(k:κ)(v:V):(putK kvs k v).length<=kvs.length+1:=by
 unfold putK;split
 ·rw[zbN];simp
 ·rw[zaO,zbu,zbS];simp
theorem fj.fV{o:Option V}{u:Option yaj}(r:fj o u):o.isSome=u.isSome:=by
 cases o with
 |none=>cases u with
  |none=>rfl
  |some _=>exact(show False from r).elim
 |some _=>cases u with
  |none=>exact(show False from r).elim
  |some _=>rfl
theorem KV.val{kvs:List (κ×V)}{vs:List (κ×yaj)}(r:KV kvs vs)(k:κ):fj (gQ kvs k) (valueAt vs k):=by
 unfold KV at r
 induction r with
 |nil=>exact True.intro
 |@cons p q ps qs h t ih=>
  obtain⟨h1,h2⟩:=h;by_cases e:p.1=k
  ·have a:q.1=k:=h1.symm.trans e;have b:valueAt (q::qs) k=some q.2:=by simp[valueAt,zbR,a]
   rw[m8 e,b];exact h2
  ·have a:¬q.1=k:=λz=>e (h1.trans z);have b:valueAt (q::qs) k=valueAt qs k:=by simp[valueAt,zbR,a]
   rw[m9 e,b];exact ih
theorem KV.any{kvs:List (κ×V)}{vs:List (κ×yaj)}(r:KV kvs vs)(k:κ):(kvs.any λa=>decide (a.1=k))=vs.any λa=>decide (a.1=k):=by
 unfold KV at r
 induction r with
 |nil=>rfl
 |cons h t ih=>rw[zcp,zcp,ih,h.1]
theorem KV.repl{kvs:List (κ×V)}{vs:List (κ×yaj)}(r:KV kvs vs)(k:κ){y:V}(i:RelV y u):
  KV (kvs.map λa=>if a.1=k then(a.1,y) else a) (vs.map λa=>if a.1=k then(a.1,u) else a):=by
 unfold KV at r⊢
 induction r with
 |nil=>exact .nil
 |@cons p q ps qs h t ih=>
  rw[zco,zco];refine .cons ?_ ih;obtain⟨h1,h2⟩:=h;by_cases e:p.1=k
  ·rw[yIp e,yIp (h1.symm.trans e)];exact⟨h1,i⟩
  ·rw[yIn e,yIn (λz=>e (h1.trans z))];exact⟨h1,h2⟩
theorem KV.put{kvs:List (κ×V)}{vs:List (κ×yaj)}(r:KV kvs vs)(k:κ){y:V}(a:RelV y u):KV (putK kvs k y) (stored vs k u):=by
 unfold putK stored;rw[r.any k];by_cases e:(vs.any λi=>decide (i.1=k))=true
 ·rw[yIp e,yIp e];exact r.repl k a
 ·rw[yIn e,yIn e];exact Paired.snoc r ⟨rfl,a⟩
theorem KV.length{kvs:List (κ×V)}{vs:List (κ×yaj)}(r:KV kvs vs):kvs.length=vs.length:=Paired.length r
end
theorem oQ{w:yal}{k:Key}(r:RelV (kV k) u):(bu P w).is k u=true:=by
 cases k with
 |inl i=>obtain⟨t,e⟩:=(show∃t,u=Value.int i t from r);subst e;exact uM P w i t
 |inr x=>obtain⟨t,e⟩:=(show∃t,u=Value.str x t from r);subst e;exact uL P w x t
theorem qC{P:yak}{w:yal}:∀{ks:List Key}{us:List yaj},Vals (ks.map kV) us->ItemsAre (bu P w) ks us
 |[],_,r=>by rw[zcB] at r;cases r;exact .nil
 |k::ks,_,r=>by
  rw[zco] at r;cases r with
  |cons h t=>exact .cons (oQ h) (qC t)
abbrev KT(H:Hp):List (List Key×V)->List (List Key×Addr×yaj)->Prop:=Paired λp q=>p.1=q.1/\H q.2.1=some (.tup (p.1.map kV))/\RelV p.2 q.2.2
theorem KT.val{xs:List (List Key×Addr×yaj)}(r:KT H kvs xs)(k:List Key):fj (gQ kvs k) ((atKey xs k).map (·.2)):=by
 induction r with
 |nil=>exact True.intro
 |@cons p q ps qs h t ih=>
  obtain⟨h1,_,h2⟩:=h;by_cases e:p.1=k
  ·have a:q.1=k:=h1.symm.trans e;have b:atKey (q::qs) k=some q.2:=by simp[atKey,zbR,a]
   rw[m8 e,b];exact h2
  ·have a:¬q.1=k:=λz=>e (h1.trans z);have b:atKey (q::qs) k=atKey qs k:=by simp[atKey,zbR,a]
   rw[m9 e,b];exact ih
theorem KT.repl{xs:List (List Key×Addr×yaj)}(r:KT H kvs xs)(k:List Key){y:V}(i:RelV y u):
  KT H (kvs.map λa=>if a.1=k then(a.1,y) else a) (xs.map (putAt k u)):=by
 induction r with
 |nil=>exact .nil
 |@cons p q ps qs h t ih=>
  rw[zco,zco];refine .cons ?_ ih;obtain⟨h1,h2,j⟩:=h;unfold putAt;by_cases e:p.1=k
  ·rw[yIp e,yIp (h1.symm.trans e)];exact⟨h1,h2,i⟩
  ·rw[yIn e,yIn (λz=>e (h1.trans z))];exact⟨h1,h2,j⟩
theorem KT.put{xs:List (List Key×Addr×yaj)}(r:KT H kvs xs)(k:List Key){b:Addr}{y:V}(j:H b=some (.tup (k.map kV)))(a:RelV y u):
  KT H (putK kvs k y) (storedH xs k b u):=by
 have e:(kvs.any λi=>decide (i.1=k))=(atKey xs k).isSome:=by
  rw[ng,(r.val k).fV,zbs]
 unfold putK storedH;rw[e];by_cases q:(atKey xs k).isSome=true
 ·rw[yIp q,yIp q];exact r.repl k a
 ·rw[yIn q,yIn q];exact Paired.snoc r ⟨rfl,j,a⟩
theorem KT.keeps{xs:List (List Key×Addr×yaj)}(r:KT H kvs xs)(a:∀b ys,H b=some (.tup ys)->H' b=some (.tup ys)):KT H' kvs xs:=
 Paired.O9 r λ_ _ z=>⟨z.1,a _ _ z.2.1,z.2.2⟩
section
variable {w:yal}{h:Heap}
theorem JI{u:HO}(ok:gg P w H h)(e:Rd H a u):aW P w H h a u:=e.ok ok
theorem qO{kvs:List (Key×V)}(ok:gg P w H h)(e:Rd H a (.dK kvs)):kvs.length<=yah/\(a==yat)=false/\∃vs,KV kvs vs/\h.DictOf (bu P w) a vs:=
 show aW P w H h a (.dK kvs) from JI ok e
theorem z8{kvs:List (Key×V)}(ok:gg P w H h)(e:H a=some (.dK kvs)):kvs.length<=yah/\(a==yat)=false/\∃vs,KV kvs vs/\h.DictOf (bu P w) a vs:=qO ok (.inl e)
theorem oN{ks:List Key}(ok:gg P w H h)(e:H a=some (.tup (ks.map kV))):(tupleKind (bu P w)).is h ks a:=by
 obtain⟨_,i,r,o,h1,h2,n,j⟩:=(show aW P w H h a (.tup (ks.map kV)) from ok a _ e)
 exact⟨o,i.toArray,n,h1,h2,j,by simpa using qC r⟩
theorem vn(ok:gg P w H h)(e:Rd H a (.dT kvs)):kvs.length<=yah/\(a==yat)=false/\
  ∃xs,KT H kvs xs/\h.DictOfH (tupleKind (bu P w)) a xs:=by
 obtain⟨z,y,xs,r,o,C,E,h1,h2,u,n,j⟩:=(show aW P w H h a (.dT kvs) from JI ok e)
 refine⟨z,y,xs,r,o,C,E,h1,h2,u,n,λx i=>?_,j⟩;have all:∀{l:List (List Key×V)}{m:List (List Key×Addr×yaj)},KT H l m->∀x∈m,(tupleKind (bu P w)).is h x.1 x.2.1:=by
  intro l m q
  induction q with
  |nil=>intro x i;exact nomatch i
  |@cons p q ps qs hq t ih=>
   intro x i;rcases zcn.mp i with e|i
   ·subst e;exact oN ok (by rw[<-hq.1];exact hq.2.1)
   ·exact ih x i
 exact all r x i
theorem Pz(ok:gg P w H h)(e:H a=some (.dT kvs)):kvs.length<=yah/\(a==yat)=false/\
  ∃xs,KT H kvs xs/\h.DictOfH (tupleKind (bu P w)) a xs:=vn ok (.inl e)
end
def i6(H:Hp)(a:Addr)(y:V)(r:Option V):Prop:=
 (∃e k,Rd H a (.dK e)/\y=kV k/\r=gQ e k)∨∃e k b,Rd H a (.dT e)/\y=.ref b/\H b=some (.tup (k.map kV))/\r=gQ e k
def yE(H:Hp)(a:Addr)(y v:V)(H':Hp):Prop:=
 (∃e k,H a=some (.dK e)/\y=kV k/\e.length<yah/\H'=upd H a (.dK (putK e k v)))∨
 ∃e k b,H a=some (.dT e)/\y=.ref b/\H b=some (.tup (k.map kV))/\e.length<yah/\H'=upd H a (.dT (putK e k v))
theorem i6.k{H:Hp}{a:Addr}{kvs:List (Key×V)}{k:Key}(e:H a=some (.dK kvs)):i6 H a (kV k) (gQ kvs k):=.inl ⟨kvs,k,.inl e,rfl,rfl⟩
theorem yE.k{H:Hp}{a:Addr}{kvs:List (Key×V)}{k:Key}{v:V}(e:H a=some (.dK kvs))(i:kvs.length<yah):yE H a (kV k) v (upd H a (.dK (putK kvs k v))):=.inl ⟨kvs,k,e,rfl,i,rfl⟩
section
variable {σ:St}{y:V}{r:yaj}{o:Option V}
theorem Inv.big(I:Inv X pins σ H s):yat<s.heap.objs.size:=by
 have h:yar<s.heap.objs.size:=(I.mod.glob.keeps I.bk).lt;exact Nat.lt_trans (by decide) h
theorem BA(P:A.units+1<cLine)(I:Inv X pins σ H s)(g:i6 H a y (some v))(L:RelV y u)(h:∀m s',Inv X pins σ H s'->RelV v m->Q m s'):
  yas (model X.prog X.w) A (getItem (.ref a) u) Q E s:=by
 rcases g with⟨n,k,e,C,l⟩|⟨n,k,b,e,C,U,l⟩
 ·subst C;obtain⟨z,hd,O,j,F⟩:=qO I.hok e;obtain⟨m,hw,i⟩:=fj.some_of (v:=v) (o:=valueAt O k) (by rw[l];exact j.val k);exact wpAny_getItem_of (oQ L) F.mapOf hw (h m _ (I.tok _) i)
 ·subst C;cases(show u=Value.ref b from L);obtain⟨z,hd,xs,j,F⟩:=vn I.hok e;obtain⟨m,hw,i⟩:=fj.some_of (v:=v) (o:=(atKey xs k).map (·.2)) (by rw[l];exact j.val k);obtain⟨p,S,q⟩:=Option.map_eq_some_iff.mp hw;refine wpAny_getItem_heap (tupleKind_room_in1 P) (oN I.hok U) F S ?_;rw[q];exact h m _ (I.tok _) i
theorem Sg(F:A.units+1<cLine)(I:Inv X pins σ H s)(g:i6 H a y o)(C:RelV y u)(h:∀s',Inv X pins σ H s'->Q (.bool o.isSome) s'):
  yas (model X.prog X.w) A (yao .In u (.ref a)) Q E s:=by
 rcases g with⟨j,k,e,m,l⟩|⟨j,k,b,e,m,L,l⟩
 ·subst m;obtain⟨z,hd,O,i,n⟩:=qO I.hok e;refine wpAny_in_of (oQ C) hd n.mapOf ?_;rw[<-(i.val k).fV,<-l];exact h _ (I.tok _)
 ·subst m;cases(show u=Value.ref b from C);obtain⟨z,hd,xs,i,n⟩:=vn I.hok e;refine wpAny_in_heap (tupleKind_room_in1 F) (oN I.hok L) hd n ?_;have q:=(i.val k).fV;rw[zbs] at q;rw[<-q,<-l];exact h _ (I.tok _)
theorem Ih(F:A.units+1<cLine)(I:Inv X pins σ H s)(g:i6 H a y o)(C:RelV y u)(h:∀s',Inv X pins σ H s'->Q (.bool (!o.isSome)) s'):
  yas (model X.prog X.w) A (yao .NotIn u (.ref a)) Q E s:=by
 rcases g with⟨j,k,e,m,l⟩|⟨j,k,b,e,m,L,l⟩
 ·subst m;obtain⟨z,hd,O,i,n⟩:=qO I.hok e;refine wpAny_notIn_of (oQ C) hd n.mapOf ?_;rw[<-(i.val k).fV,<-l];exact h _ (I.tok _)
 ·subst m;cases(show u=Value.ref b from C);obtain⟨z,hd,xs,i,n⟩:=vn I.hok e;refine wpAny_notIn_heap (tupleKind_room_in1 F) (oN I.hok L) hd n ?_;have q:=(i.val k).fV;rw[zbs] at q;rw[<-q,<-l];exact h _ (I.tok _)
theorem mY{ob:HO}(I:Inv X pins σ H s)(i:NJ (H a))(j:Heap.SameBut a s.heap h')(l:∃q,h'.get? a=some q)(new:aW X.prog X.w (upd H a ob) h' a ob):
  Inv X pins σ (upd H a ob) {s with heap:=h',toks:=t'}:=
 I.write (x:=a) (e:=a) i (.inl rfl) (λb q m z=>(j.2 b m).trans z) l new
theorem EL{w:yal}{kvs:List (Key×V)}{vs:List (Key×yaj)}(z:kvs.length<=yah)(hd:(a==yat)=false)(e:KV kvs vs)(i:h'.DictOf (bu P w) a vs):
  aW P w H' h' a (.dK kvs):=⟨z,hd,vs,e,i⟩
theorem By{Q:Unit->yai->Prop}(hu:A.units+1<cLine)(I:Inv X pins σ H s)(g:yE H a y v H')(S:RelV y u)(U:RelV v r)(h:∀s',Inv X pins σ H' s'->Q () s'):
  yas (model X.prog X.w) A (setItem (.ref a) u r) Q E s:=by
 rcases g with⟨j,k,e,L,l,O⟩|⟨j,k,b,e,L,Y,l,O⟩
 ·subst L O;obtain⟨z,hd,Z,i,P⟩:=z8 I.hok e;have hz:Z.length<=yah:=by rw[<-i.length];exact z
  have F:(putK j k v).length<=yah:=by have:=fz j k v;lia
  refine wpAny_setItem_pairs (hsz:=hz) (oQ S) P λW m C=>h _ ?_;have he:∃q,W.get? a=some q:=by obtain⟨q,_,_,n,_⟩:=m;exact⟨q,n⟩
  exact mY I (by rw[e];exact True.intro) C he (EL F hd (i.put k U) m)
 ·subst L O;cases(show u=Value.ref b from S);obtain⟨z,hd,xs,i,P⟩:=Pz I.hok e;have hz:xs.length<=yah:=by rw[<-Paired.length i];exact z
  have F:(putK j k v).length<=yah:=by have:=fz j k v;lia
  refine wpAny_setItem_heap (hsz:=hz) (tupleKind_room_in1 hu) (oN I.hok Y) P λW m C=>h _ ?_;obtain⟨q,es,ep,n,h2,h3,h4,_,h5⟩:=m;refine mY I (by rw[e];exact True.intro) C ⟨q,n⟩ ⟨F,hd,_,(i.put k Y U).keeps λc ys ec=>?_,q,es,ep,n,h2,h3,h4,h5⟩;rw[au (O7 ec e (λz=>nomatch z))];exact ec
end
section
variable {σ:St}{kvs:List (Key×V)}{k:Key}
theorem PD(I:Inv X pins σ H s)(e:Rd H a (.dK kvs))(h:∀t s',Inv X pins σ H s'->Q (.int kvs.length t) s'):yas (model X.prog X.w) A (call (.builtin "len") [.ref a]) Q E s:=by
 obtain⟨z,hd,l,i,j⟩:=qO I.hok e;refine call_len_dict hd j (by rw[<-i.length];rw[yag] at z;lia) ?_;rw[<-i.length];exact h _ _ (I.tok _)
end
def Jl(i:Expr):Prop:=∀ov a,subscripted i false ov a=operate [ov,a] (getItem ov a)
theorem Gp{w:yal}{a:Expr}{T id:String}(z:typeLookup (.type T) "__getitem__"=pure (some (.builtin id)))(y:Jl a)(h:yas (model prog w) A (eval value env) (λo m=>yas (model prog w) A (eval a env) (λi e=>e.TypeIs o T/\yas (model prog w) A (getItem o i) Q E e) E m) E s):
  yas (model prog w) A (eval (.Subscript value a pos) env) Q E s:=by
 refine Subscript_ (yac h (λo m q=>yac q (λi e j=>?_) λ_ _ x=>x) λ_ _ x=>x);obtain⟨u,j⟩:=j;unfold subscriptTail;refine yaa ?_;rw[getitemInPython_of_ne u.not_modules];refine yaa (wpAny_specialOf u z ?_);have fin:yas (model prog w) A (subscripted a false o i) (λr l=>yas (model prog w) A (letTemporaryGo value o r >>= λ_=>pure r) Q E l) E e:=by
  rw[y o i];exact wpAny_operating (yac j (λr l n=>yaa (wpAny_letTemporaryGo (yab n))) λ_ _ x=>x)
 first
  |exact yab (yaa fin)
  |exact yaa (yab (yaa fin))
  |exact yaa fin
theorem vp{l:St}{y:V}{o:Option V}(I:Inv X pins l H s)(g:i6 H a y o):s.TypeIs (.ref a) "dict":=by
 rcases g with⟨i,k,e,_,_⟩|⟨i,k,b,e,_,_,_⟩
 ·obtain⟨_,_,m,_,j⟩:=qO I.hok e;exact j.typeIs
 ·obtain⟨_,_,xs,_,j⟩:=vn I.hok e;exact j.typeIs
def Cy(j ty:TE):TE:=λe H Q=>j e H λx l=>ty e l λy i=>∃a v,x=.ref a/\i6 i a y (some v)/\Q v i
def Dd(l ty j:TE):TS:=λD e H=>j e H λv o=>l e o λx n=>ty e n λy m=>∃a i,x=.ref a/\yE m a y v i/\D.nx e i
section
variable {o i:Expr}{tpos:Pos}{td ty tv:TE}
theorem dc(O:X.A.units+1<cLine)(S:PE X o td)(U:PE X i ty)(P:Jl i):PE X (.Subscript o i pos) (Cy td ty):=by
 intro e s n H Q I h;refine Gp PySem.F.slot_dict_getitem.lookup P (bS (S e s n H _ I h) λu z l=>?_);obtain⟨x,H1,Y,E,L⟩:=l;refine bS (U e z n H1 _ Y L) λiv s2 j=>?_;obtain⟨y,Z,q,C,a,v,ex,g,q2⟩:=j;subst ex;obtain rfl:u=Value.ref a:=E;exact⟨vp q g,BA O q g C λw' s3 W m=>⟨v,Z,W,m,q2⟩⟩
theorem jP(P:X.A.units+1<cLine)(S:PE X o td)(U:PE X i ty)(O:PE X value tv)(Q:yau value (some (.Subscript o i pos')) pos.line X.env=pure false):
  PS X (.Assign [.Subscript o i pos'] value pos) (Dd td ty tv):=by
 intro e s j H D I h;refine wpAny_Assign_Subscript (bS (O e s j H _ I h) λr z n=>?_) Q;obtain⟨v,H1,I1,F,L⟩:=n;refine bS (S e z j H1 _ I1 L) λu q m=>?_;obtain⟨x,H2,Z,E,q2⟩:=m;refine bS (U e q j H2 _ Z q2) λiv s3 l=>?_;obtain⟨y,H3,Y,C,a,H4,ex,g,q3⟩:=l;subst ex;obtain rfl:u=Value.ref a:=E;exact By P Y g C F λs4 W=>⟨j,H4,W,q3⟩
end
theorem vo{w:yal}(h:Heap)(a:yat<h.objs.size):aW P w H (h.push {cls:=.type "dict",data:=.dict #[]}) h.objs.size (.dK []):=
 ⟨zcT _,beq_eq_false_iff_ne.mpr (Ne.symm (zcG a)),[],.nil,Heap.DictOf.new h⟩
def Cw:TE:=λ_ H Q=>∀p,H p=none->Q (.ref p) (upd H p (.dK []))
theorem gZ:PE X (.Dict [] [] pos) Cw:=λe s i H Q I h=>
 wpAny_Dict_empty ⟨.ref s.heap.objs.size,_,I.laid (a:=s.heap.objs.size) (o:=.dK []) (t':=s.toks) (λ_ _ q=>zar _ q) (zcS _) (vo s.heap I.big),rfl,h _ (I.hok.fresh (zcS _))⟩
def wJ:List (TE×TE)->St->Hp->(List (V×V)->Hp->Prop)->Prop
 |[],_,H,Q=>Q [] H
 |(tk,tv)::r,σ,H,Q=>tk σ H λx j=>tv σ j λy i=>wJ r σ i λa e=>Q ((x,y)::a) e
abbrev VV:List (V×V)->List (yaj×yaj)->Prop:=Paired λp q=>RelV p.1 q.1/\RelV p.2 q.2
def Qt(X:Cx)(pos:Pos)(i:List (Option Expr))(a:List Expr)(rq:List (TE×TE)):Prop:=
 ∀(e:List (Addr×Obj))(s:yai)(j:St)(H:Hp)(Q:List (V×V)->Hp->Prop),Inv X e j H s->wJ rq j H Q->
  yas (model X.prog X.w) X.A (evalPairs (pairTrees i a X.env pos)) (λn o=>∃l m,Inv X e j m o/\VV l n/\Q l m) X.xe s
theorem rX:Qt X pos [] [] []:=λa s e H Q I h=>pairTrees_nil_walk ⟨[],H,I,.nil,h⟩
theorem gY{k v:Expr}{ks:List (Option Expr)}{vs:List Expr}{tk n:TE}{rq:List (TE×TE)}(P:PE X k tk)(L:PE X v n)(O:Qt X pos ks vs rq):
  Qt X pos (some k::ks) (v::vs) ((tk,n)::rq):=by
 refine λa s e H Q I h=>pairTrees_cons_walk (bS (P a s e H _ I h) λu q l=>?_);obtain⟨x,H1,W,C,E⟩:=l;refine bS (L a q e H1 _ W E) λw2 o j=>?_;obtain⟨y,Z,U,z,q2⟩:=j;refine bS (O a o e Z _ U q2) λws s3 i=>?_;obtain⟨F,Y,S,m,q3⟩:=i;exact⟨(x,y)::F,Y,S,.cons ⟨C,z⟩ m,q3⟩
noncomputable def oF(kvs more:List (Key×V)):List (Key×V):=more.foldl (λa e=>putK a e.1 e.2) kvs
theorem KV.merge:∀{more:List (Key×V)}{a:List (Key×yaj)}{kvs:List (Key×V)}{vs:List (Key×yaj)},KV more a->KV kvs vs->KV (oF kvs more) (merged vs a):=by
 intro more a kvs vs r;unfold KV at r
 induction r generalizing kvs vs with
 |nil=>intro q;exact q
 |@cons p q ps qs h t ih=>
  intro i;have e:KV (putK kvs p.1 p.2) (stored vs q.1 q.2):=by
   have:=i.put p.1 h.2;rw[<-h.1];exact this
  exact ih e
theorem je:∀(more kvs:List (Key×V)),(oF kvs more).length<=kvs.length+more.length
 |[],kvs=>by show kvs.length<=kvs.length+0;simp
 |p::r,kvs=>by
  have h1:=je r (putK kvs p.1 p.2);have h2:=fz kvs p.1 p.2;show(oF (putK kvs p.1 p.2) r).length<=_;rw[zbu];lia
theorem pF{P:yak}{w:yal}:∀{kvs:List (Key×V)}{ws:List (yaj×yaj)},VV (kvs.map λi=>(kV i.1,i.2)) ws->∃e,Carries (bu P w) ws e/\KV kvs e
 |[],_,r=>by rw[zcB] at r;cases r;exact⟨[],True.intro,.nil⟩
 |p::kvs,_,r=>by
  rw[zco] at r;cases r with
  |@cons a b as bs h t=>
   obtain⟨e,c,q⟩:=pF (P:=P) (w:=w) t;obtain⟨l,j⟩:=b;exact⟨(p.1,j)::e,⟨oQ h.1,rfl,c⟩,.cons ⟨rfl,h.2⟩ q⟩
def Jy(rq:List (TE×TE)):TE:=λj H Q=>∀p,H p=none->wJ rq j (upd H p (.dK [])) λl i=>i p=some (.dK [])/\∃a:List (Key×V),l=a.map (λe=>(kV e.1,e.2))/\a.length<=15/\Q (.ref p) (upd i p (.dK (oF [] a)))
theorem rZ{i:List Expr}{rq:List (TE×TE)}(h:Qt X pos keys i rq)(m:keys.all (·.isSome)=true)(hl:keys.length=i.length)(h0:keys≠[])(C:keys.length<=15):PE X (.Dict keys i pos) (Jy rq):=by
 intro j s F H Q I q;have Z:=I.hok.fresh (zcS s.heap.objs.size);have I1:=I.laid (a:=s.heap.objs.size) (o:=.dK []) (h':=s.heap.push {cls:=.type "dict",data:=.dict #[]}) (t':=s.toks) (λ_ _ q=>zar _ q) (zcS _) (vo s.heap I.big);refine wpAny_Dict_walk (knd:=bu X.prog X.w) m hl h0 C (bS (h j _ F _ _ I1 (q _ Z)) λws s2 u=>?_);obtain⟨ps,H2,E,y,e,l,ep,lk,q2⟩:=u;subst ep;obtain⟨O,c,S⟩:=pF (P:=X.prog) (w:=X.w) y;obtain⟨z,hd,L,U,dd⟩:=z8 E.hok e;cases U;refine⟨O,c,dd,λh' n W=>⟨.ref s.heap.objs.size,_,?_,rfl,q2⟩⟩;have hz:(oF [] l).length<=yah:=by
  have h1:=je l [];rw[zbS] at h1;rw[yag];lia
 have he:∃q,h'.get? s.heap.objs.size=some q:=by obtain⟨q,_,_,Y,_⟩:=n;exact⟨q,Y⟩
 exact mY E (by rw[e];exact True.intro) W he (EL hz hd (S.merge .nil) n)
structure M1(X:Cx)(o:Expr)(m:Str)(apos:Pos)(e:Expr)(cpos:Pos):Prop where
 base:attributeBase o m X.env (eval o X.env)=eval o X.env
 few:((yav cpos (yap [e] X.env)).all (λx=>!x.1)&&(yaH cpos (yaG [] X.env)).all (λx=>x.1.isSome)&&decide (([e]:List Expr).length+([]:List Keyword).length+(if([]:List Keyword).isEmpty then 0 else 1)<30))=true
 line:(apos.endLine==cpos.line)=true
 trees:yav cpos (yap [e] X.env)=[(false,eval e X.env)]
structure M2(X:Cx)(o:Expr)(m:Str)(apos:Pos)(e f:Expr)(cpos:Pos):Prop where
 base:attributeBase o m X.env (eval o X.env)=eval o X.env
 few:((yav cpos (yap [e,f] X.env)).all (λx=>!x.1)&&(yaH cpos (yaG [] X.env)).all (λx=>x.1.isSome)&&decide (([e,f]:List Expr).length+([]:List Keyword).length+(if([]:List Keyword).isEmpty then 0 else 1)<30))=true
 line:(apos.endLine==cpos.line)=true
 trees:yav cpos (yap [e,f] X.env)=[(false,eval e X.env),(false,eval f X.env)]
end L2
variable {σ:L2.St}{sp:L2.Sp}{te:L2.TE}{r:L2.V->List L2.V->L2.Hp->L2.VK->Prop}{CX:L2.wA}
namespace HT
open PySem PyProof.Rows
section
variable {w:yal}
theorem IF{t b:Addr}{vs ws:List yaj}(I:IsTup s.heap t vs.toArray)(L:IsTup s.heap b ws.toArray)(y:vs≠[])(h1:ws=[]->Q (.ref t) s)(h2:ws≠[]->Q (.ref s.heap.objs.size) {s with heap:=s.heap.push {cls:=.type "tuple",data:=.seq (vs++ws).toArray}})(hsz:vs.length+ws.length<=yah):yas (model prog w) A (binaryOp .Add (.ref t) (.ref b)) Q E s:=by
 obtain⟨⟨cls,C,data,u⟩,o,z,n,hd⟩:=id I;obtain⟨⟨H,m,q,i⟩,a,l,n2,j⟩:=id L;simp only at z hd l j;subst z hd l j;have e:vs.toArray++ws.toArray=(vs++ws).toArray:=by simp
 by_cases hw:ws=[]
 ·exact concat_meets ⟨_,o,rfl⟩ ⟨_,a,rfl⟩ noFill_tuple_add seq_tuple_add PySem.F.slot_tuple_add PySem.F.entry_tuple_add (PySem.F.args_tuple_add_2 _ _)
   (tuple_addW1 t b vs.toArray ws.toArray n n2 C m u i (by simpa using y) (by simp[hw])) ⟨o,a,h1 hw⟩
 ·refine concat_meets ⟨_,o,rfl⟩ ⟨_,a,rfl⟩ noFill_tuple_add seq_tuple_add PySem.F.slot_tuple_add PySem.F.entry_tuple_add (PySem.F.args_tuple_add_2 _ _)
   (tuple_addW2 t b vs.toArray ws.toArray n n2 C m u i (by simpa using y) (by simpa using hw) (by rw[zbc,zbc];exact hsz)) ⟨o,a,?_⟩
  rw[e];exact h2 hw
noncomputable def bX(n d:Nat):Option Int->Nat
 |none=>d
 |some v=>if v<0 then(v+(n:Int)).toNat else min v.toNat n
theorem iL(n d k:Nat):bX n d (some (k:Int))=min k n:=by
 show(if(k:Int)<0 then((k:Int)+(n:Int)).toNat else min (k:Int).toNat n)=min k n;rw[yIn (by simp),Int.toNat_natCast]
theorem Lz(n d:Nat)(hd:d<=n)(o:Option Int):bX n d o<=n:=by
 cases o with
 |none=>exact hd
 |some v=>
  show(if v<0 then(v+(n:Int)).toNat else min v.toNat n)<=n;by_cases a:v<0
  ·rw[yIp a];lia
  ·rw[yIn a];exact Nat.min_le_right _ _
theorem Af(v:Int)(n d:Nat):(if v<0 then max (v+(n:Int)) 0 else min v (n:Int))=((bX n d (some v):Nat):Int):=by
 show(if v<0 then max (v+(n:Int)) 0 else min v (n:Int))=(((if v<0 then(v+(n:Int)).toNat else min v.toNat n):Nat):Int);by_cases a:v<0
 ·simp only[yIp a];simp
 ·simp only[yIn a];lia
theorem yi(a e:Option Int)(n:Nat):Builtin.Slice.sliceAdjust a e 1 (n:Int)=(((bX n 0 a:Nat):Int),((bX n n e:Nat):Int)):=by
 have h1:¬((1:Int)<0):=by simp
 unfold Builtin.Slice.sliceAdjust;simp only[h1,if_false];refine Prod.ext ?_ ?_
 ·cases a with
  |none=>rfl
  |some v=>exact Af v n 0
 ·cases e with
  |none=>rfl
  |some v=>exact Af v n n
theorem xy(i j:Nat):Builtin.Slice.slicePlaces (i:Int) (j:Int) 1=j - i:=by
 unfold Builtin.Slice.slicePlaces;have h1:(1:Int)> 0:=by simp
 simp only[h1,if_true,Int.ediv_one];split<;>lia
theorem nE{v:yaj}{o:Option Int}{Q:Option Int->yai->Prop}(p:IsPart v o)(h:Q o s):yas (model prog w) A (Builtin.Slice.slicePartIndex v) Q E s:=by
 cases p with
 |none=>exact slicePart_none h
 |int i t=>exact slicePart_int h
theorem fQ{o:Addr}{m l:yaj}{a i:Option Int}{Q:Int×Int×Nat->yai->Prop}(q:s.heap.IsSliceOf o m l .none)(pl:IsPart m a)(pu:IsPart l i)(h:Q (((bX n 0 a:Nat):Int),1,bX n n i - bX n 0 a) s):yas (model prog w) A (Builtin.Slice.sliceApplied (.ref o) (pure (n:Int))) Q E s:=by
 obtain⟨os,e,u,j⟩:=id q;unfold Builtin.Slice.sliceApplied Builtin.Slice.sliceFields;refine yaa (yaa (wpAny_field e j (x:=m) rfl (yaa (wpAny_field e j (x:=l) rfl (yaa (wpAny_field e j (x:=.none) rfl (yab ?_)))))));refine yaa (slicePart_none ?_);show yas _ _ (if((1:Int)==0)=true then _ else _) _ _ s;rw[yIn (by decide)];refine yaa (nE pl (yaa (nE pu (yaa (yab ?_)))));show yas _ _ (match Builtin.Slice.sliceAdjust a i 1 (n:Int) with|(a,i)=>pure (a,(1:Int),Builtin.Slice.slicePlaces a i 1)) _ _ s;rw[yi a i n];show yas _ _ (pure (((bX n 0 a:Nat):Int),(1:Int),Builtin.Slice.slicePlaces ((bX n 0 a:Nat):Int) ((bX n n i:Nat):Int) 1)) _ _ s;rw[xy];exact yab h
theorem Dz(xs:Array yaj)(i k:Nat):((zcX k).filterMap λ(m:Nat)=>xs[((i:Int)+(m:Int)*1).toNat]?).toArray=((xs.toList.drop i).take k).toArray:=by
 have e:(λ(m:Nat)=>xs[((i:Int)+(m:Int)*1).toNat]?)=λm=>xs[i+m]?:=by
  funext m;have:((i:Int)+(m:Int)*1).toNat=i+m:=by lia
  rw[this]
 rw[e];have:=pick_run xs i k;rw[List.filterMap_map] at this;have a:((λx=>xs[x]?) ∘ λx=>i+x)=λm=>xs[i+m]?:=rfl;rw[a] at this;rw[this]
theorem j7{t l:Addr}{C z:yaj}{a e:Option Int}(j:IsTup s.heap t items)(F:s.heap.IsSliceOf l C z .none)(pl:IsPart C a)(pu:IsPart z e)(hw:¬(bX items.size 0 a=0/\bX items.size items.size e=items.size))(h:Q (.ref s.heap.objs.size) {s with heap:=s.heap.push {cls:=.type "tuple",data:=.seq ((items.toList.drop (bX items.size 0 a)).take (bX items.size items.size e - bX items.size 0 a)).toArray}})(hsz:items.size<=yah):yas (model prog w) A (getItem (.ref t) (.ref l)) Q E s:=by
 have i:sizeOk (.seq ((items.toList.drop (bX items.size 0 a)).take (bX items.size items.size e - bX items.size 0 a)).toArray):=by
  show((items.toList.drop (bX items.size 0 a)).take (bX items.size items.size e - bX items.size 0 a)).toArray.size<=yah;rw[zbc,zbv,zbw,zaK];(try clear hw;lia)
 have L:bX items.size items.size e<=items.size:=Lz _ _ (zcS _) e;obtain⟨os,n,u,H⟩:=id F;have y:s.TypeIs (.ref l) "slice":=⟨os,n,u⟩
 unfold getItem
 try with_reducible refine yad ?_
 first|refine yaa (yab ?_)|skip
 refine yaa (wpAny_sequenceKey j.typeIs (by decide) ?_);refine yaa (wpAny_callSpecial?_slot (name:=Str.ofString "__getitem__") j.typeIs PyProof.Rows.slot_tuple_getitem (wpAny_call_entry PyProof.Rows.slot_tuple_getitem j.typeIs entry_tuple_getitem ?_ (args_tuple_getitem _ _)));show yas _ _ (Builtin.Tuple.tupleItemsOf (.ref t) >>= _) _ _ s;refine yaa (tupleItemsOf_ j ?_);refine yaa (wpAny_typeOf y ?_);rw[yIp (by decide)];refine yaa (fQ F pl pu ?_);have o:¬((((bX items.size 0 a:Nat):Int)==0&&(1:Int)==1&&(bX items.size items.size e - bX items.size 0 a)==items.size)=true):=by
  intro q;rw[zbH,zbH] at q;have I:((bX items.size 0 a:Nat):Int)=0:=eq_of_beq q.1.1;have q2:bX items.size items.size e - bX items.size 0 a=items.size:=eq_of_beq q.2;exact hw ⟨by lia,by (try clear L q;lia)⟩
 show yas _ _ (if(((bX items.size 0 a:Nat):Int)==0&&(1:Int)==1&&(bX items.size items.size e - bX items.size 0 a)==items.size)=true then _ else _) _ _ s;rw[yIn o,Dz]
 first
  |exact yaa (m:=Builtin.Tuple.tupleExact _) (yaf (yab ⟨_,rfl,yab h⟩) i)
  |exact yaa (m:=Builtin.Tuple.tupleExact _) (yaf (yaa (yab (yab ⟨_,rfl,yab h⟩))) i)
  |exact yaa (yaa (m:=Builtin.Tuple.tupleExact _) (yaf (yab (yab ⟨_,rfl,yab h⟩)) i))
  |exact yaa (yaa (m:=Builtin.Tuple.tupleExact _) (yaf (yab ⟨_,rfl,yab h⟩) i))
end
end HT
namespace L2
open PySem PySem.Spec PyProof.Rows
abbrev TO:=St->Hp->(Option Int->Hp->Prop)->Prop
def PO(X:Cx)(e:Option Expr)(t:TO):Prop:=
 ∀(a:List (Addr×Obj))(s:yai)(i:St)(H:Hp)(Q:Option Int->Hp->Prop),Inv X a i H s->t i H Q->
  yas (model X.prog X.w) X.A (evalPart e X.env) (λu l=>∃o j,Inv X a i j l/\IsPart u o/\Q o j) X.xe s
def yL:TO:=λ_ H Q=>Q none H
def Ju(t:TE):TO:=λa H Q=>t a H λx e=>∃i,x=.int i/\Q (some i) e
theorem intsAre_of:∀{us:List yaj},Vals (ns.map V.int) us->IntsAre us ns:=by
 induction ns with
 |nil=>intro us r;rw[zcB] at r;cases r;exact .nil
 |cons n ns ih=>
  intro us r;rw[zco] at r;cases r with
  |cons r1 r2=>
   obtain⟨t,e⟩:=r1;subst e;exact .cons n t (ih r2)
section
variable {lo hi:Option Expr}{tl th:TO}
theorem aO:PO X none yL:=by
 intro a s e H Q I h;rw[evalPart_none];exact yab ⟨none,H,I,.none,h⟩
theorem aK(h:PE X e te):PO X (some e) (Ju te):=by
 intro a s l H Q I hw;rw[evalPart_some];refine bS (h a s l H _ I hw) λu z j=>?_;obtain⟨x,y,o,m,n⟩:=j;obtain⟨i,rfl,q⟩:=n;obtain⟨t,rfl⟩:=m;exact⟨some i,y,o,.int i t,q⟩
def Gf(X:Cx)(r:V->Option Int->Option Int->Hp->VK->Prop):Prop:=
 ∀(a:List (Addr×Obj))(s:yai)(e:St)(H:Hp)(x:V)(v j i:yaj)(lo hi:Option Int)(l:Addr)(Q:VK),Inv X a e H s->RelV x v->s.heap.IsSliceOf l j i .none->IsPart j lo->IsPart i hi->r x lo hi H Q->
  ∃T id,typeLookup (.type T) "__getitem__"=pure (some (.builtin id))/\s.TypeIs v T/\yas (model X.prog X.w) X.A (getItem v (.ref l)) (EP X a e Q) X.xe s
theorem Gf.or{r n:V->Option Int->Option Int->Hp->VK->Prop}(h:Gf X r)(h':Gf X n):Gf X (λx lo hi H Q=>r x lo hi H Q∨n x lo hi H Q):=by
 intro a s e H x v j i lo hi l Q I m o pl pu q;rcases q with q|q
 ·exact h a s e H x v j i lo hi l Q I m o pl pu q
 ·exact h' a s e H x v j i lo hi l Q I m o pl pu q
def SO(r:V->Option Int->Option Int->Hp->VK->Prop)(te:TE)(tl th:TO):TE:=λa H Q=>te a H λx j=>tl a j λl i=>th a i λu e=>r x l u e Q
theorem aH{r:V->Option Int->Option Int->Hp->VK->Prop}(S:Gf X r)(Y:PE X e te)(U:PO X lo tl)(O:PO X hi th):PE X (.Subscript e (.Slice lo hi none p2) pos) (SO r te tl th):=by
 intro a s m H Q I h;refine Subscript_ (bS (Y a s m H _ I h) λv E j=>?_);obtain⟨x,H1,I1,F,L⟩:=j;refine wpAny_Slice (bS (U a E m H1 _ I1 L) λo C j=>?_);obtain⟨l,H2,I2,pl,q2⟩:=j;refine bS (O a C m H2 _ I2 q2) λn i y=>?_;obtain⟨u,z,I3,pu,q3⟩:=y;rw[evalPart_none];refine yab ?_;have I4:Inv X a m z {i with heap:=i.heap.push {cls:=.type "slice",data:=.fields #[o,n,.none]}}:=I3.kept (t':=i.toks) λb ob q=>zar _ q;obtain⟨T,id,Z,P,W⟩:=S a {i with heap:=i.heap.push {cls:=.type "slice",data:=.fields #[o,n,.none]}} m z x v o n l u i.heap.objs.size Q I4 F (Heap.IsSliceOf.new ..) pl pu q3;show yas (model X.prog X.w) X.A (subscriptTail e (.Slice lo hi none p2) v (.ref i.heap.objs.size)) (EP X a m Q) X.xe {i with heap:=i.heap.push {cls:=.type "slice",data:=.fields #[o,n,.none]}};exact tail_any (ops:=[.ref i.heap.objs.size,v]) P Z W (by with_unfolding_all rfl)
noncomputable def vt(xs:List V)(lo hi:Option Int):List V:=(xs.drop (HT.bX xs.length 0 lo)).take (HT.bX xs.length xs.length hi - HT.bX xs.length 0 lo)
theorem lR(xs:List V)(lo hi:Option Int):(vt xs lo hi).length<=xs.length:=by
 unfold vt;rw[zbv,zbw];lia
def RC(K:yaM):V->Option Int->Option Int->Hp->VK->Prop:=λx lo hi H Q=>∃a xs,x=.ref a/\ee K H a xs/\
 ¬(HT.bX xs.length 0 lo=0/\HT.bX xs.length xs.length hi=xs.length)/\∀p,H p=none->Q (.ref p) (upd H p (.tup (vt xs lo hi)))
theorem Le:Gf X (RC X.K):=by
 intro j s y H x v C z lo hi E Q I m u pl pu h;obtain⟨a,xs,rfl,n,hw,q⟩:=h;cases m;obtain⟨i,r,l,hz⟩:=I.tuple n;have e:i.toArray.size=xs.length:=by rw[zbc];exact r.length.symm
 refine⟨"tuple",_,PyProof.Rows.slot_tuple_getitem.lookup,l.typeIs,?_⟩;refine HT.j7 l u pl pu (by rw[e];exact hw) ?_ (by rw[e];exact hz);rw[e];refine⟨.ref s.heap.objs.size,_,I.laid (t':=s.toks) (o:=.tup (vt xs lo hi)) (λb F q=>zar _ q) (zcS _) ?_,rfl,q _ (I.hok.fresh (zcS _))⟩;exact⟨zcH (lR xs lo hi) hz,_,(r.drop (HT.bX xs.length 0 lo)).take (HT.bX xs.length xs.length hi - HT.bX xs.length 0 lo),IsTup.new _ _⟩
def OP(K:yaM):R2:=λx y H Q=>∃a b xs ys,x=.ref a/\y=.ref b/\ee K H a xs/\ee K H b ys/\xs≠[]/\xs.length+ys.length<=yah/\
 (ys=[]->Q (.ref a) H)/\(ys≠[]->∀p,H p=none->Q (.ref p) (upd H p (.tup (xs++ys))))
theorem Vals.se{xs:List V}(r:Vals xs us):us=[]↔xs=[]:=by
 cases r with
 |nil=>simp
 |cons _ _=>simp
theorem Hq:fk X (binaryOp .Add) (OP X.K):=by
 intro j s U H x y v u Q I n m h;obtain⟨a,b,xs,ys,rfl,rfl,S,P,O,hz,C,q2⟩:=h;cases n;cases m;obtain⟨L,i,F,_⟩:=I.tuple S;obtain⟨l,e,E,_⟩:=I.tuple P;refine HT.IF F E (λz=>O (i.se.mp z)) (λz=>⟨.ref a,H,I,rfl,C (e.se.mp z)⟩) (λz=>?_) (by rw[<-i.length,<-e.length];exact hz);refine⟨.ref s.heap.objs.size,_,I.laid (t':=s.toks) (o:=.tup (xs++ys)) (λb W q=>zar _ q) (zcS _) ?_,rfl,q2 (λw=>z (e.se.mpr w)) _ (I.hok.fresh (zcS _))⟩;exact⟨by rw[zaO];exact hz,_,i.append e,IsTup.new _ _⟩
end
noncomputable def JW(n:Nat)(i:Int):Option Nat:=if 0<=i then(if i<n then some i.toNat else none) else if -(n:Int)<=i then some (i+n).toNat else none
noncomputable def ji{a:Type}(xs:List a)(i:Int):Option a:=(JW xs.length i).bind λj=>xs[j]?
theorem HL{i:Int}(h:JW n i=some j):seqIndex? i n=some j/\j<n/\-(n:Int)<=i/\i<n:=by
 unfold JW at h;by_cases a:0<=i
 ·rw[yIp a] at h;by_cases h1:i<n
  ·rw[yIp h1] at h;have e:i.toNat=j:=zcW.inj h;exact⟨by rw[seqIndex_of a h1,e],by lia,by lia,h1⟩
  ·rw[yIn h1] at h;cases h
 ·rw[yIn a] at h;by_cases h1: -(n:Int)<=i
  ·rw[yIp h1] at h;have e:(i+n).toNat=j:=zcW.inj h;exact⟨by rw[seqIndex_neg (by lia) h1,e],by lia,h1,by lia⟩
  ·rw[yIn h1] at h;cases h
theorem sM{a:Type}{xs:List a}{i:Int}{v:a}(h:ji xs i=some v):∃j,seqIndex? i xs.length=some j/\xs[j]? =some v/\j<xs.length/\-(xs.length:Int)<=i/\i<xs.length:=by
 unfold ji at h;cases e:JW xs.length i with
 |none=>rw[e] at h;cases h
 |some j=>
  rw[e] at h;obtain⟨h1,h2,m,l⟩:=HL e;exact⟨j,h1,h,h2,m,l⟩
theorem bU{a:Type}{xs:List a}{v:a}(h:xs[j]? =some v):ji xs (j:Int)=some v:=by
 have i:j<xs.length:=(zae.mp h).1;have e:JW xs.length (j:Int)=some j:=by
  unfold JW;rw[yIp (by simp),yIp (by lia)];simp
 unfold ji;rw[e];exact h
def kL(b:Expr):Prop:=∀o i,subscripted b false o i=operate [o,i] (getItem o i)
def B4(X:Cx)(r:R2):Prop:=
 ∀(i a:Expr)(e:List (Addr×Obj))(s:yai)(j:St)(H:Hp)(x y:V)(v u:yaj)(Q:VK),Inv X e j H s->RelV x v->RelV y u->r x y H Q->
  subscripted a false v u=operate [v,u] (getItem v u)->yas (model X.prog X.w) X.A (subscriptTail i a v u) (EP X e j Q) X.xe s
def FZ(X:Cx)(id:String)(r:V->List V->Hp->VK->Prop):Prop:=
 ∀(a:List (Addr×Obj))(s:yai)(e:St)(H:Hp)(x:V)(xs:List V)(v:yaj)(i:List yaj)(Q:VK),Inv X a e H s->RelV x v->Vals xs i->r x xs H Q->
  yas (model X.prog X.w) X.A (call (.builtin id) (v::i)) (EP X a e Q) X.xe s
section
variable {a b:Expr}{ta tb:TE}
theorem B4.or{r o:R2}(h:B4 X r)(h':B4 X o):B4 X (λx y H Q=>r x y H Q∨o x y H Q):=by
 intro e i j s l H x y v u Q I n m q z;rcases q with q|q
 ·exact h e i j s l H x y v u Q I n m q z
 ·exact h' e i j s l H x y v u Q I n m q z
theorem fS{r:R2}(o:B4 X r)(C:PE X a ta)(z:PE X b tb)(n:kL b):PE X (.Subscript a b pos) (AD r ta tb):=by
 intro e s i H Q I h;exact Subscript_ (Nf C z I h λv u j x y F E m l q=>o a b e j i F x y v u Q E m l q (n _ _))
def LM(K:yaM):R2:=λx y H Q=>∃p xs i v,x=.ref p/\y=.int i/\b9 K H p xs/\ji xs i=some v/\Q v H
def LL(K:yaM):R2:=λx y H Q=>∃p xs i v,x=.ref p/\y=.int i/\ee K H p xs/\ji xs i=some v/\Q v H
def OO:R2:=λx y H Q=>∃z i c,x=.str z/\y=.int i/\z.length<=yah/\ji z.cps.toList i=some c/\Q (.str ⟨#[c]⟩) H
theorem zP:B4 X (LM X.K):=by
 intro l m e s E H x y v u Q I U S h F;obtain⟨p,xs,i,z,rfl,rfl,W,Z,q⟩:=h;cases U;obtain⟨t,rfl⟩:=S;obtain⟨o,r,pl,hz⟩:=I.list W;obtain⟨j,h1,h2,h3,h4,h5⟩:=sM Z;obtain⟨w,O,n⟩:=r.get h2;have Y:=r.length;have hn:=oM;have fin:EP X e E Q w s:=⟨z,H,I,n,q⟩
 by_cases L:0<=i
 ·have C:i.toNat=j:=by
   rw[seqIndex_of L h5] at h1;exact zcW.inj h1
  exact item_listR pl.isList L (by lia) (by rw[C];simpa using O) fin F
 ·have C:(i+(o.toArray.size:Int)).toNat=j:=by
   rw[seqIndex_neg (by lia) h4] at h1;rw[zbc,<-Y];exact zcW.inj h1
  exact subscriptTail_builtinR (x:=w) pl.isList.typeIs slot_list_getitem.lookup
   (wpAny_getItem_list_neg (Q:=λr P=>r=w/\EP X e E Q r P) pl.isList (by lia) (by rw[zbc]<;>lia) (by lia) (by rw[C];simpa using O) ⟨rfl,fin⟩) F
theorem xQ:B4 X (LL X.K):=by
 intro l m e s o H x y v u Q I F E h O;obtain⟨p,xs,i,z,rfl,rfl,P,U,q⟩:=h;cases F;obtain⟨t,rfl⟩:=E;obtain⟨L,r,pl,hz⟩:=I.tuple P;obtain⟨j,h1,h2,h3,h4,Z⟩:=sM U;obtain⟨w,W,n⟩:=r.get h2;have S:=r.length;have Y:=oM;have fin:EP X e o Q w s:=⟨z,H,I,n,q⟩
 exact subscriptTail_builtinR (x:=w) pl.typeIs slot_tuple_getitem.lookup
  (getItem_tuple (j:=j) (Q:=λr C=>r=w/\EP X e o Q r C) pl (by lia) (by lia) (by rw[zbc,<-S];exact h1) (by simpa using W) ⟨rfl,fin⟩) O
theorem Mt:B4 X OO:=by
 intro e l m s U H x y v u Q I o n h C;obtain⟨z,i,c,rfl,rfl,hz,F,q⟩:=h;obtain⟨t,rfl⟩:=o;obtain⟨W,rfl⟩:=n;obtain⟨j,h1,h2,Z,O,L⟩:=sM F;have E:z.cps.toList.length=z.length:=by simp[Str.length]
 rw[E] at h1 O L;have Y:=oM;exact tail_any (typeIs_str s z t) slot_str_getitem.lookup (getItem_str (c:=c) (by
  have S:decide (i< -(2 ^ 63:Int))=false:=yDf (by lia);have P:decide (i≥2 ^ 63)=false:=yDf (by lia);rw[S,P,zcv]) (by rw[h1];simpa using h2) ⟨.str ⟨#[c]⟩,H,I.tok _,⟨_,rfl⟩,q⟩) C
def rIx(K:yaM):R2:=λx y H Q=>LM K x y H Q∨LL K x y H Q∨OO x y H Q
theorem Mu:B4 X (rIx X.K):=zP.or (xQ.or Mt)
theorem rJ(e j:Option Int)(n:Nat):(sliceBounds e j none n).1=((HT.bX n 0 e:Nat):Int)/\(sliceBounds e j none n).2.1=((HT.bX n n j:Nat):Int)/\(sliceBounds e j none n).2.2=1:=by
 refine⟨?_,?_,rfl⟩
 ·cases e with
  |none=>simp[sliceBounds,HT.bX]
  |some i=>
   simp only[sliceBounds,HT.bX,Option.getD_none,show(1:Int)> 0 by decide,if_true];by_cases h:i<0
   ·simp only[h,if_true]<;>lia
   ·simp only[h,if_false]<;>lia
 ·cases j with
  |none=>simp[sliceBounds,HT.bX]
  |some i=>
   simp only[sliceBounds,HT.bX,Option.getD_none,show(1:Int)> 0 by decide,if_true];by_cases h:i<0
   ·simp only[h,if_true]<;>lia
   ·simp only[h,if_false]<;>lia
theorem pU(its:List yaj)(e i:Option Int):slicePick its.toArray e i none=((its.drop (HT.bX its.length 0 e)).take (HT.bX its.length its.length i - HT.bX its.length 0 e)).toArray:=by
 obtain⟨h1,h2,j⟩:=rJ e i its.toArray.size;unfold slicePick;rw[h1,h2,j];simp only[sliceRange_one,pick_run,zbc]<;>rfl
def RD(K:yaM):V->Option Int->Option Int->Hp->VK->Prop:=λx e i H Q=>∃a xs,x=.ref a/\b9 K H a xs/\∀p,H p=none->Q (.ref p) (upd H p (.lst (vt xs e i)))
theorem Gs:Gf X (RD X.K):=by
 intro l s C H x v F E i j L Q I n z pl pu h;obtain⟨a,xs,rfl,y,q⟩:=h;cases n;obtain⟨u,r,m,hz⟩:=I.list y;have e:=r.length;refine⟨"list",_,slot_list_getitem.lookup,m.isList.typeIs,?_⟩;refine wpAny_getItem_list_slice m.isList z pl pu .none (by simp) ?_ (by rw[zbc]<;>lia);rw[pU,<-e];refine⟨.ref s.heap.objs.size,_,I.laid (t':=s.toks) (o:=.lst (vt xs i j)) (λb O q=>zar _ q) (zcS _) ?_,rfl,q _ (I.hok.fresh (zcS _))⟩;exact⟨zcH (lR xs i j) hz,_,0,(r.drop (HT.bX xs.length 0 i)).take (HT.bX xs.length xs.length j - HT.bX xs.length 0 i),zaM _ rfl⟩
noncomputable def lO:V->Bool
 |.aY=>true
 |.bl _=>true
 |.int _=>true
 |.str _=>true
 |_=>false
noncomputable def J4:V->V->Bool
 |.aY,.aY=>true
 |.bl a,.bl b=>a==b
 |.bl a,.int b=>(if a then 1 else 0)==b
 |.int a,.bl b=>a==(if b then 1 else 0)
 |.int a,.int b=>a==b
 |.str a,.str b=>a==b
 |_,_=>false
theorem MD{y x:V}{v:yaj}(j:RelV y u)(e:RelV x v)(m:lO y=true)(l:lO x=true):SeqAt.EqAt A s u v (J4 y x):=by
 cases y with
 |aY=>
  cases j;cases x with
  |aY=>cases e;exact SeqAt.EqAt.same _
  |bl b=>cases e;exact SeqAt.EqAt.none_bool b
  |int b=>obtain⟨t,rfl⟩:=e;exact SeqAt.EqAt.none_int b t
  |str b=>obtain⟨t,rfl⟩:=e;exact SeqAt.EqAt.none_str b t
  |_=>exact absurd (show false=true from l) zaX
 |bl a=>
  cases j;cases x with
  |aY=>cases e;exact SeqAt.EqAt.bool_none a
  |bl b=>cases e;exact SeqAt.EqAt.bool_bool a b
  |int b=>obtain⟨t,rfl⟩:=e;exact SeqAt.EqAt.bool_int a b t
  |str b=>obtain⟨t,rfl⟩:=e;exact SeqAt.EqAt.bool_str a b t
  |_=>exact absurd (show false=true from l) zaX
 |int a=>
  obtain⟨i,rfl⟩:=j;cases x with
  |aY=>cases e;exact SeqAt.EqAt.int_none a i
  |bl b=>cases e;exact SeqAt.EqAt.int_bool a i b
  |int b=>obtain⟨t,rfl⟩:=e;exact SeqAt.EqAt.int_int a i b t
  |str b=>obtain⟨t,rfl⟩:=e;exact SeqAt.EqAt.int_str a i b t
  |_=>exact absurd (show false=true from l) zaX
 |str a=>
  obtain⟨i,rfl⟩:=j;cases x with
  |aY=>cases e;exact SeqAt.EqAt.str_none a i
  |bl b=>cases e;exact SeqAt.EqAt.str_bool a i b
  |int b=>obtain⟨t,rfl⟩:=e;exact SeqAt.EqAt.str_int a i b t
  |str b=>obtain⟨t,rfl⟩:=e;exact SeqAt.EqAt.str_str a i b t
  |_=>exact absurd (show false=true from l) zaX
 |_=>exact absurd (show false=true from m) zaX
noncomputable def Ig(x:V)(u:yaj):Bool:=match u with
 |.none=>J4 .aY x
 |.bool b=>J4 (.bl b) x
 |.int i _=>J4 (.int i) x
 |.str z _=>J4 (.str z) x
 |_=>false
theorem EH{x y:V}(r:RelV y u)(f:lO y=true):Ig x u=J4 y x:=by
 cases y with
 |aY=>cases r;rfl
 |bl b=>cases r;rfl
 |int i=>obtain⟨t,rfl⟩:=r;rfl
 |str z=>obtain⟨t,rfl⟩:=r;rfl
 |_=>exact absurd (show false=true from f) zaX
theorem sO{x:V}:∀{xs:List V}{us:List yaj},Vals xs us->xs.all lO=true->us.any (Ig x)=xs.any λy=>J4 y x
 |_,_,.nil,_=>rfl
 |y::xs,u::us,.cons r t,f=>by
  rw[zcq,zbH] at f;rw[zcp,zcp,EH r f.1,sO t f.2]
theorem oG{A:yam}{s:yai}{x:V}{v:yaj}(i:RelV x v)(j:lO x=true):∀{xs:List V}{us:List yaj},Vals xs us->xs.all lO=true->∀u∈us,SeqAt.EqAt A s u v (Ig x u)
 |_,_,.nil,_=>λu e=>by cases e
 |y::xs,u::us,.cons r t,f=>λl e=>by
  rw[zcq,zbH] at f;rcases zcn.mp e with rfl|e
  ·rw[EH r f.1];exact MD r i f.1 j
  ·exact oG i j t f.2 l e
noncomputable def R4(x:V)(xs:List V):Bool:=xs.any λy=>J4 y x
def SR(K:yaM)(e:Bool):R2:=λx y H Q=>∃p xs,y=.ref p/\(b9 K H p xs∨ee K H p xs)/\lO x=true/\xs.all lO=true/\Q (.bl (if e then !R4 x xs else R4 x xs)) H
theorem Bb:fk X (yao .In) (SR X.K false):=by
 intro l s o H x y v u Q I j n h;obtain⟨p,xs,rfl,i,m,fs,q⟩:=h;cases n;rcases i with i|i
 ·obtain⟨e,r,pl,hz⟩:=I.list i;refine SeqAt.in_listAt (Ig x) pl.isList (λw hw=>oG j m r fs w (by simpa using hw)) ⟨.bl _,H,I,rfl,?_⟩;rw[show e.toArray.any (Ig x)=e.any (Ig x) by simp,sO r fs];exact q
 ·obtain⟨e,r,pl,hz⟩:=I.tuple i;refine SeqAt.in_tupleAt (Ig x) pl (λw hw=>oG j m r fs w (by simpa using hw)) ⟨.bl _,H,I,rfl,?_⟩;rw[show e.toArray.any (Ig x)=e.any (Ig x) by simp,sO r fs];exact q
theorem sJ:bN X (.type "list") (λxs H Q=>∃p ys,xs=[.ref p]/\(b9 X.K H p ys∨ee X.K H p ys)/\∀l,H l=none->Q (.ref l) (upd H l (.lst ys))):=by
 intro z s P H xs U Q I r h;obtain⟨p,ys,rfl,C,q⟩:=h;obtain⟨u,rfl,S⟩:=vals1 r;cases S;have fin:∀(i:List yaj),Vals ys i->ys.length<=yah->∀(j:Heap)(y:Nat),(∀b O,s.heap.get? b=some O->j.get? b=some O)->
   j.get? s.heap.objs.size=some {cls:=.type "list",dict:=none,data:=.seq i.toArray y,slots:=#[]}->EP X z P Q (.ref s.heap.objs.size) {s with heap:=j}:=λi m hz j y kp e=>
  ⟨.ref s.heap.objs.size,_,I.laid (t':=s.toks) kp (zcS _) (show aW X.prog X.w _ j _ (.lst ys) from⟨hz,i,y,m,e⟩),rfl,q _ (I.hok.fresh (zcS _))⟩
 rcases C with C|C
 ·obtain⟨i,m,pl,hz⟩:=I.list C;have E:=m.length;obtain⟨o,F,L,n,hd⟩:=pl.isList;exact call_list_seq p (.inl rfl) F L hd (λj y kp e=>fin i m hz j y kp e) (by simp only[zbc]<;>lia)
 ·obtain⟨i,m,pl,hz⟩:=I.tuple C;have E:=m.length;obtain⟨o,F,L,n,hd⟩:=pl;exact call_list_seq p (.inr rfl) F L hd (λj y kp e=>fin i m hz j y kp e) (by simp only[zbc]<;>lia)
theorem p7:bN X (.type "tuple") (λxs H Q=>∃p ys,xs=[.ref p]/\((b9 X.K H p ys/\∀l,H l=none->Q (.ref l) (upd H l (.tup ys)))∨(ee X.K H p ys/\Q (.ref p) H))):=by
 intro i s z H xs O Q I r h;obtain⟨p,ys,rfl,h⟩:=h;obtain⟨u,rfl,F⟩:=vals1 r;cases F;rcases h with⟨y,q⟩|⟨y,q⟩
 ·obtain⟨j,n,pl,hz⟩:=I.list y;have C:=n.length;refine call_tuple_list pl.isList (λm kp=>?_) (by simp only[zbc]<;>lia);have E:Inv X i z H {s with heap:=m}:=I.kept (t':=s.toks) kp;have L:Inv X i z (upd H m.objs.size (.tup ys)) {s with heap:=m.push {cls:=.type "tuple",data:=.seq j.toArray}}:=
   E.laid (t':=s.toks) (λb o e=>zar _ e) (zcS _) (show aW X.prog X.w _ _ _ (.tup ys) from⟨hz,j,n,IsTup.new _ _⟩)
  exact⟨.ref m.objs.size,_,L,rfl,q _ (E.hok.fresh (zcS _))⟩
 ·obtain⟨j,n,pl,hz⟩:=I.tuple y;exact call_tuple_same pl ⟨.ref p,H,I,rfl,q⟩
def Rb(K:yaM)(T:String)(x:V)(H:Hp):Prop:=match x with
 |.str _=>T="str"
 |.int _=>T="int"
 |.ref p=>(T="list"/\∃xs,b9 K H p xs)∨(T="tuple"/\∃o,K.lookup p=some o/\o.cls=.type "tuple"/\o.dict=none)∨
   (T="dict"/\((∃e,H p=some (.dK e))∨∃e,H p=some (.dT e)))∨(T="set"/\∃S n,H p=some (.set S n))
 |_=>False
theorem Cj{T:String}{x:V}{v:yaj}(I:Inv X pins σ H s)(r:RelV x v)(ty:Rb X.K T x H):
  s.TypeIs v T/\∀a,v=.ref a->∃ob,s.heap.get? a=some ob/\ob.dict=none:=by
 cases x with
 |str z=>
  obtain⟨t,rfl⟩:=r;cases(show T="str" from ty);exact⟨typeIs_str s z t,λ_ e=>nomatch e⟩
 |int i=>
  obtain⟨t,rfl⟩:=r;cases(show T="int" from ty);exact⟨typeIs_int s i t,λ_ e=>nomatch e⟩
 |ref p=>
  cases r;rcases ty with⟨rfl,xs,u⟩|⟨rfl,o,j,y,hd⟩|⟨rfl,j⟩|⟨rfl,S,n,j⟩
  ·obtain⟨q,_,pl,_⟩:=I.list u;refine⟨pl.isList.typeIs,λa e=>?_⟩;cases e;obtain⟨o,n,e,c,hd,_⟩:=pl;exact⟨o,e,hd⟩
  ·refine⟨⟨o,I.fE p o j,y⟩,λa e=>?_⟩;cases e;exact⟨o,I.fE _ o j,hd⟩
  ·have z:∃o,s.heap.get? p=some o/\o.ExactDict:=by
    rcases j with⟨l,j⟩|⟨l,j⟩
    ·obtain⟨_,_,_,_,o,_,_,e,ex,_⟩:=I.hok p _ j;exact⟨o,e,ex⟩
    ·obtain⟨_,_,_,_,o,_,_,e,ex,_⟩:=I.hok p _ j;exact⟨o,e,ex⟩
   obtain⟨o,e,ex⟩:=z;refine⟨⟨o,e,ex.1⟩,λa m=>?_⟩;cases m;exact⟨o,e,ex.2.1⟩
  ·obtain⟨o,_,_,_,e,ex,_⟩:=I.hok p _ j;refine⟨⟨o,e,ex.1⟩,λa m=>?_⟩;cases m;exact⟨o,e,ex.2.1⟩
 |_=>exact False.elim ty
def QI(K:yaM)(T:String)(r:V->List V->Hp->VK->Prop)(j:TE)(t:TA):TE:=λe H Q=>j e H λx i=>Rb K T x i/\t e i λxs l=>r x xs l Q
variable {o:Expr}{to:TE}{t:TA}{name:Str}{T id:String}
theorem dg(W:PlainAttrs T)(slot:Slot T name id)(y:typeOf (.builtin id)=pure (.type "method_descriptor"))(hm:FZ X id r)(Z:PE X o to)(ha:PA X (e::es) t)(n:autoParam (attributeBase o name X.env (eval o X.env)=eval o X.env) r0)(q:autoParam (((yav cpos (yap (e::es) X.env)).all (λx=>!x.1)&&(yaH cpos (yaG [] X.env)).all (λx=>x.1.isSome)&&decide ((e::es).length+([]:List Keyword).length+(if([]:List Keyword).isEmpty then 0 else 1)<30))=true) r0)(m:autoParam ((apos.endLine==cpos.line)=true) r0)(Y:autoParam (yap (e::es) X.env=(false,eval e X.env)::yap es X.env) r0)(j:autoParam ((yav cpos (yap es X.env)).any (·.1)=false) r0):
  PE X (.Call (.Attribute o name apos) (e::es) [] cpos) (QI X.K T r to t):=by
 intro i s u H Q I h;refine wpAny_Call_method_late n q m rfl (bS (Z i s u H _ I h) λv P l=>?_);obtain⟨x,H1,E,z,ty,U⟩:=l;obtain⟨h1,h2⟩:=Cj E z ty;refine⟨T,id,W,slot,y,h1,h2,?_⟩;have C:=ha cpos i P u H1 _ E U;rw[Y] at C⊢;refine Calls.callWith_builtin (by show(false||(yav cpos (yap es X.env)).any (·.1))=false;rw[j]<;>rfl) (Calls.evalArgs_plain ?_);refine bS C λL O l=>?_;obtain⟨F,H2,I2,S,q2⟩:=l;exact hm i O u H2 x F v L Q I2 z S q2
end
def MtM(X:Cx)(id:String)(r:V->List V->Hp->VK->Prop):Prop:=
 ∀(a:List (Addr×Obj))(s:yai)(e:St)(H:Hp)(x:V)(xs:List V)(v:yaj)(i:List yaj)(Q:VK),Inv X a e H s->RelV x v->Vals xs i->r x xs H Q->
  yas (model X.prog X.w) X.A (call (.builtin id) (v::i)) (EP X a e Q) X.xe s
theorem Vals.one:∀{x:V}{us:List yaj},Vals [x] us->∃u,us=[u]/\RelV x u:=by
 intro x us h;cases h with
 |cons r t=>cases t;exact⟨_,rfl,r⟩
theorem Vals.rep{xs:List V}(h:Vals xs us):∀k:Nat,Vals (zce k xs).flatten (zce k us).flatten
 |0=>.nil
 |k+1=>by
  rw[zaH,zaH,zbf,zbf];exact Vals.append h (Vals.rep h k)
theorem foldl_rep(its:List yaj):∀(k:Nat)(a:List yaj),
  List.foldl (λx1 i=>x1++i) a.toArray (zce k its.toArray)=(a++(zce k its).flatten).toArray
 |0,a=>by simp
 |k+1,a=>by
  have e:a.toArray++its.toArray=(a++its).toArray:=by simp
  have j:(a++its)++(zce k its).flatten=a++(zce (k+1) its).flatten:=by
   rw[zaH,zbf,zbg]
  rw[<-j,<-foldl_rep its k (a++its),<-e,zaH,List.foldl_cons]
section
variable {l b:Addr}{xs ys zs:List V}
theorem Inv.RY{its its':List yaj}{f:Array yaj->Array yaj}(I:Inv X pins σ H s)(o:H l=some (.lst xs))(e:s.heap.get? l=some {cls:=.type "list",data:=.seq its.toArray n})(j:f its.toArray=its'.toArray)(a:Vals ys its')(hz:ys.length<=yah):
  Inv X pins σ (upd H l (.lst ys)) {s with heap:=s.heap.update l (Obj.mapSeq f),toks:=t'}:=by
 have q:=PySem.IsL.update e f;rw[j] at q;refine I.write (x:=l) (e:=l) (by rw[o];exact trivial) (.inl rfl) (λy u m i=>(zas s.heap (Obj.mapSeq f) (Ne.symm m)).trans i) ⟨_,q⟩ ?_;exact⟨hz,its',_,a,q⟩
theorem Inv.Pe{its:List yaj}(I:Inv X pins σ H s)(a:Vals ys its)(hz:ys.length<=yah):
  Inv X pins σ (upd H s.heap.objs.size (.lst ys)) {s with heap:=s.heap.push {cls:=.type "list",data:=.seq its.toArray},toks:=t'}:=
 I.laid (λ_ _ q=>zar _ q) (zcS _) ⟨hz,its,0,a,zaM _ rfl⟩
theorem Inv.fresh(I:Inv X pins σ H s):H s.heap.objs.size=none:=I.hok.fresh (zcS _)
theorem Inv.HG(I:Inv X pins σ H s)(a:H l=some (.lst xs)):xs.length<=yah/\∃(its:List yaj)(n:Nat),Vals xs its/\xs.length=its.length/\s.heap.get? l=some {cls:=.type "list",data:=.seq its.toArray n}:=by
 obtain⟨z,its,n,r,e⟩:=I.hok l _ a;exact⟨z,its,n,r,r.length,e⟩
theorem DT(h:n<=yah):Builtin.List.listTooLong n=false:=by
 unfold Builtin.List.listTooLong;exact yDf (by lia)
end
def zu:V->List V->Hp->VK->Prop:=λx a H Q=>∃l xs y,x=.ref l/\a=[y]/\H l=some (.lst xs)/\xs.length<yah/\Q .aY (upd H l (.lst (xs++[y])))
theorem Bk:MtM X "list.append" zu:=by
 intro i s C H x E v L Q I m o h;obtain⟨l,xs,y,rfl,rfl,j,hz,q⟩:=h;cases m;obtain⟨u,rfl,ru⟩:=o.one;obtain⟨z,a,n,r,O,e⟩:=I.HG j;refine call_meets F.slot_list_append ⟨_,e,rfl⟩ F.entry_list_append (F.args_list_append_2 _ _) (PySem.list_append l a.toArray n u (by rw[zbc];lia)) ⟨e,?_⟩;refine⟨.aY,_,I.RY (its':=a++[u]) j e (by simp) (r.append (.cons ru .nil)) ?_,rfl,q⟩;rw[zaO,List.length_singleton];assumption
def RP:R2:=λx y H Q=>∃l b xs a,x=.ref l/\y=.ref b/\H l=some (.lst xs)/\H b=some (.lst a)/\xs.length+a.length<=yah/\∀p,H p=none->Q (.ref p) (upd H p (.lst (xs++a)))
theorem kX:fk X (binaryOp .Add) RP:=by
 intro j s U H x y v u Q I o m h;obtain⟨l,b,xs,W,rfl,rfl,F,L,hz,q⟩:=h;cases o;cases m;obtain⟨z,i,n,r,Z,e⟩:=I.HG F;obtain⟨Y,a,n2,C,E,S⟩:=I.HG L;refine PySem.P.add_list e S ?_ (by rw[zbc,zbc];lia);have O:i.toArray++a.toArray=(i++a).toArray:=by simp
 rw[O];exact⟨.ref _,_,I.Pe (t':=s.toks) (r.append C) (by rw[zaO];omega),rfl,q _ I.fresh⟩
def RE:R2:=λx y H Q=>∃l k xs,x=.ref l/\y=.int k/\H l=some (.lst xs)/\-(2 ^ 63)<=k/\k<2 ^ 63/\xs.length*k.toNat<=yah/\
 ∀p,H p=none->Q (.ref p) (upd H p (.lst (zce k.toNat xs).flatten))
theorem len_rep{a:Type}(xs:List a)(k:Nat):(zce k xs).flatten.length=k*xs.length:=by
 induction k with
 |zero=>simp
 |succ k ih=>rw[zaH,zbf,zaO,ih,Nat.succ_mul,Nat.add_comm]
theorem LW:fk X (binaryOp .Mult) RE:=by
 intro O s σ H x y v u Q I W S h;obtain⟨l,k,xs,rfl,rfl,Z,h1,h2,hz,q⟩:=h;cases W;obtain⟨t,rfl⟩:=S;obtain⟨z,i,n,r,Y,e⟩:=I.HG Z;have o:i.toArray.size*k.toNat<=yah:=by rw[zbc,<-Y];exact hz
 have E:¬i.toArray.size*k.toNat> (2 ^ 63 - 1) / 8:=by
  have:(yah:Nat)<=(2 ^ 63 - 1) / 8:=by decide
  lia
 have C:¬(!Builtin.List.listFitsIndex k)=true:=by
  rw[fitsIndex_both h1 h2];exact zaX
 have Pp:¬Builtin.List.listTooLong (i.toArray.size*k.toNat)=true:=by
  rw[DT o];exact zaX
 have j:List.foldl (λx1 L=>x1++L) #[] (zce (if i.toArray.isEmpty=true then 0 else k.toNat) i.toArray)=(zce k.toNat i).flatten.toArray:=by
  have f0:∀m:Nat,List.foldl (λx1 L=>x1++L) #[] (zce m i.toArray)=(zce m i).flatten.toArray:=λm=>by
   have:=foldl_rep i m [];rw[zbT] at this;exact this
  rw[f0];cases i with
  |nil=>simp
  |cons a r'=>rw[yIn (by simp)]
 refine wpAny_binaryOp_repeat_ref (T:="list") (U:="int") (by decide) ⟨_,e,rfl⟩ (λP=>typeIs_int P k t) noFill_list_mul F.fills_int_mul F.slot_int_rmul repeat_list F.slot_int_index.lookup
  (call_meets F.slot_int_rmul (typeIs_int s k t) F.entry_int_rmul (F.args_int_rmul_2 _ _) (int___rmul___int_list k t l i.toArray n) ⟨e,rfl,⟨_,e,rfl⟩,call_meets F.slot_list_mul ⟨_,e,rfl⟩ F.entry_list_mul (F.args_list_mul_2 _ _) (AutoListH.list___mul___list_int_3 l i.toArray n k t C E Pp) ⟨e,?_⟩⟩)
 rw[j];exact⟨.ref _,_,I.Pe (t':=s.toks) (r.rep k.toNat) (by rw[len_rep,Nat.mul_comm];exact hz),rfl,q _ I.fresh⟩
end L2
namespace Att
open PySem PySem.W PySem.Calls PyProof.Rows
theorem lZ{P:Params}{h:Heap}:∀(ns:List Int)(vs:List yaj),WellAll P h vs (ns.map WData.int)->IntsAre vs ns:=by
 intro ns
 induction ns with
 |nil=>
  intro vs w;rw[zcB] at w;cases w;exact .nil
 |cons n ns ih=>
  intro vs w;rw[zco] at w;cases w with
  |cons a b=>
   cases a;exact .cons _ _ (ih _ b)
theorem AQ{l:OpenLaw}(E:l.most=some n){P:Params}{h:Heap}{args:List WData}{e:List yaj}(i:l.row.toRowW.claim.pre args=true)(u:WellAll P h e args):
  ∃a vs ns,e=[Value.ref a]/\args=[WData.list (ns.map WData.int)]/\h.get? a=some {cls:=.type "list",data:=.seq vs.toArray}/\IntsAre vs ns/\ns.length<=n:=by
 have y:WShape.hasAll [] args [.list .int]=true:=(pre_splitW i).1;have z:l.pre.holds [] {args:=args}=true:=(pre_splitW i).2;obtain⟨d,r,rfl,h1,h2⟩:=hasAllW_cons y;obtain rfl:=hasAllW_nil h2;obtain⟨xs,rfl,F⟩:=hasW_list h1;obtain⟨ns,rfl⟩:=items_int F;have j:ns.length<=n:=by
  unfold OpenLaw.pre at z;have o:(WTm.not (.lt (.lit (.int (n:Int))) (.len (.arg 0)))).holds [] {args:=[.list (ns.map .int)]}=true:=by
   have o:=(holds_andW z).1;rw[E] at o;exact o
  have m:=condW_of o (w_not (w_lt w_lit (w_len_list (w_arg rfl))));rw[zbN] at m;refine Nat.le_of_not_lt λq=>?_;have C:(n:Int)<((ns.length:Nat):Int):=by omega
  first
   |(rw[yDt C] at m;exact absurd m (by decide))
   |(simp at m;lia)
 cases u with
 |cons w1 w2=>
  cases w2;cases w1 with
  |list ho hall=>exact⟨_,_,ns,rfl,rfl,ho,lZ ns _ hall,j⟩
theorem AX(l:OpenLaw)(args:List WData):l.row.toRowW.claim.post args (.bool true) args=true:=
 postW_of (r:=l.row.toRowW) (X:=(true==true))
  (show WShape.has [] (.bool true) .bool=true by first|rfl|decide|simp[WShape.has,WShape.arms,WShape.armsAll])
  (show(WTm.eq .res (.lit (.bool true))).value [] {args:=args,res:=some (.bool true),after:=args}=some (.bool (true==true)) from w_eq_bool (w_res rfl) w_lit) rfl
theorem vN{l:OpenLaw}{q:yak}{d:DefRec}(Z:l.most=some n)(I:d.params.defaults=[])(call:∀(w:yal)(s₀ e:yai)(mg mb:Str->Option yaj)(z:Addr)(o:Obj)(E C j:yaj)(a:Addr)(vs:List yaj)(ns:List Int),Ground q loose [] XP w s₀ mg mb e.heap->YP w e.heap->e.heap.get? z=some o->o.data=.func (docDef d.name d.params d.body d.scope E C j)->e.heap.CodeRec C d.name->mg d.name=some (.ref z)->e.heap.get? a=some {cls:=.type "list",data:=.seq vs.toArray}->IntsAre vs ns->ns.length<=n->e.gens=#[]->codeAny (model l.prog w) callerA (.call (.ref z) ⟨[.ref a],[]⟩) (λr s'=>r=.ok (.ret (.bool true))/\OldK e.heap s'.heap/\s'.os=e.os/\AllBare s'.gens) e):
  WalkO q loose XP YP l.row.toRowW d [] (λf vs=>PySem.call f vs):=by
 intro w s₀ e mg mb G Y z o E C j dV kV X hd L Q H hg S O as m P U F hlo;obtain rfl:dV=.none:=Dflts.none Q I;obtain rfl:kV=.none:=Dflts.noKw Q;obtain⟨a,vs,ns,rfl,rfl,u,i,y⟩:=AQ Z m F;refine enter_call (yay (call w s₀ e mg mb z o E C j a vs ns G Y X (fd_plain hd) L H u i y hg) λr s' W=>?_);obtain⟨rfl,h2,h3,h4⟩:=W;exact⟨.inl ⟨.bool true,.bool true,[],rfl,λ_=>rfl,.bool true,AX l _,λ_=>⟨List.Pairwise.nil,λ_ hm=>(nomatch hm)⟩⟩,h2,h3,h4⟩
end Att
namespace L2
open PySem PySem.Spec PyProof.Rows
theorem qb:∀{vs:List yaj}{ns:List Int},IntsAre vs ns->Vals (ns.map V.int) vs:=by
 intro vs ns h
 induction h with
 |nil=>exact .nil
 |cons n t h ih=>exact .cons ⟨t,rfl⟩ ih
def NH(H:Hp):Prop:=∀b,H b=none∨∃o xs,H b=some (.zX o (.lst xs))
theorem Ei{w:yal}{mb:Str->Option yaj}{k:Nat}{fa:Addr}{i:yai}{vs:List yaj}(KX:K.In i.heap)(L:i.heap.Ns yar mg)(j:i.heap.Ns builtinsNs mb)(hbb:∀x:Str,x≠"__name__"->mb x=bootBuiltins x)(O:i.heap.NoLimit)(hg:i.gens=#[])(W:i.heap.get? a=some {cls:=.type "list",data:=.seq vs.toArray})(hi:IntsAre vs ns)(hl:ns.length<=yah)(hr:aR k callerA)(F:∀base:Heap,K.In base->base.Ns yar mg->bL P w K mg base CX k fa fd [x] sp)(C:∀(s:yai)(u:yaj),yaD s fd ⟨[u],[]⟩ [(x,u)])(Y:∀H:Hp,NH H->b9 K H a (ns.map V.int)->sp [.ref a] H (λv _=>v=.bl true) λ_ _ _=>False)(hCX:∀H e s',CX [] H i (λ_ _ _=>False) e s'->False):
  codeAny (model P w) callerA (.call (.ref fa) ⟨[.ref a],[]⟩) (λr s'=>r=.ok (.ret (.bool true))/\OldK i.heap s'.heap/\s'.os=i.os/\AllBare s'.gens) i:=by
 have rv:=qb hi;have RZ:=hi.length;have y:∀H:Hp,NH H->b9 K H a (ns.map V.int)->gg P w H i.heap->(∀b,H b≠none->b=a)->(H a≠none->K.lookup a=none)->
   codeAny (model P w) callerA (.call (.ref fa) ⟨[.ref a],[]⟩) (λr s'=>r=.ok (.ret (.bool true))/\OldK i.heap s'.heap/\s'.os=i.os/\AllBare s'.gens) i:=by
  intro H hO hS hok hA hK;have Ah:∀{b:Addr}{o:Obj},i.heap.get? b=some o->H b=none->(sA i.heap H).get? b=some o:=λe n=>Er e n;have X:∀{b:Addr}{o:Obj}{S:Array yaw}{U:Nat},i.heap.get? b=some o->o.data=.dict S U->H b=none:=λ{b o S U} e d=>by
   cases q:H b with
   |none=>rfl
   |some u=>
    have e':b=a:=hA b (by rw[q];simp);subst e';rw[W] at e;cases e;have d':Data.seq vs.toArray _=Data.dict S U:=d;cases d'
  have l:∀{b:Addr}{m:Str->Option yaj},i.heap.Ns b m->(sA i.heap H).Ns b m:=λ{b m} ⟨o,S,U,e,d,r⟩=>⟨o,S,U,Ah e (X e d),d,r⟩
  have Q:K.In (sA i.heap H):=λb o e=>Ah (KX b o e) (by
   cases q:H b with
   |none=>rfl
   |some u=>
    have e':b=a:=hA b (by rw[q];simp);subst e';rw[hK (by rw[q];simp)] at e;cases e)
  have hM:Mod K mg (sA i.heap H):=⟨Q,l L,⟨mb,l j,hbb⟩,by obtain⟨mc,h1,h2⟩:=O;exact⟨mc,l h1,h2⟩⟩
  have e0:tG P w K mg (sA i.heap H) callerA [] i H:=⟨rfl,hM,λb o e=>Ht e,Nat.le_of_eq (Bv _ _),trivial,λb j=>absurd (show b∈([]:List Addr) from j) (by simp),hok,.of_eq hg⟩
  refine yay ((F _ Q (l L)).run callerA [] i H ⟨[.ref a],[]⟩ [.ref a] [.ref a] _ _ hr e0 (C i (.ref a)) (.cons rfl .nil) (Y H hO hS)) λr s' h=>?_;cases r with
  |error e=>exact(hCX H e s' h).elim
  |ok fl=>
   cases fl with
   |next=>exact False.elim h
   |brk=>exact False.elim h
   |cont=>exact False.elim h
   |ret u=>
    obtain⟨v,H',os,bare,un,I,r',q⟩:=h;have q':v=.bl true:=q;subst q';obtain rfl:u=Value.bool true:=r';refine⟨rfl,OldK.of_keep λb o e=>?_,os,bare⟩;cases q:H b with
    |none=>exact un.keep b o e q (by intro z;exact absurd (show b∈([]:List Addr) from z) (by simp)) (by simp)
    |some u=>
     rcases hO b with z|⟨ob,xs,z⟩
     ·rw[q] at z;cases z
     ·have z2:=un.oY b ob _ z;obtain⟨e1,_⟩:=hok b _ z;obtain⟨e2,_⟩:=I b _ z2;rw[e] at e1;cases e1;exact e2
 cases Z:K.lookup a with
 |some o=>
  have e:=KX a o Z;rw[W] at e;cases e;refine y (λ_=>none) (λ_=>.inl rfl) (.inr ⟨_,vs.toArray,_,Z,rfl,rfl,rfl,by rw[zbc,RZ];exact hl,by simpa using rv⟩) (λb u z=>by have E:(none:Option HO)=some u:=z;cases E) (λb z=>absurd rfl z) λz=>absurd rfl z
 |none=>
  refine y (λb=>if b=a then some (.zX {cls:=.type "list",data:=.seq vs.toArray} (.lst (ns.map V.int))) else none) (λb=>?_) (.inl (.inr ⟨{cls:=.type "list",data:=.seq vs.toArray},yIp rfl⟩)) (λb u z=>?_) (λb z=>?_) λ_=>Z
  ·by_cases j:b=a
   ·exact .inr ⟨_,_,yIp j⟩
   ·exact .inl (yIn j)
  ·by_cases j:b=a
   ·have E:=(yIp j).symm.trans z;cases E;subst j;exact⟨W,by rw[zbN];exact hl,vs,_,rv,W⟩
   ·have E:=(yIn j).symm.trans z;cases E
  ·by_cases j:b=a
   ·exact j
   ·exact absurd (yIn j) z
theorem Gi{l:PySem.W.OpenLaw}{k:Nat}{q:yak}{d:DefRec}{K:Params->yaM}{CX:yal->wA}{sp:yal->Sp}(S:l.most=some n)(E:n<=yah)(L:d.params.defaults=[])(Q:aR k callerA)(hY:∀(w:yal)(h:Heap),YP w h->(K w.params).In h)(F:∀(w:yal)(mg:Str->Option yaj)(z:Addr)(h:Heap),(K w.params).In h->h.Ns yar mg->mg d.name=some (.ref z)->∃fd:yaq,(∀(s:yai)(u:yaj),yaD s fd ⟨[u],[]⟩ [(x,u)])/\∀base:Heap,(K w.params).In base->base.Ns yar mg->bL l.prog w (K w.params) mg base (CX w) k z fd [x] (sp w))(C:∀(w:yal)(H:Hp)(a:Addr)(ns:List Int),ns.length<=n->NH H->b9 (K w.params) H a (ns.map V.int)->sp w [.ref a] H (λv _=>v=.bl true) λ_ _ _=>False)(O:∀(w:yal)(H:Hp)(s:yai)(e:yaj)(s':yai),CX w [] H s (λ_ _ _=>False) e s'->False):
  PySem.W.WalkO q loose XP YP l.row.toRowW d [] (λf vs=>PySem.call f vs):=by
 refine Att.vN S L λw s₀ m mg mb z o pm cd doc a vs ns G Y ho hd X I y j i U=>?_;have P:=hY w _ Y;obtain⟨fd,Z,hF⟩:=F w mg z _ P G.T.g I;exact Ei P G.T.g G.T.b G.T.builtins G.T.nolimit U y j (zcH i E) Q hF Z (λH hO hS=>C w H a ns i hO hS) λH e s'=>O w H m e s'
noncomputable def inClass(s:Stmt)(j:Nat):Stmt:=match s with
 |.ClassDef _ _ _ body _ _ _ _ _ _ _=>body.getD j (.Pass ⟨0,0,0,0⟩)
 |_=>.Pass ⟨0,0,0,0⟩
noncomputable def cI(s:Stmt):Arguments:=match s with
 |.FunctionDef _ a _ _ _ _ _ _ _ _=>a
 |_=>{posonlyargs:=[],args:=[],vararg:=none,kwonlyargs:=[],kw_defaults:=[],kwarg:=none,defaults:=[]}
noncomputable def aT(s:Stmt):List Stmt:=match s with
 |.FunctionDef _ _ b _ _ _ _ _ _ _=>b
 |_=>[]
noncomputable def ah(s:Stmt):Scope:=match s with
 |.FunctionDef _ _ _ _ _ _ sc _ _ _=>sc
 |_=>{kind:=.function,names:=[],isGenerator:=false,isCoroutine:=false}
abbrev iF:wA:=λ_ _ _ _ _ _=>False
abbrev E0:XK:=λ_ _ _=>False
theorem qx:Passes iF X E0:=λ_ _ _ _ _ _ _ h=>h.elim
structure rg(K:yaM)(x qual:Str)(st:Stmt)(f:Addr)(fd:yaq):Prop where
 ex:∃(oc:yaj)(od:Option Addr)(kV doc pm:yaj)(an:Option Addr)(cdv ct:yaj)(osl:Array (Option yaj)),
  fd=zcN x qual (cI st) (aT st) (ah st) .none kV doc pm an cdv ct/\K.lookup f=some ⟨oc,od,.func fd,osl⟩/\zcl K cdv qual=true
 kp:zcj K (.ref f)=true
section
variable {w:yal}
theorem rg.ok{k:Nat}(F:rg K x qual st f fd)(S:aE N ps (ah st))(len:∀vs H Q E,sp vs H Q E->vs.length=ps.length)(e:∀(a:yaj)(A:yam)(outer:List Env)(s:yai)(H:Hp)(vs:List V)(Q:VK)(E:XK),aR k (A.deeper (envOfC qual (ah st) s.heap.objs.size f a))->sp vs H Q E->∃t,pQ (d9 iF P w K mg base N qual (ah st) f a A outer s H E).DS (aT st) t/\t {nx:=λ_ H'=>Q .aY H',rt:=Q} (start N vs) H):bL P w K mg base iF (k+1) f fd ps sp:=by
 obtain⟨z,y,kV,o,u,C,a,ct,l,rfl,m,j⟩:=F.ex;refine J1 m j S len λA outer s H vs Q E n i=>?_;obtain⟨t,h,q⟩:=e a A outer s H vs Q E n i;exact⟨t,h.DS,q⟩
theorem rg.binds(F:rg K x qual st f fd)(h:∀(kV a i:yaj)(j:Option Addr)(e ct:yaj)(us:List yaj),us.length=ps.length->yaC (zcN x qual (cI st) (aT st) (ah st) .none kV a i j e ct) ⟨us,[]⟩=pure (ps.zip us)):Binds K fd ps []:=by
 obtain⟨o,n,kV,a,i,j,e,ct,l,rfl,q,m⟩:=F.ex;exact .all (h kV a i j e ct)
theorem jr{od j:Option Addr}{kV e i a ct:yaj}(l:K.lookup f=some ⟨oc,od,.func (zcN x qual (cI st) (aT st) (ah st) .none kV e i j a ct),osl⟩)(c:zcl K a qual=true)(k:zcj K (.ref f)=true):rg K x qual st f (zcN x qual (cI st) (aT st) (ah st) .none kV e i j a ct):=⟨⟨oc,od,kV,e,i,j,a,ct,osl,rfl,l,c⟩,k⟩
end
theorem j6{k:Nat}(a:aR k A):A.units+1<cLine:=Nat.lt_of_le_of_lt (Nat.add_le_add_left (by decide:1<=64) _) a.units
theorem pv(i:Nat)(j:autoParam (X.N[i]? =some x) r0)(e:Qq X.env.scope x:=by first|exact Or.inl rfl|exact Or.inr (Or.inl rfl)|exact Or.inr (Or.inr rfl))(hd:autoParam ((x==("__debug__":Str))=false) r1)(a:autoParam ((x==("__classdict__":Str))=false) r1):PE X (.Name x pos) (tV i):=DC j e hd a
theorem BK:bN X (.builtin "len") (λxs H Q=>∃a kvs,xs=[V.ref a]/\H a=some (.dK kvs)/\Q (.int kvs.length) H):=by
 intro e s l H xs m Q I r h;obtain⟨a,kvs,rfl,i,q⟩:=h;obtain⟨u,rfl,ru⟩:=vals1 r;cases ru;exact PD I (.inl i) λt n j=>⟨.int kvs.length,H,j,⟨t,rfl⟩,q⟩
theorem oR{A B:Prop}(h:B):if false=true then A else B:=by
 rw[yIn zaX];exact h
theorem u6{A B:Prop}(h:A):if true=true then A else B:=by
 rw[yIp rfl];exact h
theorem jq{c A B:Prop}[Decidable c](h1:c->A)(h2:¬c->B):if c then A else B:=by
 by_cases h:c
 ·rw[yIp h];exact h1 h
 ·rw[yIn h];exact h2 h
theorem Pn{c A B:Prop}[Decidable c](a:c)(h:B):if(!decide c)=true then A else B:=by
 rw[yDt a];exact oR h
def cJ(H H':Hp):Prop:=∀b o,H b=some o->H' b=some o
theorem cJ.refl(H:Hp):cJ H H:=λ_ _ h=>h
theorem cJ.trans{i e:Hp}(a:cJ H i)(b:cJ i e):cJ H e:=λc o h=>b c o (a c o h)
theorem cJ.free(e:cJ H H'){l:Addr}(h:H' l=Option.none):H l=Option.none:=by
 cases q:H l with
 |none=>rfl
 |some o=>
  rw[e l o q] at h;cases h
theorem cJ.seq{xs:List V}(e:cJ H H')(h:b9 K H a xs):b9 K H' a xs:=by
 rcases h with(h|⟨o,h⟩)|h
 ·exact .inl (.inl (e _ _ h))
 ·exact .inl (.inr ⟨o,e _ _ h⟩)
 ·exact .inr h
end L2
set_option maxHeartbeats 4000000
namespace L2
open PySem PySem.Spec PyProof.Rows
section
variable {σ:List (Option V)}
theorem gg.tT{w:yal}{h:Heap}{D:Addr}{o:HO}(ok:gg P w H h)(a:H D=none)(new:aW P w (upd H D o) h D o):gg P w (upd H D o) h:=λb u e=>by
 by_cases i:b=D
 ·subst i;rw[aq] at e;cases e;exact new
 ·rw[au i] at e;refine(ok b u e).stay (λ_ _ _ q=>q) (λc q=>?_) (λc xs q=>?_)
  ·rw[au (aF q a)];exact q
  ·rw[au (aF q a)];exact q
theorem Inv.tT{D:Addr}{o:HO}(I:Inv X pins σ H s)(j:H D=none)(L:X.s₀.heap.objs.size<=D)(F:D≠X.env.locals)(E:∀x c,X.env.cells.lookup x=some c->c≠D)(C:∀p∈X.pn++pins,p.1≠D)(new:aW X.prog X.w (upd H D o) s.heap D o):Inv X pins σ (upd H D o) s:=by
 refine⟨I.ok,I.os,I.bare,⟨I.base.keep,I.base.slot,λb l e n z=>?_,I.base.there,λb xs e=>?_,λb l u e=>?_,λb y e=>?_⟩,I.loc,I.cell,?_,λx c e=>?_,λp i=>?_,I.hok.tT j new,I.len⟩
 ·rw[au (zcG (zaV (zcP e) L))];exact I.base.free b l e n z
 ·have q:=I.base.tups b xs e;rw[au (aF q j)];exact q
 ·have q:=I.base.oY b l u e;rw[au (aF q j)];exact q
 ·obtain⟨m,q⟩:=I.base.pS b y e;exact⟨m,by rw[au (aF q j)];exact q⟩
 ·rw[au (Ne.symm F)];exact I.free
 ·rw[au (E x c e)];exact I.e8 x c e
 ·obtain⟨e,n,a,b,d⟩:=I.pin p i;exact⟨e,by rw[au (C p i)];exact n,a,b,d⟩
end
noncomputable def kE(env:Env):List (Str×NameKind)->List (Str×Addr)->List (Str×Addr)
 |[],acc=>acc
 |(n,k)::r,acc=>kE env r (if k==NameKind.free then(n,(env.cells.lookup n).getD 0)::acc else acc)
theorem ju(env:Env):∀(l:List (Str×NameKind))(i:List (Str×Addr)),(∀n,(n,NameKind.free)∈l->∃c,env.cells.lookup n=some c)->
  (forIn l i (λ(x:Str×NameKind)(r:List (Str×Addr))=>if(x.2==NameKind.free)=true then(do let a <-cellOf env x.1;pure (ForInStep.yield ((x.1,a)::r))) else pure (ForInStep.yield r)):Sem (List (Str×Addr)))=pure (kE env l i)
 |[],i,_=>rfl
 |(n,k)::r,i,h=>by
  rw[List.forIn_cons];by_cases o:(k==NameKind.free)=true
  ·have e:k=.free:=by simpa using o
   subst e;obtain⟨c,q⟩:=h n zaN;have y:cellOf env n=pure c:=by unfold cellOf;rw[q]
   have u:((NameKind.free==NameKind.free)=true)=True:=by simp
   simp only[u,if_true,y,pure_bind];rw[ju env r _ λm j=>h m (zaA _ j)];show _=pure (kE env r (if(NameKind.free==NameKind.free)=true then(n,(env.cells.lookup n).getD 0)::i else i));simp only[u,if_true,q,zbK]
  ·simp only[yIn o,pure_bind];rw[ju env r _ λm j=>h m (zaA _ j)];show _=pure (kE env r (if(k==NameKind.free)=true then(n,(env.cells.lookup n).getD 0)::i else i));rw[yIn o]
theorem jg(h:∀n,(n,NameKind.free)∈scope.names->∃c,env.cells.lookup n=some c):closureFor scope env=pure (kE env scope.names []):=by
 unfold closureFor;have e:=ju env scope.names [] h
 first
  |exact e
  |(simp only[bind_pure];exact e)
  |(rw[show(forIn scope.names ([]:List (Str×Addr)) _:Sem (List (Str×Addr)))=_ from e];rfl)
theorem vD(env:Env):∀(l:List (Str×NameKind))(a:List (Str×Addr))(x:Str)(c:Addr),(kE env l a).lookup x=some c->a.lookup x=some c∨(x,NameKind.free)∈l/\c=(env.cells.lookup x).getD 0
 |[],a,x,c,h=>.inl h
 |(n,k)::r,a,x,c,h=>by
  rcases vD env r _ x c h with e|⟨u,q⟩
  ·by_cases m:(k==NameKind.free)=true
   ·rw[yIp m] at e;have o:k=.free:=by simpa using m
    subst o;rw[zbx] at e;by_cases j:(x==n)=true
    ·have ex:x=n:=by simpa using j
     subst ex;rw[j] at e;exact .inr ⟨zaN,(zcW.inj e).symm⟩
    ·have i:(x==n)=false:=by simpa using j
     rw[i] at e;exact .inl e
   ·rw[yIn m] at e;exact .inl e
  ·exact .inr ⟨zaA _ u,q⟩
theorem pC(env:Env):∀(l:List (Str×NameKind))(a:List (Str×Addr))(x:Str),((x,NameKind.free)∈l∨∃c,a.lookup x=some c)->∃c,(kE env l a).lookup x=some c
 |[],a,x,h=>by
  rcases h with h|h
  ·simp at h
  ·exact h
 |(n,k)::r,a,x,h=>by
  refine pC env r _ x ?_;rcases h with h|⟨c,h⟩
  ·rcases zcn.mp h with e|e
   ·injection e with e1 e2;subst e1 e2;right;exact⟨(env.cells.lookup x).getD 0,by rw[yIp (by rfl),zbx];simp⟩
   ·exact .inl e
  ·right;by_cases m:(k==NameKind.free)=true
   ·rw[yIp m,zbx];by_cases j:(x==n)=true
    ·rw[j];exact⟨_,rfl⟩
    ·have i:(x==n)=false:=by simpa using j
     rw[i];exact⟨c,h⟩
   ·rw[yIn m];exact⟨c,h⟩
theorem ie{scope:Scope}{env:Env}{x:Str}{k:NameKind}:∀{names:List (Str×NameKind)},(names.map λ(n,k)=>if(k==NameKind.free&&env.scope.kind== .function&&env.kindOf n==some .cell) then(n,NameKind.cell) else(n,k)).lookup x=some k->
  names.lookup x=some k∨(k=.cell/\names.lookup x=some .free)
 |[],h=>by simp at h
 |(n,j)::r,h=>by
  have i:=@ie scope env x k r;rw[zco,zbx] at h;rw[zbx];by_cases e:(j==NameKind.free&&env.scope.kind== .function&&env.kindOf n==some .cell)=true
  ·simp only[e,if_true] at h;cases a:x==n with
   |true=>
    rw[a] at h;have l:j=.free:=by
     simp only[zbH] at e;simpa using e.1.1
    exact .inr ⟨(zcW.inj h).symm,by rw[l]⟩
   |false=>rw[a] at h;exact i h
  ·simp only[yIn e] at h;cases a:x==n with
   |true=>rw[a] at h;exact .inl h
   |false=>rw[a] at h;exact i h
theorem jK{scope:Scope}{env:Env}{x:Str}:∀{names:List (Str×NameKind)},names.lookup x=some .free->∃k,(k=NameKind.cell∨k=.free)/\
  (names.map λ(n,k)=>if(k==NameKind.free&&env.scope.kind== .function&&env.kindOf n==some .cell) then(n,NameKind.cell) else(n,k)).lookup x=some k
 |[],h=>by simp at h
 |(n,j)::r,h=>by
  have e:=@jK scope env x r;rw[zbx] at h;rw[zco,zbx];by_cases i:(j==NameKind.free&&env.scope.kind== .function&&env.kindOf n==some .cell)=true
  ·simp only[i,if_true];cases a:x==n with
   |true=>exact⟨.cell,.inl rfl,rfl⟩
   |false=>rw[a] at h;exact e h
  ·simp only[yIn i];cases a:x==n with
   |true=>rw[a] at h;exact⟨.free,.inr rfl,h⟩
   |false=>rw[a] at h;exact e h
noncomputable def p6(caps:List (Option Nat))(a:St):St:=caps.map λo=>o.bind λi=>(a[i]?).getD none
noncomputable def jh(XN:List Str)(env:Env)(scope:Scope)(N:List Str)(caps:List (Option Nat)):Bool:=
 caps.length==N.length&&(caps.zip N).all λp=>match p.1 with
  |none=>scope.names.lookup p.2==some .local
  |some i=>XN[i]? ==some p.2&&scope.names.lookup p.2==some .free&&(env.scope.names.lookup p.2==some .cell||env.scope.names.lookup p.2==some .free)
noncomputable def iX(X:Cx)(scope:Scope)(N:List Str)(s₀:yai)(H₀:Hp)(C:Addr)(fp:List Addr):Cx where
 prog:=X.prog
 w:=X.w
 K:=X.K
 mg:=X.mg
 base:=X.base
 A:=X.A
 N:=N
 s₀:=s₀
 H₀:=H₀
 env:=compEnvC scope (kE X.env scope.names []) C X.env
 outer:=X.stack
 stack:=X.stack
 ex:=fp
 fn:=λ_=>false
 calm:=X.calm
 pn:=[]
 xe:=λ_ _=>False
structure dW(scope:Scope)(N:List Str):Prop where
 kind:scope.kind=.function
 nd:N.Nodup
 DU:∀y∈scope.names,y.2≠ .cell
 names:∀y∈scope.names,scope.names.lookup y.1=some y.2
section
variable {σ:List (Option V)}
theorem E3{XN:List Str}(h:jh XN env scope N caps=true):
  caps.length=N.length/\∀(j i:Nat)(x:Str),caps[j]? =some (some i)->N[j]? =some x->XN[i]? =some x/\scope.names.lookup x=some .free/\(env.kindOf x=some .cell∨env.kindOf x=some .free):=by
 unfold jh at h;rw[zbH] at h;obtain⟨h1,h2⟩:=h;refine⟨by simpa using h1,λj i x l e=>?_⟩;have a:(some i,x)∈caps.zip N:=by
  refine List.mem_of_getElem? (i:=j) ?_;rw[List.getElem?_zip_eq_some];exact⟨l,e⟩
 have q:=zby.mp h2 _ a;simp only[zbH,Bool.or_eq_true,beq_iff_eq] at q;exact⟨q.1.1,q.1.2,q.2⟩
theorem Inv.block{s1:yai}{h1:Heap}{tk:Nat}{m:Str->Option yaj}(S:dW scope N)(W:jh X.N X.env scope N caps=true)(F:∀n,(n,NameKind.free)∈scope.names->∃c,X.env.cells.lookup n=some c)(I:Inv X pins σ H s)(Z:∀b∈fp,lE X pins H b)(hfl:∀b∈fp,b<s.heap.objs.size)(hC:s.heap.objs.size<=C)(Y:∀b o,s.heap.get? b=some o->h1.get? b=some o)(hn:h1.Ns C m):
  Inv (iX X scope N s H C fp) [] (p6 caps σ) H {s with heap:=h1,toks:=tk}:=by
 obtain⟨Q,hat⟩:=E3 W;have O:∀x c,(kE X.env scope.names []).lookup x=some c->X.env.cells.lookup x=some c:=λx c e=>by
  rcases vD X.env scope.names [] x c e with z|⟨z1,z2⟩
  ·simp at z
  ·obtain⟨c',E⟩:=F x z1;rw[E,z2,E];rfl
 have clt:∀x c,X.env.cells.lookup x=some c->c<s.heap.objs.size:=λx c e=>by
  obtain⟨v,o,P,_⟩:=I.cell x c e;exact zcP P
 have RA:∀x,((compEnvC scope (kE X.env scope.names []) C X.env).kindOf x=some .cell∨(compEnvC scope (kE X.env scope.names []) C X.env).kindOf x=some .free)->(x,NameKind.free)∈scope.names:=λx hx=>by
  have sub:∀k,(compEnvC scope (kE X.env scope.names []) C X.env).kindOf x=some k->scope.names.lookup x=some k∨(k=.cell/\scope.names.lookup x=some .free):=λk e=>ie (scope:=scope) (env:=X.env) e;rcases hx with e|e
  ·rcases sub _ e with z|⟨_,z⟩
   ·exact absurd rfl (S.DU _ (PySem.mem_of_lookup z))
   ·exact PySem.mem_of_lookup z
  ·rcases sub _ e with z|⟨z,_⟩
   ·exact PySem.mem_of_lookup z
   ·cases z
 refine⟨⟨I.ok.mod,S.kind,I.ok.glob,I.ok.blt,hC,λx y c e1 e2=>I.ok.inj x y c (O x c e1) (O y c e2),λx hx=>?_,λx c z _=>absurd (show false=true from z) zaX,I.ok.hd,I.ok.frames,.inl rfl,λb L=>?_,I.bs,zcH I.ok.Fb I.sz,λb o e L=>?_,λb L hb2=>?_,I.stack,I.rB⟩,rfl,I.bare,Un.kept Y,⟨m,hn,λj x v e1 e2 e3=>?_⟩,λx c e=>?_,I.hok.fresh hC,λx c e=>I.e8 x c (O x c e),λp hp=>absurd (show p∈([]:List (Addr×Obj)) from hp) (by simp),I.hok.kept Y,?_⟩
 ·exact pC X.env scope.names [] x (.inl (RA x hx))
 ·exact⟨zcG (zaV (hfl b L) hC),λx c e=>(Z b L).2.2.2.2.1 x c (O x c e)⟩
 ·rcases(Z b L).2.2.2.1 with z|z
  ·exact I.ok.Bf b o e z
  ·exact absurd (zaV (zcP e) (zcH I.ok.Fb z)) (zct _)
 ·rcases zcn.mp (I.nu b hb2) with z|z
  ·exact(Z b L).2.1 z
  ·exact(Z b L).2.2.1 z
 ·have a:(p6 caps σ)[j]? =some (some v):=e2;unfold p6 at a;rw[zbe] at a;cases hc:caps[j]? with
  |none=>rw[hc] at a;cases a
  |some o=>
   rw[hc] at a;cases o with
   |none=>cases a
   |some i=>
    have e4:(σ[i]?).getD none=some v:=zcW.inj a;have e5:σ[i]? =some (some v):=by
     cases q:σ[i]? with
     |none=>rw[q] at e4;cases e4
     |some y=>rw[q] at e4;exact congrArg some e4
    obtain⟨a1,a2,a3⟩:=hat j i x hc e1;obtain⟨mX,hnX,hl⟩:=I.loc;obtain⟨u,r,l⟩:=hl i x v a1 e5 (a3.elim (λz=>.inr (.inl z)) λz=>.inr (.inr z));refine⟨u,r,.inr ?_⟩;obtain⟨c,hcx,cell⟩:∃c,X.env.cells.lookup x=some c/\s.heap.IsCell c (some u):=by
     rcases l with⟨k,_⟩|⟨_,z⟩
     ·rw[k] at a3;rcases a3 with z|z<;>cases z
     ·exact z
    obtain⟨k,hk2,U⟩:=jK (scope:=scope) (env:=X.env) a2;obtain⟨c',E⟩:=pC X.env scope.names [] x (.inl (PySem.mem_of_lookup a2));have hcc:c'=c:=zcW.inj ((O x c' E).symm.trans hcx);subst hcc;refine⟨?_,c',E,?_⟩
    ·rcases hk2 with z|z
     ·subst z;exact .inl U
     ·subst z;exact .inr U
    ·obtain⟨o,P,hd⟩:=cell;exact⟨o,Y _ _ P,hd⟩
 ·obtain⟨v,o,P,hd⟩:=I.cell x c (O x c e);exact⟨v,o,Y _ _ P,hd⟩
 ·show(p6 caps σ).length=N.length;unfold p6;rw[zbN];exact Q
end
theorem iw{w:yal}{R:Result->yai->Prop}{E a:Expr}{it F:yaj}(I:Nat->yai->Prop)(H:∀n s,I n s->yas (model prog w) A (pyNext it) (λr j=>match r with
   |none=>R (.ok .next) j
   |some v=>yas (model prog w) A (letOwnedTupleGo a it v) (λ_ i=>yas (model prog w) A (assign a env v) (λ_ u=>yas (model prog w) A (forIn ifs true λc r=>if r=true then do let ok <-isTrue c env (eval c env);pure (ForInStep.yield ok) else pure (ForInStep.yield r)) (λok e=>if ok=true then yas (model prog w) A (eval E env) (λx q=>yas (model prog w) A (call (.builtin "list.append") [F,x]) (λ_ o=>∃m,m<n/\I m o) (λ_ _=>False) q) (λ_ _=>False) e else∃m,m<n/\I m e) (λ_ _=>False) u) (λ_ _=>False) i) (λ_ _=>False) j) (λ_ _=>False) s)(n:Nat)(h:I n s):
  codeAny (model prog w) A (.compLoop (.ListComp E [⟨a,iter,ifs,0⟩] scope pos) 0 it F env) R s:=by
 refine codeAny_loop rfl I (λn s Q=>?_) n h;show yas _ A ((compTurn (.ListComp E [⟨a,iter,ifs,0⟩] scope pos) 0 it F env).onRaise (λx=>do noteFrame x env;theTreesLotGoes x)) _ _ s;refine wpAny_noted ?_;rw[compTurn_list];refine wpAny_noRaise ?_;refine yaa (yaz (yaa (yac (H n s Q) (λr j z=>?_) λ_ _ l=>l)));cases r with
 |none=>exact yab z
 |some v=>
  refine yaa (yac z (λ_ i C=>?_) λ_ _ l=>l);refine yaa (yac C (λ_ u P=>yaa (yac P (λok e y=>?_) λ_ _ l=>l)) λ_ _ l=>l);cases ok with
  |false=>exact yab ⟨rfl,y⟩
  |true=>
   exact yaa (yaa (yac y (λx q O=>yaa (yac O (λ_ o L=>yab (yab ⟨rfl,L⟩)) λ_ _ l=>l)) λ_ _ l=>l))
def Ku(X:Cx)(i:List Expr)(t:TT):Prop:=
 ∀(a:List (Addr×Obj))(s:yai)(e:St)(H:Hp)(Q:Bool->Hp->Prop),Inv X a e H s->t e H Q->
  yas (model X.prog X.w) X.A (forIn i true λc r=>if r=true then do let ok <-isTrue c X.env (eval c X.env);pure (ForInStep.yield ok) else pure (ForInStep.yield r)) (TP X a e Q) X.xe s
def Oi:TT:=λ_ H Q=>Q true H
theorem b6:Ku X [] Oi:=λ_ _ _ H _ I h=>wpAny_tests_nil ⟨H,I,h⟩
theorem rV{c:Expr}{t:TT}(h:PT X c t):Ku X [c] t:=λa s e H Q I hw=>wpAny_tests_one (h a s e H Q I hw)
def Jv(J:It)(g:TG)(u:TT)(te:TE)(l:St)(H:Hp)(y:List V->Hp->Prop):Prop:=
 ∃W:Nat->Nat->List V->St->Hp->Prop,(∃m,W 0 m [] l H)/\∀i m xs n H,W i m xs n H->
  (J.stop i H/\y xs H)∨(J.go i H/\∃M:List V->St->Hp->Prop,(∀ys e j,M ys e j->∃o,o<m/\W (i+1) o ys e j)/\∀x j,J.B6 i H x j->g x n j λa C=>u a C λb q=>if b=true then te a q λv z=>xs.length<yah/\M (xs++[v]) a z else M xs a q)
section
variable {σ:List (Option V)}
noncomputable abbrev lobj(its:List yaj)(k:Nat):Obj:={cls:=.type "list",data:=.seq its.toArray k}
theorem vB{elt:Expr}{g:TG}{tt:TT}{J:It}{it:Addr}{tn:Nat->Heap->Prop}{U:Hp}{j:yai}{Qd:List V->Hp->Prop}{RR:yaj->Addr->Result->yai->Prop}(S:dW scope N)(an:jh X.N X.env scope N caps=true)(ae:∀n,(n,NameKind.free)∈scope.names->∃c,X.env.cells.lookup n=some c)(hc:X.calm=true)(hg:∀s₀ H₀ C fp,PG (iX X scope N s₀ H₀ C fp) tg g)(ht:∀s₀ H₀ C fp,Ku (iX X scope N s₀ H₀ C fp) ifs tt)(he:∀s₀ H₀ C fp,PE (iX X scope N s₀ H₀ C fp) elt te)(I2:Inv X pins σ U j)(T:Turn X.prog X.w X.K tg J fp it tn)(st2:tn 0 j.heap)(f2:∀b∈fp,lE X pins U b)(h:Jv J g tt te (p6 caps σ) U Qd)(hRR:∀(D C:Addr) m xs L (Q:yai),Inv X pins σ (upd L D (.lst xs)) Q->L D=none->Q.heap.Ns C m->lE X pins (upd L D (.lst xs)) C->Qd xs L->RR (.ref D) C (.ok .next) Q):
  yas (model X.prog X.w) X.A (newList []) (λacc H=>yas (model X.prog X.w) X.A (newFunctionEnv scope X.env.globals (kE X.env scope.names []) [] X.env.qual none .none (some X.env)) (λad am=>codeAny (model X.prog X.w) X.A (.compStart (.ListComp elt [⟨tg,iter,ifs,0⟩] scope pos) 0 (.ref it) acc {ad with scope:=relabel scope X.env}) (RR acc ad.locals) am) E H) E j:=by
 have hfl:∀b∈fp,b<j.heap.objs.size:=λb l=>by
  obtain⟨o,e,_⟩:=T.obj 0 j.heap st2 b l;exact zcP e
 refine yaf (wpAny_newFunctionEnv S.DU (by intro y hy;simp at hy) (λP hns hsb=>?_) S.kind);dsimp only at hns hsb⊢;generalize hHD:j.heap.push {cls:=.type "list",dict:=none,data:=.seq ([]:List yaj).toArray}=HD at hns hsb⊢;have hC:HD.objs.size=j.heap.objs.size+1:=by rw[<-hHD,zcm]
 have hDC:j.heap.objs.size≠HD.objs.size:=by rw[hC];exact zcG (Nat.lt_succ_self _)
 have Mz:j.heap.objs.size<=HD.objs.size:=by rw[hC];exact zcU _
 have old:∀b o,j.heap.get? b=some o->P.get? b=some o:=λb o e=>
  hsb.extBut b o (by rw[hC];exact zcG (zbn (zcP e))) (zar _ (hHD▸zar _ e))
 have ap:P.get? j.heap.objs.size=some (lobj [] 0):=hsb.extBut _ _ hDC (zar _ (hHD▸zaM _ rfl));obtain⟨W,⟨m0,w0⟩,ag⟩:=h;have IY0:=Inv.block (caps:=caps) (C:=HD.objs.size) (fp:=fp) (s1:=j) (h1:=P) (tk:=j.toks+([]:List (Str×yaj)).length) S an ae I2 f2 hfl Mz old hns;have ab:U j.heap.objs.size=none:=I2.hok.fresh (zcS _);have JL:∀{O:St}{Y:Hp}{s':yai}{a:List yaj}{k:Nat},Inv (iX X scope N j U HD.objs.size fp) [] O Y s'->Y j.heap.objs.size=none->s'.heap.get? j.heap.objs.size=some (lobj a k)->
   Inv (iX X scope N j U HD.objs.size fp) [(j.heap.objs.size,lobj a k)] O Y s':=λ{O Y s' a k} I hn e=>I.jQ λp hp=>by
  have ep:p=(j.heap.objs.size,lobj a k):=by simpa using hp
  subst ep;exact⟨e,hn,hDC,λz=>by
   rcases zcn.mp (I2.nu _ z) with q|q
   ·exact absurd (q▸I2.lt) (zct _)
   ·exact I2.O3 (zcS _) q,λv z=>by cases z⟩
 have fY:∀{Y:Hp}{a:List yaj}{k:Nat},(∀b∈fp,Y b=none)->∀b∈fp,lE (iX X scope N j U HD.objs.size fp) [(j.heap.objs.size,lobj a k)] Y b:=λ{Y a k} hn b l=>by
  have z:=f2 b l;refine⟨hn b l,zcG (zaV (hfl b l) Mz),λq=>?_,.inl l,λx c e=>IY0.ok.QV b l |>.2 x c e,λp hp=>?_⟩
  ·rcases zcn.mp (I2.nu b q) with q|q
   ·exact z.2.1 q
   ·exact z.2.2.1 q
  ·have ep:p=(j.heap.objs.size,lobj a k):=by
    have:p∈[]++[(j.heap.objs.size,lobj a k)]:=hp;simpa using this
   subst ep;exact zcI (hfl b l)
 have fin:∀{O:St}{L:Hp}{Q:yai}{xs:List V}{a:List yaj}{k:Nat},Inv (iX X scope N j U HD.objs.size fp) [(j.heap.objs.size,lobj a k)] O L Q->Vals xs a->xs.length<=yah->Qd xs L->
   RR (.ref j.heap.objs.size) HD.objs.size (.ok .next) Q:=λ{O L Q xs a k} I r hz q=>by
  have hD:=I.pin (j.heap.objs.size,lobj a k) (by show _∈[]++[_];simp);have IX:Inv X pins σ L Q:=I2.E7 (s':=Q) (ch:=fp) I.os I.base I.hok I.bare λb l=>⟨(f2 b l).2.2.2.1,(f2 b l).2.1,(f2 b l).2.2.2.2.1,(f2 b l).2.2.2.2.2⟩
  have fD:lE X pins L j.heap.objs.size:=I2.vc (zcS _) hD.2.1;have fC:lE X pins L HD.objs.size:=I2.vc Mz I.free;have IT:Inv X pins σ (upd L j.heap.objs.size (.lst xs)) Q:=IX.tT hD.2.1 I2.sz fD.2.1 (λx c e=>fD.2.2.2.2.1 x c e) (λp hp=>fD.2.2.2.2.2 p hp) ⟨hz,a,k,r,hD.1⟩;obtain⟨m,hn,_⟩:=I.loc;exact hRR _ _ m xs L Q IT hD.2.1 hn ⟨by rw[au (Ne.symm hDC)];exact fC.1,fC.2⟩ q
 have ac:∀H:yai,H={j with heap:=P,toks:=j.toks+([]:List (Str×yaj)).length}->
   codeAny (model X.prog X.w) X.A (.compLoop (.ListComp elt [⟨tg,iter,ifs,0⟩] scope pos) 0 (.ref it) (.ref j.heap.objs.size) (compEnvC scope (kE X.env scope.names []) HD.objs.size X.env)) (RR (.ref j.heap.objs.size) HD.objs.size) H:=by
  rintro H rfl;refine iw (λn s'=>∃i xs a k O Y,Inv (iX X scope N j U HD.objs.size fp) [(j.heap.objs.size,lobj a k)] O Y s'/\tn i s'.heap/\(∀b∈fp,Y b=none)/\Vals xs a/\xs.length<=yah/\W i n xs O Y) ?_ m0
   ⟨0,[],[],0,_,_,JL IY0 ab ap,T.keep 0 _ _ st2 λb _ o e=>old b o e,λb l=>(f2 b l).1,.nil,zcT _,w0⟩
  rintro n s3 ⟨i,xs,a,k,O,L,I3,st3,fr3,r3,z3,w3⟩;rcases ag i n xs O L w3 with⟨stop,qn⟩|⟨go,M,hM,step⟩
  ·refine yac (T.done (iX X scope N j U HD.objs.size fp) rfl rfl rfl hc i _ s3 O L (λ_ _=>False) I3 (fY fr3) st3 stop) (λr Q F=>?_) λ_ _ z=>z;obtain⟨hr,I4⟩:=F;subst hr;exact fin I4 r3 z3 qn
  ·refine yac (T.item (iX X scope N j U HD.objs.size fp) rfl rfl rfl hc i _ s3 O L (λ_ _=>False) I3 (fY fr3) st3 go) (λr Q F=>?_) λ_ _ z=>z;obtain⟨u,hr,h4⟩:=F;subst hr;refine yac h4 (λ_ s5 F=>?_) λ_ _ z=>z;obtain⟨x,H5,I5,r5,y5,st5,fr5⟩:=F;have I5':=I5.pinned (fY fr5) (T.obj _ _ st5);have JV:∀{τ7:St}{H7:Hp}{s7:yai},Inv (iX X scope N j U HD.objs.size fp) ([(j.heap.objs.size,lobj a k)]++nZ fp s5.heap) τ7 H7 s7->tn (i+1) s7.heap/\∀b∈fp,H7 b=none:=λ{τ7 H7 s7} I7=>by
    refine⟨T.keep _ _ _ st5 λb l o e=>(I7.pin (b,o) (zat _ (zat _ (gB l e)))).1,λb l=>?_⟩;obtain⟨o,e,d⟩:=T.obj _ _ st5 b l;exact(I7.pin (b,o) (zat _ (zat _ (gB l e)))).2.1
   refine yac (hg _ _ _ _ _ s5 O H5 x u _ I5' r5 (step x H5 y5)) (λ_ s6 F=>?_) λ_ _ z=>z;obtain⟨Z,H6,I6,q6⟩:=F;refine yac (ht _ _ _ _ _ s6 Z H6 _ I6 q6) (λok s7 F=>?_) λ_ _ z=>z;obtain⟨H7,I7,q7⟩:=F;cases ok with
   |false=>
    rw[yIn zaX] at q7⊢;obtain⟨m',hm,w7⟩:=hM _ _ _ q7;obtain⟨a1,a2⟩:=JV I7;exact⟨m',hm,i+1,xs,a,k,Z,H7,I7.gT,a1,a2,r3,z3,w7⟩
   |true=>
    rw[yIp rfl] at q7⊢;refine yac (he _ _ _ _ _ s7 Z H7 _ I7 q7) (λv s8 F=>?_) λ_ _ z=>z;obtain⟨y,H8,I8,r8,q8⟩:=F;obtain⟨hz,q8⟩:=q8;obtain⟨m',hm,w8⟩:=hM _ _ _ q8;obtain⟨a1,a2⟩:=JV I8;have hD:=I8.pin (j.heap.objs.size,lobj a k) (zat _ (zaB _ (by simp)));have ar:=r3.length;refine wpAny_list_append_plain (items:=a.toArray) ⟨k,hD.1⟩ (λh' hp hs=>?_) (by rw[zbc];lia);obtain⟨k',hp⟩:=hp;have I9:Inv (iX X scope N j U HD.objs.size fp) [] Z H8 {s8 with heap:=h'}:=
     (I8.jQ (pins':=[]) (by simp)).turned (t':=s8.toks) (it:=j.heap.objs.size) (λb o l e=>(hs.2 b l).trans e) hD.2.1 hD.2.2.1 (.inr (zcS _))
      (λx c e z=>by
       have q:=IY0.cell x c e;obtain⟨v,o,ho,hd⟩:=I8.cell x c e;have e1:s8.heap.get? j.heap.objs.size=some (lobj a k):=hD.1;rw[z,e1] at ho;cases ho;cases hd) (by intro p hp;exact absurd (show p∈([]:List (Addr×Obj))++[] from hp) (by simp))
    have hp':({s8 with heap:=h'}:yai).heap.get? j.heap.objs.size=some (lobj (a++[v]) k'):=by
     show h'.get? _=_;rw[hp];simp
    have hkt:tn (i+1) h':=T.keep _ _ _ a1 λb l o e=>(hs.2 b (zcG (hfl b l))).trans e;refine⟨m',hm,i+1,xs++[y],a++[v],k',Z,H8,JL I9 hD.2.1 hp',hkt,a2,r3.append (.cons r8 .nil),?_,w8⟩;rw[zaO];exact hz
 exact codeAny_compStart_list (ac _ rfl) (T.self X.A 0 _ _ _ (T.keep 0 _ _ st2 λb _ o e=>old b o e) (ac _ rfl))
noncomputable def freeOk(env:Env)(scope:Scope):Bool:=scope.names.all λp=>p.2 != .free||env.scope.names.lookup p.1==some .cell||env.scope.names.lookup p.1==some .free
theorem Inv.freeOk{H:Hp}{scope:Scope}(I:Inv X pins σ H s)(h:freeOk X.env scope=true):∀n,(n,NameKind.free)∈scope.names->∃c,X.env.cells.lookup n=some c:=λn a=>by
 have q:=zby.mp h _ a;simp only[Bool.or_eq_true,beq_iff_eq,bne_iff_ne] at q;refine I.ok.has n ?_;rcases q with(q|q)|q
 ·exact absurd rfl q
 ·exact .inl q
 ·exact .inr q
def Cz(caps:List (Option Nat))(e:TI)(g:TG)(i:TT)(te:TE):TE:=λσ H Q=>e σ H λJ j=>Jv J g i te (p6 caps σ) j λxs a=>∀p,a p=none->Q (.ref p) (upd a p (.lst xs))
theorem r6{n:Expr}{E:TI}{g:TG}{F:TT}(S:dW scope N)(j:jh X.N X.env scope N caps=true)(i:L2.freeOk X.env scope=true)(hc:X.calm=true)(Z:PI X tg iter E)(hg:∀s₀ H₀ C fp,PG (iX X scope N s₀ H₀ C fp) tg g)(U:∀s₀ H₀ C fp,Ku (iX X scope N s₀ H₀ C fp) ifs F)(he:∀s₀ H₀ C fp,PE (iX X scope N s₀ H₀ C fp) n te)(W:∀x,foldedSetIterable iter X.env x=pure x:=by intro _;rfl):PE X (.ListComp n [⟨tg,iter,ifs,0⟩] scope pos) (Cz caps E g F te):=by
 intro a s σ H Q I h;rw[eval_ListComp];refine wpAny_comprehension_free (use:=none) rfl W (jg (I.freeOk i)) S.kind (λx P y=>y▸S.names x P) ?_;refine bS (Z a s σ H _ I h) λv s1 h1=>bS h1 λO s2 h2=>?_;obtain⟨it,fp,tn,J,H2,rfl,I2,T,u,f2,y⟩:=h2;refine vB (RR:=λz C=>compPost (model X.prog X.w) X.A X.xe none (EP X a σ Q) z C) S j (I.freeOk i) hc hg U he I2 T u f2 y ?_;intro D C m xs H3 L IT hD Y l q;refine⟨m,Y,λh' sb=>⟨.ref D,_,?_,rfl,q D hD⟩⟩;exact IT.turned (t':=L.toks) (it:=C) (λb o hb e=>(sb.2 b hb).trans e) l.1 l.2.1 l.2.2.2.1 l.2.2.2.2.1 l.2.2.2.2.2
theorem cU{j:Expr}{l:Pos}{wi:TI}{g:TG}{tt:TT}(hN:X.N.Nodup)(hix:X.N[i]? =some x)(O:X.env.scope.names.lookup x=some .local)(S:dW scope N)(E:jh X.N X.env scope N caps=true)(u:L2.freeOk X.env scope=true)(hc:X.calm=true)(hi:PI X tg iter wi)(hg:∀s₀ H₀ C fp,PG (iX X scope N s₀ H₀ C fp) tg g)(ht:∀s₀ H₀ C fp,Ku (iX X scope N s₀ H₀ C fp) ifs tt)(he:∀s₀ H₀ C fp,PE (iX X scope N s₀ H₀ C fp) j te)(W:autoParam (yau (.ListComp j [⟨tg,iter,ifs,0⟩] scope pos) (some (.Name x pos')) l.line X.env=pure true) r0)(hs:∀x,foldedSetIterable iter X.env x=pure x:=by intro _;rfl):PS X (.Assign [.Name x pos'] (.ListComp j [⟨tg,iter,ifs,0⟩] scope pos) l) (CA (Cz caps wi g tt te) (qJ i)):=by
 intro a s σ H D I h;rw[exec_Assign_Name_used _ _ _ _ W];refine yaa (yaz (yaa ?_));show yas _ X.A (do let _ <-comprehension (.ListComp j [⟨tg,iter,ifs,0⟩] scope pos) scope X.env _ (newList []) false (eval iter X.env) (some (assign (.Name x pos') X.env))) _ _ s;refine yaa (yac (wpAny_comprehension_free (use:=some (assign (.Name x pos') X.env)) (Q:=λ_ F=>SP X a D .next F) rfl hs (jg (I.freeOk u)) S.kind (λx O Z=>Z▸S.names x O) (bS (hi a s σ H _ I h) λv s1 h1=>bS h1 λitv s2 h2=>?_)) (λ_ F hq=>yab (yab hq)) λ_ _ e=>e);obtain⟨it,fp,tn,J,H2,rfl,I2,T,U,f2,Z⟩:=h2;refine vB (RR:=λacc C=>compPost (model X.prog X.w) X.A X.xe (some (assign (.Name x pos') X.env)) (λ_ F=>SP X a D .next F) acc C) S E (I.freeOk u) hc hg ht he I2 T U f2 Z ?_;intro P C m xs H3 s4 IT hD hn n q;show yas _ X.A (assign (.Name x pos') X.env (.ref P)) _ _ _;obtain⟨L,es,ep,Y,y,rC⟩:=id hn;have IP:Inv X (a++[(C,L)]) σ (upd H3 P (.lst xs)) s4:=IT.jQ λp hp=>(zbM.mp hp).elim (λz=>IT.pin p (zat _ z)) λz=>by
  have e:p=(C,L):=by simpa using z
  subst e;exact⟨Y,n.1,n.2.1,n.2.2.1,λv z=>by rw[y] at z;cases z⟩
 refine wpAny_assign_Name (gW (v:=.ref P) IP hN hix (.inl O) rfl (λs5 I5=>?_) (.inr O));have hC5:=I5.pin (C,L) (zat _ (zat _ (by simp)));refine⟨m,⟨L,es,ep,hC5.1,y,rC⟩,λh' sb=>⟨_,_,?_,q P hD⟩⟩;exact I5.gT.turned (t':=s5.toks) (it:=C) (λb o hb e=>(sb.2 b hb).trans e) n.1 n.2.1 n.2.2.2.1 n.2.2.2.2.1 n.2.2.2.2.2
end
noncomputable def Q5(x:Str):It:=⟨λi _=>i<x.cps.size,λi H v a=>a=H/\∃c,x.cps[i]? =some c/\v=.str ⟨#[c]⟩,λi _=>i=x.cps.size⟩
theorem qa{w:yal}(a:A.handled=none)(I:Addr)(x:Str)(t:Tok):Walks prog w A I [I] [I] x.cps.size (SignAt x) (λi h=>h.IsStrIter I (strIterType x) x t i):=by
 unfold strIterType;split
 ·exact Walks.strAscii a I x t
 ·exact Walks.strWide a I x t
theorem Ck{w:yal}(it:Addr)(x:Str)(t:Tok):Turn P w K tg (Q5 x) [it] it (λi h=>h.IsStrIter it (strIterType x) x t i) where
 mem:=by simp
 obj:=λi h st b j=>by
  have e:b=it:=by simpa using j
  subst e;obtain⟨o,e,c,d⟩:=st;exact⟨o,e,λv z=>by rw[d] at z;cases z⟩
 keep:=λi h n st k=>by obtain⟨o,q,r⟩:=st;exact⟨o,k it (by simp) o q,r⟩
 item:=by
  intro X S hw U O i a s σ H E I m st y;subst S hw U;obtain⟨f0,f1,f2,f3,Z,Y⟩:=m it (by simp);have W:=qa (prog:=X.prog) (w:=X.w) (I.ok.hd O) it x t;refine W.item i s _ _ y st λv n tk hv l kk=>?_;obtain⟨c,u,F,rfl⟩:=hv;have I1:Inv X a σ H {s with heap:=n,toks:=tk}:=I.turned (λb o j e=>kk b o (by simpa using j) e) f0 f1 f3 Z Y;obtain⟨o,q,L,C⟩:=id l;refine⟨_,rfl,zU (s:={s with heap:=n,toks:=tk}) q L C (by unfold strIterType;split<;>decide) ⟨.str ⟨#[c]⟩,H,I1,⟨u,rfl⟩,⟨rfl,c,F,rfl⟩,l,λb j=>(m b j).1⟩⟩
 done:=by
  intro X S hw U O i a s σ H E I m st y;subst S hw U;obtain⟨f0,f1,f2,f3,Z,Y⟩:=m it (by simp);have W:=qa (prog:=X.prog) (w:=X.w) (I.ok.hd O) it x t;have e:i=x.cps.size:=y;subst e;exact W.done s _ _ st λn tk kk=>⟨rfl,I.turned (t':=tk) (λb o j e=>kk b o (by simpa using j) e) f0 f1 f3 Z Y⟩
 self:=λA i s Q E st h=>by
  have st:s.heap.IsStrIter it (strIterType x) x t i:=st;unfold strIterType at st;split at st
  ·exact wpAny_pyIter_striter_ascii st h
  ·exact wpAny_pyIter_striter_wide st h
mutual
def bM(K:yaM)(H:Hp):yan->V->Prop
 |.none,v=>v=.aY
 |.bool b,v=>v=.bl b
 |.int i,v=>v=.int i
 |.str x,v=>v=.str x
 |.list ds,v=>∃a xs,v=.ref a/\b9 K H a xs/\dB K H ds xs
 |.tuple ds,v=>∃a xs,v=.ref a/\ee K H a xs/\dB K H ds xs
 |.dict _,_=>False
def dB(K:yaM)(H:Hp):List yan->List V->Prop
 |[],xs=>xs=[]
 |d::ds,xs=>∃x r,xs=x::r/\bM K H d x/\dB K H ds r
end
theorem ee.same{xs:List V}(e:∀b o,H b=some o->H' b=some o)(h:ee K H a xs):ee K H' a xs:=by
 rcases h with(h|⟨o,h⟩)|h
 ·exact .inl (.inl (e _ _ h))
 ·exact .inl (.inr ⟨o,e _ _ h⟩)
 ·exact .inr h
mutual
theorem bM.noDict{K:yaM}{H:Hp}:∀(d:yan)(v:V),bM K H d v->d.hasDict=false
 |.none,_,_=>rfl
 |.bool _,_,_=>rfl
 |.int _,_,_=>rfl
 |.str _,_,_=>rfl
 |.list ds,v,h=>by
  simp only[bM] at h;obtain⟨a,xs,_,_,e⟩:=h;simp only[PyData.hasDict];exact dB.noDict ds xs e
 |.tuple ds,v,h=>by
  simp only[bM] at h;obtain⟨a,xs,_,_,e⟩:=h;simp only[PyData.hasDict];exact dB.noDict ds xs e
 |.dict _,_,h=>by simp only[bM] at h
theorem dB.noDict{K:yaM}{H:Hp}:∀(ds:List yan)(xs:List V),dB K H ds xs->PyData.hasDictAll ds=false
 |[],_,_=>rfl
 |d::ds,xs,h=>by
  simp only[dB] at h;obtain⟨x,r,_,h2,a⟩:=h;simp only[PyData.hasDictAll,bM.noDict d x h2,dB.noDict ds r a,zcv]
end
mutual
theorem Inv.reads(I:Inv X pins σ H s):∀(d:yan)(v:V)(u:yaj),bM X.K H d v->RelV v u->∃as,Reads s.heap u d as
 |.none,v,u,h,r=>by
  simp only[bM] at h;subst h;cases r;exact⟨_,.none⟩
 |.bool b,v,u,h,r=>by
  simp only[bM] at h;subst h;cases r;exact⟨_,.bool b⟩
 |.int i,v,u,h,r=>by
  simp only[bM] at h;subst h;obtain⟨t,rfl⟩:=r;exact⟨_,.int i t⟩
 |.str x,v,u,h,r=>by
  simp only[bM] at h;subst h;obtain⟨t,rfl⟩:=r;exact⟨_,.str x t⟩
 |.list ds,v,u,h,r=>by
  simp only[bM] at h;obtain⟨a,xs,rfl,h2,y⟩:=h;cases r;obtain⟨j,l,⟨o,n,e,m,_,hd⟩,_⟩:=I.list h2;obtain⟨as,q⟩:=Inv.readsAll I ds xs j y l;exact⟨_,.list e m hd (by simpa using q)⟩
 |.tuple ds,v,u,h,r=>by
  simp only[bM] at h;obtain⟨a,xs,rfl,h2,y⟩:=h;cases r;obtain⟨j,l,⟨o,e,m,n,hd⟩,_⟩:=I.tuple h2;obtain⟨as,q⟩:=Inv.readsAll I ds xs j y l;exact⟨_,.tuple e m hd (by simpa using q)⟩
 |.dict _,_,_,h,_=>by simp only[bM] at h
theorem Inv.readsAll(I:Inv X pins σ H s):∀(ds:List yan)(xs:List V)(us:List yaj),dB X.K H ds xs->Vals xs us->∃as,ReadsAll s.heap us ds as
 |[],xs,us,h,r=>by
  simp only[dB] at h;subst h;cases r;exact⟨_,.nil⟩
 |d::ds,xs,us,h,r=>by
  simp only[dB] at h;obtain⟨x,a,rfl,h2,i⟩:=h;cases r with
  |cons r1 r2=>
   obtain⟨as,e⟩:=Inv.reads I d x _ h2 r1;obtain⟨bs,q2⟩:=Inv.readsAll I ds a _ i r2;exact⟨_,.cons e q2⟩
end
def OM(K:yaM):List V->Hp->VK->Prop:=λxs H Q=>∃x d,xs=[x]/\bM K H d x/\d.showable=true/\d.depth<=100/\d.shown.length<=yah/\Q (.str d.shown) H
theorem BF{k:Nat}(n:aR k X.A):bN X (.builtin "repr") (OM X.K):=by
 intro l s C H xs L Q I r h;obtain⟨x,d,rfl,hd,m,F,hz,q⟩:=h;obtain⟨u,rfl,j⟩:=vals1 r;have big:∀a,u=.ref a->yas (model X.prog X.w) X.A (call (.builtin "repr") [u]) (EP X l C Q) X.xe s:=λa e=>by
  subst e;obtain⟨S,rd⟩:=I.reads d x _ hd j;refine repr_of_reads' rd m (λz=>?_) n.gd (by have:=n.un;lia) (λb o e=>e) (λO u tk E=>?_) hz
  ·rw[bM.noDict d x hd] at z;cases z
  ·exact⟨.str d.shown,H,I.kept (t':=tk) E,⟨_,rfl⟩,q⟩
 cases d with
 |none=>simp only[bM] at hd;subst hd;cases j;exact PySem.P.repr_of_none ⟨.str _,H,I.tok _,⟨_,rfl⟩,q⟩
 |bool b=>simp only[bM] at hd;subst hd;cases j;exact PySem.P.repr_of_bool ⟨.str _,H,I.tok _,⟨_,rfl⟩,by simpa only[PyData.shown] using q⟩
 |int i=>
  simp only[bM] at hd;subst hd;obtain⟨t,rfl⟩:=j;exact PySem.P.repr_of_int (by simpa[PyData.showable] using m) ⟨.str _,H,I.tok _,⟨_,rfl⟩,by simpa only[PyData.shown] using q⟩
 |str y=>
  simp only[bM] at hd;subst hd;obtain⟨t,rfl⟩:=j;exact PySem.P.repr_of_str ⟨.str _,H,I.tok _,⟨_,rfl⟩,by simpa only[PyData.shown] using q⟩ (by simpa only[PyData.shown] using hz)
 |list ds=>
  simp only[bM] at hd;obtain⟨a,xs,rfl,_⟩:=hd;exact big a j
 |tuple ds=>
  simp only[bM] at hd;obtain⟨a,xs,rfl,_⟩:=hd;exact big a j
 |dict _=>simp only[bM] at hd
def RJ(K:yaM):List V->Hp->VK->Prop:=λxs H Q=>∃x c t u b,xs=[x,c]/\RelV c u/\(∀a,RelV c a->a=u)/\kH K H x t/\zck K t u=some b/\Q (.bl b) H
theorem E5:bN X (.builtin "isinstance") (RJ X.K):=by
 intro i s n H xs o Q I r h;obtain⟨x,c,t,u,b,rfl,y,l,ty,e,q⟩:=h;obtain⟨v,j,rfl,m,a⟩:=vals2 r;cases l j a;exact Bu I m ty e λtk=>⟨.bl b,H,I.tok tk,rfl,q⟩
theorem uz{n:String}:RelV (.ty n) (.type n)/\∀a,RelV (.ty n) a->a=.type n:=⟨rfl,λa h=>h⟩
theorem Dr:RelV (.ref a) (.ref a)/\∀e,RelV (.ref a) e->e=.ref a:=⟨rfl,λe h=>h⟩
theorem yf:∀{bs:List Bool}{its:List yaj},Vals (bs.map V.bl) its->its=bs.map Value.bool
 |[],_,.nil=>rfl
 |b::bs,_,.cons r t=>by rw[zco,yf t,show _=Value.bool b from r]
theorem all_range(bs:List Bool):(zcX bs.length).all (λi=>bs.getD i true)=bs.all id:=by
 induction bs with
 |nil=>rfl
 |cons b r ih=>
  rw[zbu,List.range_succ_eq_map,zcq,List.all_map,zcq];have e:((λi=>(b::r).getD i true) ∘ Nat.succ)=λi=>r.getD i true:=by funext i;simp
  rw[e,ih];simp
theorem II{l:Addr}(j:s.heap.IsList l its)(h:∀a:yai,a={s with heap:=s.heap.push {cls:=.type "list_iterator",data:=.fields #[.ref l,.int 0 0]}}->(a.heap.IsListIter s.heap.objs.size l 0/\a.heap.IsList l its)->l≠s.heap.objs.size->Q (.ref s.heap.objs.size) a):
  yas (model X.prog X.w) A (pyIter (.ref l)) Q E s:=by
 have i:l<s.heap.objs.size:=by obtain⟨_,e,_⟩:=j;exact zcP e
 exact wpAny_pyIter_list j (h _ rfl ⟨⟨_,zaM _ rfl,rfl,rfl⟩,j.push _⟩ (zcG i))
theorem E6(O:X.calm=true):bN X (.builtin "all") (λxs H Q=>∃(a:Addr)(bs:List Bool),xs=[.ref a]/\b9 X.K H a (bs.map V.bl)/\Q (.bl (bs.all id)) H):=by
 intro C s W H xs Y Q I r h;obtain⟨a,bs,rfl,P,q⟩:=h;obtain⟨u,rfl,ru⟩:=vals1 r;cases ru;obtain⟨F,E,pl,hz⟩:=I.list P;have S:=yf E;subst S;refine call_all_walk (II pl.isList λy e st m=>?_);subst e;refine⟨_,_,_,_,_,_,λi=>bs.getD i true,rfl,Walks.list (A:=X.A.in1) (I.ok.hd O) _ a m _,st,λi v s U E' j l=>?_,λZ tk L=>?_⟩
 ·have j:(bs.map Value.bool).toArray[i]? =some v:=j;rw[List.getElem?_toArray,zbe] at j;cases n:bs[i]? with
  |none=>rw[n] at j;cases j
  |some b=>
   rw[n] at j;cases j;refine wpAny_truthy_bool ?_;have:bs.getD i true=b:=by rw[List.getD_eq_getElem?_getD,n];rfl
   have l:U (bs.getD i true) s:=l;rw[this] at l;exact l
 ·refine⟨.bl (bs.all id),H,I.kept (t':=tk) λb o e=>L b o (by simp;intro z;exact absurd (z▸zcP e) (zct _)) (zar _ e),?_,q⟩;rw[<-all_range bs];show _=_;simp
theorem BG(W:X.calm=true):bN X (.builtin "min") (λxs H Q=>∃(a:Addr)(ns:List Int),xs=[.ref a]/\b9 X.K H a (ns.map V.int)/\0<ns.length/\∀m,m∈ns->(∀n∈ns,m<=n)->Q (.int m) H):=by
 intro z s Z H xs us Q I r h;obtain⟨a,ns,rfl,Y,o,q⟩:=h;obtain⟨u,rfl,ru⟩:=vals1 r;cases ru;obtain⟨L,y,pl,hz⟩:=I.list Y;obtain⟨xs,e⟩:=(intsAre_of y).allInts.items;have U:=intsAre_of y;have i:ns=xs.toList.map (·.1):=by rw[<-U.numsOf,<-nums_intItems,<-e]
 have l:0<xs.size:=by
  have F:=o;rw[i,zbN,zaK] at F;exact F
 have E:=pl.isList;rw[e] at E;refine min_intList (I.ok.hd W) E l λv h' tk O P=>?_;obtain⟨t,rfl⟩:=intItems_at O;obtain⟨h1,h2⟩:=argBest_lt (numAt xs) (xs.size - 1);refine⟨.int _,H,I.kept (t':=tk) P,⟨t,rfl⟩,q _ ?_ λn C=>?_⟩
 ·rw[i,numAt_eq];exact getD_mem (by rw[zbN,zaK];lia)
 ·rw[i] at C;obtain⟨j,S,rfl⟩:=mem_getD C;rw[zbN,zaK] at S;rw[<-numAt_eq];exact h2 j (by lia)
theorem Ba:fk X (yao .LtE) (λx y H Q=>∃i j,x=.str i/\y=.str j/\Q (.bl (!decide (j.cps.toList<i.cps.toList))) H):=by
 intro a s m H x y v u Q I l e h;obtain⟨i,j,rfl,rfl,q⟩:=h;obtain⟨t,rfl⟩:=l;obtain⟨n,rfl⟩:=e;exact PySem.P.le_str (aX I q rfl)
theorem Lf:Gf X (λx e m H Q=>∃y,x=.str y/\y.length<=yah/\Q (.str (Txt.slice y e m)) H):=by
 intro a s n H x v C z e m E Q I L O pl pu h;obtain⟨y,rfl,hz,q⟩:=h;obtain⟨t,rfl⟩:=L;have fin:∀(l u:Option (Int×Tok)),C=partValue l->z=partValue u->e=l.map (·.1)->m=u.map (·.1)->yas (model X.prog X.w) X.A (getItem (.str y t) (.ref E)) (EP X a n Q) X.xe s:=λl u Z Y W U=>by
  obtain⟨o,P,S,hd⟩:=O;refine wpAny_getItem_str_slice (l:=l) (u:=u) (st:=none) ⟨o,P,S,by rw[hd,Z,Y];rfl⟩ rfl ?_;subst W U;exact post_val_or_str ⟨zcH (Txt.slice_le y _ _) hz,λt' k=>⟨.str _,H,I.tok _,⟨_,rfl⟩,q⟩⟩
 refine⟨"str",_,PySem.F.slot_str_getitem.lookup,typeIs_str _ _ _,?_⟩;cases pl with
 |none=>
  cases pu with
  |none=>exact fin none none rfl rfl rfl rfl
  |int j tj=>exact fin none (some (j,tj)) rfl rfl rfl rfl
 |int i ti=>
  cases pu with
  |none=>exact fin (some (i,ti)) none rfl rfl rfl rfl
  |int j tj=>exact fin (some (i,ti)) (some (j,tj)) rfl rfl rfl rfl
theorem HB:FZ X "str.find" (λx vs H Q=>∃y z,x=.str y/\vs=[.str z]/\Q (.int (Txt.find y z)) H):=by
 intro a s j H x vs v l Q I e i h;obtain⟨y,z,rfl,rfl,q⟩:=h;obtain⟨t,rfl⟩:=e;obtain⟨u,rfl,m,rfl⟩:=vals1 i;exact SC.find ⟨.int _,H,I.tok _,⟨_,rfl⟩,q⟩
theorem jE:∀{ys:List Str}{its:List yaj},Vals (ys.map V.str) its->StrsAre its ys
 |[],_,.nil=>.nil
 |y::ys,_,.cons r t=>by
  obtain⟨tk,e⟩:=(show∃t,_=Value.str y t from r)
  subst e;exact .cons y tk (jE t)
theorem HA:FZ X "str.join" (λx vs H Q=>∃(y:Str)(a:Addr)(ys:List Str),x=.str y/\vs=[.ref a]/\b9 X.K H a (ys.map V.str)/\(ys.map (·.length)).sum+ys.length*y.length<=16777216/\Q (.str (Txt.join y ys)) H):=by
 intro e s n H x vs v o Q I i j h;obtain⟨y,a,ys,rfl,rfl,m,hz,q⟩:=h;obtain⟨t,rfl⟩:=i;obtain⟨u,rfl,ru⟩:=vals1 j;cases ru;obtain⟨l,r,pl,_⟩:=I.list m;exact join_list pl.isList (by simpa using jE r) hz λz k=>⟨.str _,H,I.tok _,⟨_,rfl⟩,q⟩
noncomputable def notStar:Expr->Bool
 |.Starred _ _=>false
 |_=>true
theorem aU(es:List Expr)(env:Env)(h:notStar e=true):yap (e::es) env=(false,eval e env)::yap es env:=by
 cases e<;>first|rfl|cases h
theorem cE{pos:Pos}{env:Env}:∀(es:List Expr),es.all notStar=true->(yav pos (yap es env)).any (·.1)=false
 |[],_=>rfl
 |e::es,h=>by
  rw[zcq,zbH] at h;rw[aU es env h.1];show(false||(yav pos (yap es env)).any (·.1))=false;rw[cE es h.2];rfl
theorem tX{pos:Pos}{env:Env}:∀(es:List Expr),es.all notStar=true->(yav pos (yap es env)).all (λx=>!x.1)=true
 |[],_=>rfl
 |e::es,h=>by
  rw[zcq,zbH] at h;rw[aU es env h.1];show(true&&(yav pos (yap es env)).all (λx=>!x.1))=true;rw[tX es h.2];rfl
section
variable {t:TA}{id T:String}{r:List V->Hp->VK->Prop}
theorem az(j:PE X e te)(i:PA X es t)(a:autoParam (notStar e=true) r0):PA X (e::es) (nj te t):=Hj j i (aU es X.env a)
theorem mF(o:bN X (.builtin id) r)(n:Gl X x)(m:X.mg x=none)(i:bootBuiltins x=some (.builtin id))(q:PA X (e::es) t)(l:x≠"__name__":=by decide+kernel)(a:(x==("__debug__":Str))=false:=by decide+kernel)(j:autoParam ((e::es).all notStar=true) r0):PE X (.Call (.Name x p) (e::es) [] pos) (NU r t):=by
 have h2:=j;rw[zcq,zbH] at h2;exact DF o n m i q l a (aU es X.env h2.1) (cE es h2.2)
theorem RS(o:bN X (.type T) r)(n:Gl X x)(m:X.mg x=none)(i:bootBuiltins x=some (.type T))(q:PA X (e::es) t)(l:x≠"__name__":=by decide+kernel)(a:(x==("__debug__":Str))=false:=by decide+kernel)(j:autoParam ((e::es).all notStar=true) r0):PE X (.Call (.Name x p) (e::es) [] pos) (NU r t):=by
 have h2:=j;rw[zcq,zbH] at h2;exact AZ o n m i q l a (aU es X.env h2.1) (cE es h2.2)
end
structure Src(K:yaM)(mg:Str->Option yaj)(x:Str)(ps:List Str)(st:Stmt):Prop where
 ex:∃f fd,rg K x x st f fd/\mg x=some (.ref f)/\Binds K fd ps []
structure Def(P:yak)(w:yal)(K:yaM)(mg:Str->Option yaj)(base:Heap)(k:Nat)(x:Str)(ps:List Str)(sp:Sp):Prop where
 ex:∃f fd,bL P w K mg base iF k f fd ps sp/\mg x=some (.ref f)/\zcj K (.ref f)=true/\Binds K fd ps []
section
variable {w:yal}
theorem Src.def{k:Nat}(F:Src K mg x ps st)(S:aE N ps (ah st))(len:∀vs H Q E,sp vs H Q E->vs.length=ps.length)(a:∀(f:Addr)(e:yaj)(A:yam)(outer:List Env)(s:yai)(H:Hp)(vs:List V)(Q:VK)(E:XK),aR k (A.deeper (envOfC x (ah st) s.heap.objs.size f e))->sp vs H Q E->∃t,pQ (d9 iF P w K mg base N x (ah st) f e A outer s H E).DS (aT st) t/\t {nx:=λ_ H'=>Q .aY H',rt:=Q} (start N vs) H):Def P w K mg base (k+1) x ps sp:=by
 obtain⟨f,fd,F,i,j⟩:=F.ex;exact⟨f,fd,F.ok S len (a f),i,F.kp,j⟩
end
theorem Def.imp{w:yal}{k:Nat}{a:Sp}(D:Def P w K mg base k x ps sp)(h:∀vs H Q E,a vs H Q E->sp vs H Q E):Def P w K mg base k x ps a:=by
 obtain⟨f,fd,F,e,i,j⟩:=D.ex;exact⟨f,fd,F.imp h,e,i,j⟩
section
variable {t:TA}{k:Nat}
theorem xA(D:Def X.prog X.w X.K X.mg X.base k x ps sp)(l:aR k X.A)(o:Gl X x)(i:Passes iF X E0)(u:PA X (e::es) t)(a:(x==("__debug__":Str))=false:=by decide+kernel)(j:autoParam ((e::es).all notStar=true) r0):
  PE X (.Call (.Name x p) (e::es) [] pos) (yN sp [] E0 t):=by
 obtain⟨f,fd,F,m,n,q⟩:=D.ex;have h2:=j;rw[zcq,zbH] at h2;exact Hh F l o m n q .nil i u a (aU es X.env h2.1) (cE es h2.2)
theorem qw(T:String)(j:Gl X x)(i:X.mg x=none)(a:bootBuiltins x=some (.type T))(e:x≠"__name__":=by decide+kernel)(hd:(x==("__debug__":Str))=false:=by decide+kernel):PE X (.Name x pos) (tC (.ty T)):=
 Hi j i a rfl e hd
end
noncomputable def Nc(scope:Scope)(N:List Str):Bool:=
 (match scope.kind with|.function=>true|_=>false)&&decide N.Nodup&&scope.names.all λy=>y.2 != .cell&&scope.names.lookup y.1==some y.2
theorem lT(h:Nc scope N=true):dW scope N:=by
 unfold Nc at h;rw[zbH,zbH] at h;obtain⟨⟨h1,h2⟩,a⟩:=h;have a:=zby.mp a;refine⟨?_,of_decide_eq_true h2,λy i=>?_,λy i=>?_⟩
 ·cases e:scope.kind<;>rw[e] at h1<;>first|rfl|cases h1
 ·have:=a y i;rw[zbH] at this;simpa using this.1
 ·have:=a y i;rw[zbH] at this;simpa using this.2
section
def RH(K:yaM):List V->Hp->VK->Prop:=λxs H Q=>∃x n,xs=[x]/\NK K x H n/\Q (.int n) H
theorem E8(a:autoParam (X.K=K) r0):bN X (.builtin "len") (RH K):=by subst a;exact vJ
theorem R1(a:autoParam (X.K=K) r0):B4 X (LM K):=by subst a;exact zP
theorem QO(a:autoParam (X.K=K) r0):B4 X (LL K):=by subst a;exact xQ
theorem DR(a:autoParam (X.K=K) r0):fk X (yao .In) (SR K false):=by subst a;exact Bb
variable {o:Expr}{to:TE}{t:TA}{name:Str}{T id:String}
theorem om(n:PlainAttrs T)(slot:Slot T name id)(l:typeOf (.builtin id)=pure (.type "method_descriptor"))(u:FZ X id r)(q:PE X o to)(y:PA X (e::es) t)(i:autoParam (attributeBase o name X.env (eval o X.env)=eval o X.env) r0)(m:autoParam ((e::es).all notStar=true) r0)(j:autoParam (decide ((e::es).length+0+0<30)=true) r0)(a:autoParam ((apos.endLine==cpos.line)=true) r0)(z:autoParam (X.K=K) r0):PE X (.Call (.Attribute o name apos) (e::es) [] cpos) (QI K T r to t):=by
 subst z;have h2:=m;rw[zcq,zbH] at h2;refine dg n slot l u q y i ?_ a (aU es X.env h2.1) (cE es h2.2);rw[tX _ m];show(true&&true&&decide ((e::es).length+0+0<30))=true;rw[j];rfl
end
def KH(x:Str):Prop:=∀c∈x.cps.toList,c<128
mutual
noncomputable def wt:yan->Nat
 |.none|.bool _|.dict _=>5
 |.int i=>(PyData.shown (.int i)).length
 |.str x=>10*x.length+2
 |.list ds|.tuple ds=>gO ds+3
noncomputable def gO:List yan->Nat
 |[]=>0
 |d::ds=>wt d+2+gO ds
end
mutual
def pZ:yan->Prop
 |.none|.bool _=>True
 |.int i=>i.natAbs.log2<1920
 |.str x=>∀c∈x.cps.toList,c<16 ^ 8
 |.list ds|.tuple ds=>cN ds
 |.dict _=>False
def cN:List yan->Prop
 |[]=>True
 |d::ds=>pZ d/\cN ds
end
theorem uU(ts:List Str):(listText ts).length<=piled ts+3:=by
 cases ts with
 |nil=>decide+kernel
 |cons t r=>
  have h:=textFrom_length_pos r 1 (("[":Str)++(if(0:Nat)> 0 then ", " else "":String)++t) (Nat.succ_pos 0);have e:((("[":Str)++(if(0:Nat)> 0 then ", " else "":String)++t)).length=1+t.length:=by
   rw[strLen_append,strLen_append];rfl
  have i:(listText (t::r)).length=(textFrom 0 "[" (t::r)).length+1:=by
   show(textFrom 0 "[" (t::r)++"]").length=_;rw[strLen_append];rfl
  have a:(textFrom 0 "[" (t::r)).length=(textFrom 1 (("[":Str)++(if(0:Nat)> 0 then ", " else "":String)++t) r).length:=rfl;rw[i,a,h,e,piled_cons];lia
theorem rm(ts:List Str):(tupleText ts).length<=piled ts+3:=by
 unfold tupleText;rw[strLen_append,strLen_append];have h1:("(":Str).length=1:=rfl;have h2:((if(ts.length==1)=true then ",)" else ")":String):Str).length<=2:=by split<;>decide+kernel
 by_cases a:ts=[]
 ·subst a;have e:(Str.join ", " []).length=0:=rfl;lia
 ·have:=join_length_add ts a;lia
mutual
theorem shown_le:∀d:yan,pZ d->d.shown.length<=wt d
 |.none,_=>by simp only[PyData.shown,wt];decide+kernel
 |.bool b,_=>by cases b<;>(simp only[PyData.shown,wt];decide+kernel)
 |.int i,_=>by simp only[wt];exact zcS _
 |.str x,h=>by
  simp only[pZ] at h;simp only[PyData.shown,wt];exact StrLaws.reprText_len x h
 |.list ds,h=>by
  simp only[pZ] at h;simp only[PyData.shown,wt];have h1:=shownAll_le ds h;have h2:=uU (PyData.shownAll ds);lia
 |.tuple ds,h=>by
  simp only[pZ] at h;simp only[PyData.shown,wt];have h1:=shownAll_le ds h;have h2:=rm (PyData.shownAll ds);lia
 |.dict _,h=>by simp only[pZ] at h
theorem shownAll_le:∀ds:List yan,cN ds->piled (PyData.shownAll ds)<=gO ds
 |[],_=>by simp only[PyData.shownAll,gO];exact zcS _
 |d::ds,h=>by
  simp only[cN] at h;simp only[PyData.shownAll,gO];rw[piled_cons];have h1:=shown_le d h.1;have h2:=shownAll_le ds h.2;lia
end
mutual
theorem pZ.show:∀d:yan,pZ d->d.showable=true
 |.none,_=>rfl
 |.bool b,_=>rfl
 |.int i,h=>by simp only[pZ] at h;simp only[PyData.showable];exact yDt h
 |.str x,h=>rfl
 |.list ds,h=>by simp only[pZ] at h;simp only[PyData.showable];exact cN.show ds h
 |.tuple ds,h=>by simp only[pZ] at h;simp only[PyData.showable];exact cN.show ds h
 |.dict _,h=>by simp only[pZ] at h
theorem cN.show:∀ds:List yan,cN ds->PyData.showableAll ds=true
 |[],_=>rfl
 |d::ds,h=>by
  simp only[cN] at h;simp only[PyData.showableAll,pZ.show d h.1,cN.show ds h.2,zcw]
end
theorem KH.ok(h:KH x):∀c∈x.cps.toList,c<16 ^ 8:=λc a=>Nat.lt_trans (h c a) (by decide)
noncomputable def P7(x:Str):Bool:=x.cps.toList.all λc=>decide (c<128)
theorem sN(h:P7 x=true):KH x:=λc a=>of_decide_eq_true (zby.mp h c a)
end L2
set_option maxHeartbeats 400000
namespace PySem.W
open PySem PySem.Calls PyProof.Rows Builtin Builtin.ObjectAttr
noncomputable abbrev bO(C:Addr)(od:Option Addr)(vs:Array yaj):Obj:={cls:=.ref C,dict:=od,data:=.fields vs}
section
variable {w:yal}{K:Frag}{x:Addr}{ox:Obj}{name:Str}{expr:Bool}
theorem oJ{M:Model}{h:Heap}{T:String}(X:K.In h)(I:InstAt h x ox C od)(a:subIn K (.ref C) (.type T)=some true):Looks M h (isInstance (.ref x) (.type T)) true:=by
 have i:=I.type (M:=M);have e:=looks_subIn (M:=M) X a;unfold isInstance;exact i.andThen e
theorem H9:builtinKind "BaseException.__getattribute__"=some .slot:=by decide+kernel
theorem Ez:splitId "BaseException.__getattribute__"=some ("BaseException","__getattribute__"):=by decide+kernel
theorem E1{M:Model}{a:yaj}{Q:Unit->yai->Prop}(i:Looks M s.heap (isInstance (.ref x) (.type "BaseException")) true)(q:Q () s):
  yas M A (checkBuiltinCall "BaseException.__getattribute__" ⟨[.ref x,a],[]⟩) Q E s:=by
 have e:=F.args_bexc_ga (.ref x) a;have h:=@check_slot M A E s "BaseException.__getattribute__" "BaseException" "__getattribute__" (.ref x) [a] [] Q H9 Ez i;generalize argsOk "BaseException.__getattribute__" {pos:=[Value.ref x,a]}=p at e h;exact h e q
theorem HZ{v:yaj}(X:K.In s.heap)(I:InstAt s.heap x ox C od)(j:findIn K (.ref C) "__getattribute__"=some (some (.builtin "BaseException.__getattribute__")))(i:findIn K (.ref C) "__getattr__"=some none)(m:subIn K (.ref C) (.type "BaseException")=some true)(o:findObj K C od name=some (.value v))(n:handedIn v=true)(h:Q v {s with toks:=s.toks+1}):yas (model prog w) A (getAttr (.ref x) name expr) Q E s:=by
 obtain⟨H,g,d,t,os⟩:=s;have l:=I.type (M:=model prog w);have z:=looks_findIn (M:=model prog w) X j;have L2:=looks_findIn (M:=model prog w) X i;have y:=looks_find (M:=model prog w) X I o;have u:=oJ (M:=model prog w) X I m;have e:(expr&&onTheHeap (Value.builtin "BaseException.__getattribute__"))=false:=by cases expr<;>rfl
 have a:(Value.builtin "BaseException.__getattribute__"==Value.builtin "object.__getattribute__")=false:=by decide+kernel
 have q:=F.excAttr_ValueError.ga.bind (.ref x);unfold getAttr getAttrBy;refine yaa (wpAny_mkText (yad (yaa (l.at (yaa (z.at ?_))))));show yas _ _ (if(onTheHeap (Value.ref C)&&Value.builtin "BaseException.__getattribute__"==Value.builtin "object.__getattribute__")=true then _ else _) _ _ _;rw[a,zch,yIn (by decide)];unfold getAttrByItsOwn hookBefore;show yas _ _ (typeLookup (.ref C) "__getattr__" >>= _) _ _ _;refine yaa (L2.at (yaa (wpAny_attempt (yad ?_))));unfold callGetattribute;rw[e,yIn (by decide)];unfold boundAndCalled;rw[q];refine yaa (yab ?_);refine yaL (codeAny_call_builtin F.excAttr_ValueError.ga.plain F.entry_bexc_ga ?_);show yas _ _ (checkBuiltinCall "BaseException.__getattribute__" ⟨[.ref x,.str name t],[]⟩) _ _ _;refine E1 ?_ ?_
 ·exact u
 unfold Builtin.«object.__getattribute__»;refine yaa (yab (yaa (yab (yaa (l.at (yaa (y.at ?_)))))));refine yab ?_;show yas _ _ (handedOut v) _ _ _;rw[handedOut_of n];exact yab h
noncomputable def lG:List yaj->Bool
 |.ref _::r=>lG r
 |l=>l==[.type "ValueError",.type "Exception",.type "BaseException",.type "object"]
theorem rS(self:yaj):refuseLoop self "__setattr__" [.type "ValueError",.type "Exception",.type "BaseException",.type "object"]=pure ():=by kernel_rfl
theorem kP:lG []=false:=by decide+kernel
theorem wI{n:String}{r:List yaj}(e:lG (.type n::r)=true):(.type n::r)=[.type "ValueError",.type "Exception",.type "BaseException",.type "object"]:=by
 have a:((.type n::r:List yaj)==[.type "ValueError",.type "Exception",.type "BaseException",.type "object"])=true:=e;exact beq_iff_eq.mp a
theorem nh:∀{l:List yaj},lG l=true->l=[.type "ValueError",.type "Exception",.type "BaseException",.type "object"]∨∃c r,l=.ref c::r/\lG r=true
 |[],e=>by rw[kP] at e;cases e
 |.ref c::r,e=>.inr ⟨c,r,rfl,e⟩
 |.type n::r,e=>.inl (wI e)
 |.none::r,e=>.inl (beq_iff_eq.mp (show((.none::r:List yaj)==_)=true from e))
 |.bool b::r,e=>.inl (beq_iff_eq.mp (show((.bool b::r:List yaj)==_)=true from e))
 |.int b t::r,e=>.inl (beq_iff_eq.mp (show((.int b t::r:List yaj)==_)=true from e))
 |.float b t::r,e=>.inl (beq_iff_eq.mp (show((.float b t::r:List yaj)==_)=true from e))
 |.str b t::r,e=>.inl (beq_iff_eq.mp (show((.str b t::r:List yaj)==_)=true from e))
 |.bytes b t::r,e=>.inl (beq_iff_eq.mp (show((.bytes b t::r:List yaj)==_)=true from e))
 |.builtin b::r,e=>.inl (beq_iff_eq.mp (show((.builtin b::r:List yaj)==_)=true from e))
 |v::r,e=>by
  first
   |(cases v<;>first|exact .inl (beq_iff_eq.mp e)|exact .inr ⟨_,_,rfl,e⟩)
theorem uA(self:yaj):∀{l:List yaj},lG l=true->refuseLoop self "__setattr__" l=pure ():=by
 intro l
 induction l with
 |nil=>intro e;rw[kP] at e;cases e
 |cons v r ih=>
  intro e;rcases nh e with e|⟨c,j,i,a⟩
  ·rw[e];exact rS self
  ·cases i;rw[refuseLoop_ref];exact ih a
theorem Cq:∀{l:List yaj},lG l=true->l.contains (.type "object")=true/\l.isEmpty=false:=by
 intro l
 induction l with
 |nil=>intro e;rw[kP] at e;cases e
 |cons v r ih=>
  intro e;refine⟨?_,rfl⟩;rcases nh e with e|⟨c,j,i,a⟩
  ·rw[e];decide+kernel
  ·cases i;rw[zaP,(ih a).1,Bool.or_true]
noncomputable def kg(K:Frag)(C:Addr):Bool:=(clsIn K C).any λa=>lG a.mro&&a.hasDict
theorem Ho{name:Str}{tk:Tok}{v:yaj}{R:Result->yai->Prop}(X:K.In s.heap)(I:InstAt s.heap x ox C od)(n:kg K C=true)(q:findIn K (.ref C) name=some none)(h:yas (model prog w) A.in1 (storeInOwnDict (.ref x) (.ref C) (.str name tk) name v false) (λfin s'=>match fin with|.done f=>R (.ok f) s'|.again c'=>c'.quiet=true/\codeAny (model prog w) A c' R s') (λe s'=>R (.error e) s') s):
  codeAny (model prog w) A (.call (.builtin "object.__setattr__") ⟨[.ref x,.str name tk,v],[]⟩) R s:=by
 have a:=PySem.F.store_object;obtain⟨u,j,i⟩:=any_some n;rw[zbH] at i;obtain⟨m,l⟩:=Cq i.1;have sub:Looks (model prog w) s.heap (isInstance (.ref x) (.type "object")) true:=I.type.andThen (looks_mroIn X (by unfold mroIn;rw[j,zbL,yIn (by rw[l];decide),m]));refine codeAny_call_builtin a.slot.plain a.entry (@check_slot (model prog w) _ _ s "object.__setattr__" "object" "__setattr__" (.ref x) [.str name tk,v] [] _ a.kind a.split sub (a.args (.ref x) (.str name tk) v) ?_);have o:Looks (model prog w) s.heap (mroOf (.ref C)) u.mro:=(looks_clsIn X j).andThen .now;rw[osa_eq,refuse_eq];refine yaa (yaa (I.type.here (yaa (o.here ?_))));rw[uA _ i.1];refine yab (yaa (I.type.here (yaa ((looks_findIn X q).here (yaa (yab ?_))))));exact h
theorem Hv{h:Heap}(e:h.get? a=some emptyDict):h.Ns1 a λ_=>none:=
 ⟨emptyDict,#[],_,e,rfl,λy i=>absurd i (by simp),by first|exact λ_ _ j=>absurd j (by simp)|simp[UniqKeys]|(unfold UniqKeys;simp),λname=>rfl⟩
theorem CQ{name:Str}{v:yaj}{vs:Array yaj}{Q:Unit->yai->Prop}(X:K.In s.heap)(n:s.heap.get? x=some (bO C none vs))(S:findIn K (.ref C) "__setattr__"=some (some (.builtin "object.__setattr__")))(O:kg K C=true)(Y:findIn K (.ref C) name=some none)(h:∀h',h'.Ns1 s.heap.objs.size (λy=>if y=name then some v else none)->h'.get? x=some (bO C (some s.heap.objs.size) vs)->(∀b o,b≠x->s.heap.get? b=some o->h'.get? b=some o)->Q () {s with heap:=h',toks:=s.toks+2}):
  yas (model prog w) A (setAttr (.ref x) name v) Q E s:=by
 have I:InstAt s.heap x (bO C none vs) C none:=⟨n,rfl,rfl,trivial⟩
 refine set_plain X I S (Ho (s:={s with toks:=s.toks+1}) X I O Y ?_);obtain⟨cd,U,m⟩:=any_some O;rw[zbH] at m;have l:x<s.heap.objs.size:=zcP n;refine yaa (yab (yaa (yaa (yaE n (yaa (PySem.W.Looks.here (s:={s with toks:=s.toks+1}) (PySem.W.looks_clsIn X U) ?_))))));rw[m.2];have a:(s.heap.push emptyDict).get? x=some (bO C none vs):=zar _ n;refine yaa (wpAny_alloc (yaa (wpAny_update a ?_)));have q:((s.heap.push emptyDict).update x λo=>{o with dict:=some s.heap.objs.size}).get? x=some (bO C (some s.heap.objs.size) vs):=by rw[zaz _ a rfl]
 have F:((s.heap.push emptyDict).update x λo=>{o with dict:=some s.heap.objs.size}).get? s.heap.objs.size=some emptyDict:=by
  rw[zas _ _ (zcG l)];exact zaM _ rfl
 have z:∀b o,b≠x->s.heap.get? b=some o->((s.heap.push emptyDict).update x λo=>{o with dict:=some s.heap.objs.size}).get? b=some o:=λb o L e=>by
  rw[zas _ _ (Ne.symm L)];exact zar _ e
 refine yab (yaa (yab (yaa ?_)));refine wpAny_nsSet1 (s:={s with heap:=(s.heap.push emptyDict).update x λo=>{o with dict:=some s.heap.objs.size},toks:=s.toks+1}) (Hv F) λh' j i=>?_;obtain⟨oD,Z,epD,u,QU,H⟩:=j.count (PySem.Within.cons (ns:=[]) name v (λy P=>absurd rfl P));refine yaa (wpAny_lookBehind u (by rw[QU];exact pastItsLine_dict (zcH H (by rw[zbu,yag];simp))) ?_);exact yab (h _ j ((i.2 _ (zcG l)).trans q) λb o L e=>(i.2 b (zcG (zcP e))).trans (z b o L e))
end
section
variable {w:yal}{K:Frag}{x:Addr}{ox:Obj}
variable {nm q:Str}{N:Addr}{bs bm:List yaj}{hdct:Bool}{sn:List Str}{sub:List yaj}{ab:Bool}{col:Option Bool}{dd:Option Addr}{k0 k1 k2 k3 k5:Option yaj}{newId:String}
theorem EZ{M:Model}{g:Array yax}{d:Drawn}{t:Nat}{ws:List yaj}{Q:Unit->yai->Prop}(j:hp.get? C=some (excClassObj nm q C N bs bm hdct sn sub ab col dd k0 k1 k2 k3 k5 newId))(m:hp.get? x=some ox)(e:ox.cls=.ref C)(o:bm.contains (.type "ValueError")=true)(l:Q () ⟨hp,g,d,t,os⟩):
  yas M A (checkBuiltinCall "ValueError.__init__" ⟨.ref x::ws,[]⟩) Q E ⟨hp,g,d,t,os⟩:=by
 have F:=PySem.F.excCall_ValueError;have i:(Value.ref C::bm).contains (.type "ValueError")=true:=by rw[zaP,o,Bool.or_true]
 have u:=F.noStar;simp only[checkBuiltinCall,F.initKind,F.initSplit,F.initRow]
 repeat (first|(with_reducible refine yae m ?_;rw[e])|with_reducible refine yae j ?_|(with_reducible refine wpAny_isSubtype_exc j ?_;rw[i])|wp_step)
 refine wpAny_onRaise ?_;rw[show∀(a b:String)(n:Nat),Bind.check ⟨.positional,"*","ValueError",.self,[⟨"args",.varPos,false⟩]⟩ a b n (List.map (λx=>x.fst) ({pos:=Value.ref x::ws}:Args).kw)=pure () from λa b n=>check_star_args _ _ _ _ _ _];exact yab l
theorem En{ws:List yaj}{n m l j i:yaj}(z:s.heap.get? C=some (excClassObj nm q C N bs bm hdct sn sub ab col dd k0 k1 k2 k3 k5 newId))(H:bm.contains (.type "ValueError")=true)(a:s.heap.get? x=some (bO C d0 #[.ref t0,n,m,l,j,i]))(hz:ws.length<=yah)(h:∀h',h'.get? x=some (bO C d0 #[.ref s.heap.objs.size,n,m,l,j,i])->(∀b o,b≠x->s.heap.get? b=some o->h'.get? b=some o)->Q .none {s with heap:=h'}):
  yas (model prog w) A (call (.builtin "ValueError.__init__") (.ref x::ws)) Q E s:=by
 have F:=PySem.F.excCall_ValueError;obtain⟨u,g,d,t,os⟩:=s;refine yaL (codeAny_call_builtin F.init.plain F.initEntry (EZ z a rfl H ?_));have a:u.get? x=some (bO C d0 #[.ref t0,n,m,l,j,i]):=a
 wp_walk
 refine h _ ?_ (λb o y e=>?_)
 ·rw[zaz _ (zar _ a) rfl];rfl
 ·rw[zas _ _ (Ne.symm y)];exact zar _ e
theorem IE{g:Array yax}{d:Drawn}{t:Nat}{M:Model}{rest:List yaj}{Q:Unit->yai->Prop}(a:hp.get? C=some (excClassObj nm q C N bs bm hdct sn sub ab col dd k0 k1 k2 k3 k5 "ValueError.__new__"))(l:bm.contains (.type "ValueError")=true)(j:Q () ⟨hp,g,d,t,os⟩):yas M A (checkBuiltinCall "ValueError.__new__" ⟨.ref C::rest,[]⟩) Q E ⟨hp,g,d,t,os⟩:=by
 have e:=PySem.F.excBase_ValueError;have m:(Value.ref C::bm).contains (.type "ValueError")=true:=by rw[zaP,l,Bool.or_true]
 have i:=e.noStar;simp only[checkBuiltinCall,e.newKind,e.newSplit,e.newRow]
 repeat (first|refine yae a ?_|(refine wpAny_isSubtype_exc a ?_;rw[m])|refine wpAny_staticBase_exc a ?_|refine wpAny_madeBy_exc a ?_|simp only[bne_self_eq_false,zaY,if_false]|wp_step)
 exact j
theorem Hx{g:Array yax}{d:Drawn}{t:Nat}{R:Result->yai->Prop}{rest:List yaj}(l:hp.get? C=some (excClassObj nm q C N bs bm hdct sn sub ab col dd k0 k1 k2 k3 k5 "ValueError.__new__"))(o:bm.contains (.type "ValueError")=true)(u:bm.contains (.type "AttributeError")=false)(n:bm.contains (.type "NameError")=false)(hz:rest.length<=yah)(m:R (.ok (.ret (.ref (hp.objs.size+1)))) ⟨(hp.push {cls:=.type "tuple",data:=.seq rest.toArray}).push (bO C none #[.ref hp.objs.size,.none,.none,.none,.bool false,.none]),g,d,t,os⟩):
  codeAny (model prog w) A (.builtin "ValueError.__new__" ⟨.ref C::rest,[]⟩) R ⟨hp,g,d,t,os⟩:=by
 have a:=PySem.F.excBase_ValueError;have y:=a.ends;have i:(Value.ref C::bm).contains (.type "ValueError")=true:=by rw[zaP,o,Bool.or_true]
 have j:(Value.ref C::bm).contains (.type "AttributeError")=false:=by rw[zaP,u];rfl
 have e:(Value.ref C::bm).contains (.type "NameError")=false:=by rw[zaP,n];rfl
 refine codeAny_builtinAt a.entry ?_;unfold Builtin.«BaseException.__new__»;refine wpAt_bind ?_;show wpAt _ _ _ (stack >>= _) _ _ _;refine wpAt_bind (wpAt_stack λp below=>wpAt_of_wpAny ?_)
 wp_walk
 refine wpAt_of_wpAny ?_;rw[a.owner]
 repeat (first|with_reducible refine wpAny_madeHere_exc a.canon l ?_|with_reducible refine yae l ?_|(with_reducible refine wpAny_isSubtype_exc l ?_;first|rw[i]|rw[j]|rw[e])|wp_step)
 show R _ _;rw[zcm];exact m
theorem D7{g:Array yax}{d:Drawn}{t:Nat}{R:Result->yai->Prop}{rest:List yaj}(a:hp.get? C=some (excClassObj nm q C N bs bm hdct sn sub ab col dd k0 k1 k2 k3 k5 "ValueError.__new__"))(j:bm.contains (.type "ValueError")=true)(L:bm.contains (.type "AttributeError")=false)(I:bm.contains (.type "NameError")=false)(hz:rest.length<=yah)(E:Looks (model prog w) hp (typeLookup (.ref C) "__init__") (some (.ref f)))(H:∀self,Looks (model prog w) hp (bindSpecial (.ref f) self) (.ref f,[self]))(y:codeAny (model prog w) (A.under (.builtin "type.__call__" ⟨.ref C::rest,[]⟩)) (.call (.ref f) ⟨.ref (hp.objs.size+1)::rest,[]⟩) (InitBack (hp.objs.size+1) R) ⟨(hp.push {cls:=.type "tuple",data:=.seq rest.toArray}).push (bO C none #[.ref hp.objs.size,.none,.none,.none,.bool false,.none]),g,d,t,os⟩):
  codeAny (model prog w) A (.call (.ref C) ⟨rest,[]⟩) R ⟨hp,g,d,t,os⟩:=by
 have O:=PySem.F.excBase_ValueError;have f1:=tc_lookup;have Z:=tc_bind (.ref C);have X:(⟨hp,g,d,t,os⟩:yai).TypeIs (.ref C) "type":=⟨_,a,rfl⟩
 refine codeAny_of_tree ?_;show yas _ _ (callAny (.ref C) _) _ _ _
 repeat (any_goals (first|assumption|with_reducible refine yae a ?_|wp_step))
 refine⟨rfl,?_⟩;refine codeAny_call_builtin_at (Code.quiet_builtin _ (by decide+kernel)) entry_typeCall (wpAny_check_type_call_sub a ?_)
 repeat (first|with_reducible refine yae a ?_|with_reducible refine wpAny_madeBy_exc a ?_|wp_step)
 refine codeAny_call_builtin_code (Code.quiet_builtin _ O.quiet) (IE a j ?_);refine Hx a j L I hz ?_;show yas _ _ _ _ _ _;have k:∀b o,hp.get? b=some o->((hp.push {cls:=.type "tuple",data:=.seq rest.toArray}).push (bO C none #[.ref hp.objs.size,.none,.none,.none,.bool false,.none])).get? b=some o:=λb o e=>zar _ (zar _ e);have u:((hp.push {cls:=.type "tuple",data:=.seq rest.toArray}).push (bO C none #[.ref hp.objs.size,.none,.none,.none,.bool false,.none])).get? (hp.objs.size+1)=some (bO C none #[.ref hp.objs.size,.none,.none,.none,.bool false,.none]):=by heap_get
 have self:Looks (model prog w) hp (isSubtype (.ref C) (.ref C)) true:=by
  intro A' Q' E' i n l;obtain⟨W,Y,d',Q,m⟩:=i;refine wpAny_isSubtype_exc (n _ _ a) ?_;rw[show(Value.ref C::bm).contains (.ref C)=true by simp];exact l
 have P:Looks (model prog w) ((hp.push {cls:=.type "tuple",data:=.seq rest.toArray}).push (bO C none #[.ref hp.objs.size,.none,.none,.none,.bool false,.none])) (typeOf (.ref (hp.objs.size+1))) (.ref C):=(Looks.ld u).andThen .now;have S:=self.keeps k;have U:=E.keeps k;have b1:=(H (.ref (hp.objs.size+1))).keeps k;unfold isInstance callSpecial? specialOf;show yas (model prog w) (A.under (Code.builtin "type.__call__" ⟨.ref C::rest,[]⟩)) _ _ _ ⟨(hp.push {cls:=.type "tuple",data:=.seq rest.toArray}).push (bO C none #[.ref hp.objs.size,.none,.none,.none,.bool false,.none]),g,d,t,os⟩
 repeat (first|with_reducible refine yaL ?_|lk)
 refine yay y λr i z=>?_;rcases r with e|(v|_|_|_)<;>first|exact z|exact z.elim|skip
 obtain⟨rfl,z⟩:=z;exact yab (yab z)
end
end PySem.W
set_option maxHeartbeats 1000000
namespace L2
open PySem PySem.Spec PyProof.Rows
noncomputable def XO(C:Addr)(e:Option Addr)(x:Addr):HO:=.ext λh=>∃(a:Addr)(n m l j i:yaj),h.get? x=some (PySem.W.bO C e #[.ref a,n,m,l,j,i])
noncomputable def yp(fs:List (Str×V))(a:Addr):HO:=.ext λh=>fs.length<=900/\∃mA,h.Ns1 a mA/\(∀f,fj (fs.lookup f) (mA f))/\PySem.Within mA (fs.map (·.1))
section
variable {w:yal}{h:Heap}
theorem XO.ok{x:Addr}{n m l j i:yaj}(e:h.get? x=some (PySem.W.bO C d0 #[.ref t0,n,m,l,j,i])):aW P w H h x (XO C d0 x):=by
 refine⟨⟨t0,n,m,l,j,i,e⟩,⟨_,e⟩,λh1 h2 a k=>?_⟩;obtain⟨t,E,z,y,u,o,q⟩:=a;exact⟨t,E,z,y,u,o,k _ q⟩
theorem XO.get{x:Addr}(ok:gg P w H h)(e:H x=some (XO C d0 x)):∃(a:Addr)(n m l j i:yaj),h.get? x=some (PySem.W.bO C d0 #[.ref a,n,m,l,j,i]):=(ok x _ e).1
theorem yp.ok{fs:List (Str×V)}{mA:Str->Option yaj}(l:fs.length<=900)(n:h.Ns1 dx mA)(r:∀f,fj (fs.lookup f) (mA f))(i:PySem.Within mA (fs.map (·.1))):aW P w H h dx (yp fs dx):=by
 refine⟨⟨l,mA,n,r,i⟩,by obtain⟨o,_,_,e,_⟩:=n;exact⟨o,e⟩,λh1 h2 a k=>?_⟩;obtain⟨l,m,n,r,i⟩:=a;exact⟨l,m,n.at k,r,i⟩
theorem yp.get{fs:List (Str×V)}(ok:gg P w H h)(e:H dx=some (yp fs dx)):fs.length<=900/\∃mA,h.Ns1 dx mA/\(∀f,fj (fs.lookup f) (mA f))/\PySem.Within mA (fs.map (·.1)):=(ok dx _ e).1
end
noncomputable def excIn(K:yaM)(C:Addr):Bool:=match K.lookup C with
 |some ⟨.type T,_,.cls cd,sl⟩=>T=="type"&&(match cd.mro with|.ref D::bm=>D==C&&bm.contains (.type "ValueError")&& !bm.contains (.type "AttributeError")&& !bm.contains (.type "NameError")|_=>false)&& !cd.hasDel&&
   (match sl.toList with|[_,_,_,_,some (.builtin n),_]=>n=="ValueError.__new__"|_=>false)
 |_=>false
structure XCls(K:yaM)(C:Addr):Prop where
 ex:excIn K C=true
 ga:zci K (.ref C) "__getattribute__"=some (some (.builtin "BaseException.__getattribute__"))
 gn:zci K (.ref C) "__getattr__"=some none
 sa:zci K (.ref C) "__setattr__"=some (some (.builtin "object.__setattr__"))
 ov:PySem.W.kg K C=true
 sb:zcz K (.ref C) (.type "BaseException")=some true
structure Sx(K:yaM)(C f:Addr):Prop extends XCls K C where
 init:zci K (.ref C) "__init__"=some (some (.ref f))
 fn:zcM K (.ref f)=true
 kp:zcj K (.ref C)=true
theorem sE(e:excIn K C=true):∃nm q N bs j a H sub Q i P E z y u o,K.lookup C=some (excClassObj nm q C N bs j a H sub Q i P E z y u o "ValueError.__new__")/\
  j.contains (.type "ValueError")=true/\j.contains (.type "AttributeError")=false/\j.contains (.type "NameError")=false:=by
 unfold excIn at e;split at e
 ·rename_i T P cd S X;rw[zbH,zbH,zbH] at e;obtain⟨⟨⟨O,m⟩,F⟩,l⟩:=e;obtain⟨nm,bs,U,ns,q,a,H,sub,Q,i,hd⟩:=cd;dsimp only at m F;split at m
  ·rename_i _ D j;rw[zbH,zbH,zbH] at m;obtain⟨⟨⟨L,f2⟩,Z⟩,Y⟩:=m;split at l
   ·rename_i E z y u n o W;have I:S=#[E,z,y,u,some (.builtin n),o]:=by
     rw[<-Array.toArray_toList (xs:=S),W]
    have O:T="type":=beq_iff_eq.mp O;have L:D=C:=beq_iff_eq.mp L;have l:n="ValueError.__new__":=beq_iff_eq.mp l;have F:hd=false:=by simpa using F
    subst O L l F I;exact⟨nm,q,ns,bs,j,a,H,sub,Q,i,P,E,z,y,u,o,X,f2,by simpa using Z,by simpa using Y⟩
   ·cases l
  ·cases m
 ·cases e
theorem HY{x:Addr}{fs:List (Str×V)}{f:Str}(I:Inv X pins σ H s)(e:H x=some (XO C (some dx) x))(P:H dx=some (yp fs dx))(c:XCls X.K C)(n:zci X.K (.ref C) f=some none)(l:fs.lookup f=some v)(h:∀u s',Inv X pins σ H s'->RelV v u->Q u s'):yas (model X.prog X.w) A (getAttr (.ref x) f b) Q E s:=by
 obtain⟨i,a1,Z,Y,U,S,m⟩:=XO.get I.hok e;obtain⟨_,mA,z,r,_⟩:=yp.get I.hok P;obtain⟨j,y,F⟩:=k6 z;obtain⟨u,q,ru⟩:=fj.some_of (v:=v) (o:=mA f) (by rw[<-l];exact r f);obtain⟨cd,O,a⟩:=PySem.W.any_some c.ov;rw[zbH] at a;have J:PySem.W.InstAt s.heap x (PySem.W.bO C (some dx) #[.ref i,a1,Z,Y,U,S]) C (some j):=⟨m,rfl,rfl,y⟩
 have L:zbp X.K C=true:=by unfold zbp;rw[O];exact a.2
 exact PySem.W.HZ I.fE J c.ga c.gn c.sb (PySem.W.findObj_own L n rfl (by rw[F,q])) (qI ru) (h u _ (I.tok _) ru)
theorem Du{f g:Str}{y:V}{fs:List (Str×V)}{mA:Str->Option yaj}(a:RelV y u)(r:∀g,fj (fs.lookup g) (mA g)):fj ((fN f y fs).lookup g) (if g=f then some u else mA g):=by
 rw[ig];by_cases q:g=f
 ·rw[yIp q,yIp q];exact a
 ·rw[yIn q,yIn q];exact r g
theorem G7{f:Str}{y:V}{fs:List (Str×V)}{mA:Str->Option yaj}(a:PySem.Within mA (fs.map (·.1))):PySem.Within (λg=>if g=f then some u else mA g) ((fN f y fs).map (·.1)):=λg e=>by
 by_cases q:g=f
 ·rw[q];exact(fU f y fs).1
 ·refine(fU f y fs).2 g (a g λz=>e ?_);show(if g=f then some u else mA g)=none;rw[yIn q];exact z
def Jw(K:yaM)(l:TE)(f:Str):TE:=λj H Q=>l j H λx i=>∃a C e fs v,x=.ref a/\i a=some (XO C (some e) a)/\i e=some (yp fs e)/\XCls K C/\zci K (.ref C) f=some none/\fs.lookup f=some v/\Q v i
section
variable {o:Expr}{f d:Str}{ta tv:TE}{t:TA}
theorem rY(z:PE X e ta)(E:autoParam (attributeBase e f X.env (eval e X.env)=eval e X.env) r0)(F:autoParam (X.K=K) r0):PE X (.Attribute e f pos) (Jw K ta f):=by
 subst F;intro i s j H Q I h;refine Ak E (bS (z i s j H _ I h) λu Z y=>?_);obtain⟨x,U,S,m,a,C,dx,fs,v,ex,O,L,c,n,l,q⟩:=y;subst ex;obtain rfl:u=Value.ref a:=m;exact HY S O L c n l λW Y P ru=>⟨v,U,P,ru,q⟩
structure Kr(K:yaM)(B:Addr):Prop where
 rd:PySem.W.readsIn K B (.type "type")=true
 fc:PySem.W.findCls K (.ref B) (.type "type") "__init__"=some (.val (.builtin "ValueError.__init__"))
 ga:zbr K (.ref B) "__getattribute__"=some (some (.builtin "type.__getattribute__"))
end
end L2
namespace PySem.W
open PySem PySem.Calls PyProof.Rows Builtin Builtin.ObjectAttr
section
variable {w:yal}{K:Frag}{x:Addr}{ox:Obj}
theorem BE{Q:Option yaj->yai->Prop}(X:K.In s.heap)(I:InstAt s.heap x ox C od)(i:findIn K (.ref C) "__getattribute__"=some (some (.builtin "BaseException.__getattribute__")))(e:findIn K (.ref C) "__getattr__"=some none)(l:subIn K (.ref C) (.type "BaseException")=some true)(o:findObj K C od "__class__"=some (.bind (.builtin "getset_descriptor.__get__") (.builtin "object.__class__")))(n:mroIn K C (.type "object")=some true)(h:Q (some (.ref C)) {s with toks:=s.toks+1}):yas (model prog w) A (getAttr? (.ref x) "__class__") Q E s:=by
 obtain⟨m,g,d,t,os⟩:=s;have j:=I.type (M:=model prog w);have z:=looks_findIn (M:=model prog w) X i;have L2:=looks_findIn (M:=model prog w) X e;have y:=looks_find (M:=model prog w) X I o;have u:=oJ (M:=model prog w) X I l;have a:(Value.builtin "BaseException.__getattribute__"==Value.builtin "object.__getattribute__")=false:=by decide+kernel
 have q:=F.excAttr_ValueError.ga.bind (.ref x);unfold getAttr? getAttrBy? getAttrBy;refine yaa (wpAny_mkText (yaa (wpAny_attempt (yad (yaa (j.at (yaa (z.at ?_))))))));show yas _ _ (if(onTheHeap (Value.ref C)&&Value.builtin "BaseException.__getattribute__"==Value.builtin "object.__getattribute__")=true then _ else _) _ _ _;rw[a,zch,yIn (by decide)];unfold getAttrByItsOwn hookBefore;show yas _ _ (typeLookup (.ref C) "__getattr__" >>= _) _ _ _;refine yaa (L2.at (yaa (wpAny_attempt (yad ?_))));unfold callGetattribute;rw[show(false&&onTheHeap (Value.builtin "BaseException.__getattribute__"))=false from rfl,yIn (by decide)];unfold boundAndCalled;rw[q];refine yaa (yab ?_);refine yaL (codeAny_call_builtin F.excAttr_ValueError.ga.plain F.entry_bexc_ga ?_);show yas _ _ (checkBuiltinCall "BaseException.__getattribute__" ⟨[.ref x,.str "__class__" t],[]⟩) _ _ _;refine E1 ?_ ?_
 ·exact u
 unfold Builtin.«object.__getattribute__»;refine yaa (yab (yaa (yab (yaa (j.at (yaa (y.at ?_)))))));show yas _ _ (holding [.builtin "object.__class__"] (call (.builtin "getset_descriptor.__get__") [.builtin "object.__class__",.ref x,.ref C]) >>= ret) _ _ _;refine yaa (yad (yaL (class_get (s:=⟨m,g,d,t+1,os⟩) (ox:=ox) (od:=od) X I n ?_)));refine yab ?_;show yas _ _ (handedOut (.ref C)) _ _ _;exact handed_on rfl (yab h)
theorem vg{a g:yaj}{name:Str}(e:(clsIn K C).isSome=true)(l:findIn K (.ref C) name=some (some a))(j:specialIn K a "__get__"=some (some g))(i:takesIn K a=some true):findObj K C od name=some (.bind g a):=by
 obtain⟨m,e⟩:=Option.isSome_iff_exists.mp e;unfold findObj;rw[e,zbL,l,zbL];dsimp only;rw[j,zbL];dsimp only;rw[i,zbL]
theorem Ek(i:kg K C=true)(y:findIn K (.ref C) "__getattribute__"=some (some (.builtin "BaseException.__getattribute__")))(u:findIn K (.ref C) "__getattr__"=some none)(O:subIn K (.ref C) (.type "BaseException")=some true)(U:findIn K (.ref C) "__class__"=some (some (.builtin "object.__class__")))(P:specialIn K (.builtin "object.__class__") "__get__"=some (some (.builtin "getset_descriptor.__get__")))(m:takesIn K (.builtin "object.__class__")=some true)(Q:mroIn K C (.type "object")=some true):
  KitX K (.ref x) (.ref C) (λh=>InstAt h x ox C od) where
 ty:=λ_ _ _ I=>I.type
 it:=λ_ _ X _=>by
  obtain⟨E,a,_⟩:=any_some i;unfold clsIn at a;split at a
  ·rename_i Y W F j o;intro A' Q' E' s' k q;unfold isType loadHead;exact yaa (yaE (k _ _ (X _ _ o)) (yab q))
  ·cases a
 ne:=λh H dd L n Z X l=>by
  obtain⟨E,a,_⟩:=any_some i;refine Bool.eq_false_iff.mpr λq=>?_;have e:C=H:=Value.ref.inj (beq_iff_eq.mp q);subst e;unfold clsIn at a;split at a
  ·rename_i Y W F j o;have z:=(X _ _ o).symm.trans l;cases z
  ·cases a
 ca:=λX I k=>BE X I y u O (vg (by obtain⟨cd,S,_⟩:=any_some i;rw[S];rfl) U P m) Q k
end
end PySem.W
namespace L2
open PySem PySem.Spec PyProof.Rows
structure Sy(K:yaM)(C:Addr):Prop extends XCls K C where
 ca:zci K (.ref C) "__class__"=some (some (.builtin "object.__class__"))
 cg:zbr K (.builtin "object.__class__") "__get__"=some (some (.builtin "getset_descriptor.__get__"))
 ct:PySem.W.takesIn K (.builtin "object.__class__")=some true
 mo:PySem.W.mroIn K C (.type "object")=some true
def JJ(K:yaM):List V->Hp->VK->Prop:=λxs H Q=>∃x C e c u b,xs=[.ref x,c]/\H x=some (XO C e x)/\(e=none∨∃a fs,e=some a/\H a=some (yp fs a))/\Sy K C/\RelV c u/\(∀i,RelV c i->i=u)/\zck K (.ref C) u=some b/\Q (.bl b) H
section
theorem cV(O:autoParam (X.K=K) r0):bN X (.builtin "isinstance") (JJ K):=by
 subst O;intro a s m H xs us Q I r h;obtain⟨x,C,S,c,u,b,rfl,ex,hd,xi,rc,o,e,q⟩:=h;obtain⟨v,n,rfl,E,j⟩:=vals2 r;obtain rfl:v=Value.ref x:=E;cases o n j;obtain⟨y,a1,a2,Z,Y,U,l⟩:=XO.get I.hok ex;have fin:∀i,PySem.W.InstAt s.heap x (PySem.W.bO C S #[.ref y,a1,a2,Z,Y,U]) C i->yas (model X.prog X.w) X.A (call (.builtin "isinstance") [.ref x,u]) (EP X a m Q) X.xe s:=λi J=>
  zcc (PySem.W.Ek xi.ov xi.ga xi.gn xi.sb xi.ca xi.cg xi.ct xi.mo) I.fE J e (λz=>nomatch z) λtk=>⟨.bl b,H,I.tok tk,rfl,q⟩
 rcases hd with rfl|⟨dx,fs,rfl,P⟩
 ·exact fin none ⟨l,rfl,rfl,trivial⟩
 ·obtain⟨_,mA,L,_⟩:=yp.get I.hok P;obtain⟨i,F,_⟩:=k6 L;exact fin (some i) ⟨l,rfl,rfl,F⟩
variable {k:Nat}{ds:List yaj}{E:XK}
structure lD(P:yak)(w:yal)(K:yaM)(mg:Str->Option yaj)(base:Heap)(k:Nat)(x:Str)(C:Addr)(ps:List Str)(sp:Sp):Prop where
 ex:∃f fd,Sx K C f/\bL P w K mg base iF k f fd ps sp/\Binds K fd ps []
 at_:mg x=some (.ref C)
def XAt(C:Addr)(H:Hp)(x:Addr)(fs:List (Str×V)):Prop:=∃a,H x=some (XO C (some a) x)/\H a=some (yp fs a)/\a≠x
end
theorem o8{K:yaM}{H:Hp}:∀bs:List Bool,dB K H (bs.map PyData.bool) (bs.map V.bl)
 |[]=>by simp only[zcB,dB]
 |b::r=>by
  simp only[zco,dB];exact⟨_,_,rfl,by simp only[bM],o8 r⟩
theorem pG:∀bs:List Bool,(bs.map PyData.bool).all Shape.bool.has=true
 |[]=>rfl
 |b::r=>by rw[zco,zcq,pG r];rfl
theorem kr(k:Bool):∀bs:List Bool,countIn (.bool k) (bs.map PyData.bool)=(bs.count k:Int)
 |[]=>rfl
 |b::r=>by
  rw[zco,countIn,kr k r,List.count_cons];simp only[same];cases b<;>cases k<;>simp<;>lia
def G4(K:yaM):V->List V->Hp->VK->Prop:=λx e H Q=>∃(a:Addr)(bs:List Bool)(k:Bool),x=.ref a/\e=[.bl k]/\b9 K H a (bs.map V.bl)/\Q (.int (bs.count k:Nat)) H
theorem Bj(o:autoParam (X.K=K) r0):FZ X "list.count" (G4 K):=by
 subst o;intro i s y H x z v C Q I j l h;obtain⟨a,bs,k,rfl,rfl,n,q⟩:=h;obtain rfl:v=Value.ref a:=j;obtain⟨u,rfl,ru⟩:=vals1 l;obtain rfl:u=Value.bool k:=ru;obtain⟨e,r,pl,_⟩:=I.list n;obtain⟨E,m⟩:=I.readsAll _ _ e (o8 bs) r;refine count_list_bools pl.isList m (pG bs) ?_;rw[kr];exact⟨.int _,H,I.tok _,⟨_,rfl⟩,q⟩
theorem Em(k:Bool){bs:List Bool}(j:Nat)(h:j<(bs.map Value.bool).length):isBoolOf k ((bs.map Value.bool)[j])=(bs[j]'(by simpa using h)==k):=by
 simp[isBoolOf]
def G3(K:yaM):V->List V->Hp->VK->Prop:=λx e H Q=>∃(a:Addr)(bs:List Bool)(k:Bool)(j:Nat),x=.ref a/\e=[.bl k]/\b9 K H a (bs.map V.bl)/\bs[j]? =some k/\(∀m,m<j->bs[m]?≠some k)/\Q (.int (j:Nat)) H
theorem Bh(hK:autoParam (X.K=K) r0):FZ X "list.index" (G3 K):=by
 subst hK;intro L s σ H x vs v us Q I Z rv h;obtain⟨a,bs,k,j,rfl,rfl,ha,P,hm,q⟩:=h;obtain rfl:v=Value.ref a:=Z;obtain⟨u,rfl,ru⟩:=vals1 rv;obtain rfl:u=Value.bool k:=ru;obtain⟨e,r,pl,hz⟩:=I.list ha;obtain⟨as,ra⟩:=I.readsAll _ _ e (o8 bs) r;have E:=yf r;have o:j<bs.length:=(zae.mp P).1;have W:j<e.length:=by rw[E,zbN];exact o
 obtain⟨⟨cls,dd,U,Y⟩,O,S,n,hd⟩:=id pl.isList;simp only at S hd;subst S hd;refine call_meets PySem.F.slot_list_index ⟨_,O,rfl⟩ PySem.F.entry_list_index (PySem.F.args_list_index_2 _ _)
  (PySem.SeqAt.list_indexAt a e.toArray n dd Y (.bool k) (isBoolOf k) j (by simpa using W) (by rw[zbN,yag] at hz;lia) ?_ ?_) ⟨O,λy hy=>eq_isBoolOf k ra (pG bs) y (by simpa using hy) _ _,⟨.int _,H,I.tok _,⟨_,rfl⟩,q⟩⟩
 ·subst E;show isBoolOf k ((bs.map Value.bool)[j])=true;rw[Em k j W];have:bs[j]=k:=(zae.mp P).2;rw[this];simp
 ·intro m i C;subst E;show isBoolOf k ((bs.map Value.bool)[m]'(by simpa using i))=false;rw[Em k m (by simpa using i)];have l:m<bs.length:=by simpa using i
  have:=hm m C;rw[zal l] at this;simpa using λz=>this (congrArg some z)
theorem pV{t u:TS}{D:Ends}(h:∀N:St->Hp->Prop,(∀a H',u D a H'->N a H')->t {D with nx:=N} σ H):Gn t u D σ H:=h (u D) λ_ _ z=>z
end L2
set_option maxHeartbeats 4000000
namespace J
open PySem PySem.Spec PyProof.Rows L2
structure QE(X:Cx)(e:Expr)(t:TE):Prop where
 p:PE X e t
structure QT(X:Cx)(e:Expr)(t:TT):Prop where
 p:PT X e t
structure QW(X:Cx)(e:Expr)(t:TT):Prop where
 p:PW X e t
structure QA(X:Cx)(e:List Expr)(t:TA):Prop where
 p:PA X e t
structure QS(X:Cx)(e:Stmt)(t:TS):Prop where
 p:PS X e t
structure Ks(X:Cx)(e:List Stmt)(t:TS):Prop where
 p:pQ X e t
structure Q3(X:Cx)(pos:Pos)(keys:List (Option Expr))(values:List Expr)(rq:List (TE×TE)):Prop where
 p:Qt X pos keys values rq
theorem pw_pt{t:TT}(h:QW X e t):QT X e t:=⟨h.p.pt⟩
theorem aM:Ks X [] Ct:=⟨L2.aM⟩
theorem aa{rest:List Stmt}{t:TS}{u:TS}(h1:QS X st t)(h2:Ks X rest u):Ks X (st::rest) (Gn t u):=⟨L2.aa h1.p h2.p⟩
theorem aj{t:TS}(h1:QS X st t):Ks X [st] t:=⟨L2.aj h1.p⟩
theorem aJ(a:QE X e te):QS X (.Return (some e) pos) (Cs te):=⟨L2.aJ a.p⟩
theorem bh{t:TS}{u:TS}{c:Expr}{a b:List Stmt}{tc:TT}(e:QT X c tc)(j:Ks X a t)(i:Ks X b u):QS X (.If c a b pos) (K5 tc t u):=⟨L2.bh e.p j.p i.p⟩
theorem bR(o:X.N.Nodup)(l:X.N[i]? =some x)(a:Loc X.env.scope x)(n:QE X e te)(j:autoParam (yau e (some (.Name x pos')) pos.line X.env=pure false) r0)(m:X.fn x=true∨X.env.scope.names.lookup x=some .local:=by first|exact .inl rfl|exact .inr rfl|assumption):
  QS X (.Assign [.Name x pos'] e pos) (CA te (qJ i)):=⟨L2.bR o l a n.p j m⟩
theorem jP{o:Expr}{i:Expr}{e:TE}{ty:TE}{a:TE}(l:X.A.units+1<cLine)(n:QE X o e)(q:QE X i ty)(j:QE X value a)(m:yau value (some (.Subscript o i pos')) pos.line X.env=pure false):
  QS X (.Assign [.Subscript o i pos'] value pos) (Dd e ty a):=⟨L2.jP l n.p q.p j.p m⟩
theorem ai:QA X [] wK:=⟨L2.ai⟩
theorem az{t:TA}(j:QE X e te)(i:QA X es t)(a:autoParam (notStar e=true) r0):QA X (e::es) (nj te t):=⟨L2.az j.p i.p a⟩
theorem dz{b j pos}:QE X (.Constant (.bool b) j pos) (tC (.bl b)):=⟨L2.dz⟩
theorem ao{i j pos}:QE X (.Constant (.int i) j pos) (tC (.int i)):=⟨L2.ao⟩
theorem ak{x j pos}:QE X (.Constant (.str x) j pos) (tC (.str x)):=⟨L2.ak⟩
theorem pv(i:Nat)(j:autoParam (X.N[i]? =some x) r0)(e:Qq X.env.scope x:=by first|exact Or.inl rfl|exact Or.inr (Or.inl rfl)|exact Or.inr (Or.inr rfl))(hd:autoParam ((x==("__debug__":Str))=false) r1)(a:autoParam ((x==("__classdict__":Str))=false) r1):QE X (.Name x pos) (tV i):=⟨L2.pv i j e hd a⟩
theorem qw(T:String)(j:Gl X x)(i:X.mg x=none)(a:bootBuiltins x=some (.type T))(e:x≠"__name__":=by decide+kernel)(hd:(x==("__debug__":Str))=false:=by decide+kernel):QE X (.Name x pos) (tC (.ty T)):=⟨L2.qw T j i a e hd⟩
theorem aA{a:Expr}{b:Expr}{e:TE}{tb:TE}{i:Operator}{r:R2}(j:fk X (binaryOp i) r)(m:QE X a e)(l:QE X b tb):QE X (.BinOp a i b pos) (AD r e tb):=⟨L2.aA j m.p l.p⟩
theorem aQ{t:TA}(h:QA X es t):QE X (.List es pos) (K3 t):=⟨L2.aQ h.p⟩
theorem rZ{a:List Expr}{rq:List (TE×TE)}(h:Q3 X pos keys a rq)(e:keys.all (·.isSome)=true)(j:keys.length=a.length)(l:keys≠[])(i:keys.length<=15):QE X (.Dict keys a pos) (Jy rq):=⟨L2.rZ h.p e j l i⟩
theorem rX:Q3 X pos [] [] []:=⟨L2.rX⟩
theorem gY{k v:Expr}{ks:List (Option Expr)}{vs:List Expr}{tk a:TE}{rq:List (TE×TE)}(j:QE X k tk)(e:QE X v a)(i:Q3 X pos ks vs rq):
  Q3 X pos (some k::ks) (v::vs) ((tk,a)::rq):=⟨L2.gY j.p e.p i.p⟩
theorem dc{o:Expr}{i:Expr}{a:TE}{ty:TE}(e:X.A.units+1<cLine)(l:QE X o a)(m:QE X i ty)(j:Jl i):QE X (.Subscript o i pos) (Cy a ty):=⟨L2.dc e l.p m.p j⟩
theorem fS{a:Expr}{b:Expr}{e:TE}{tb:TE}{r:R2}(j:B4 X r)(m:QE X a e)(l:QE X b tb)(i:kL b):QE X (.Subscript a b pos) (AD r e tb):=⟨L2.fS j m.p l.p i⟩
theorem mF{t:TA}{id:String}{r:List V->Hp->VK->Prop}(o:bN X (.builtin id) r)(n:Gl X x)(m:X.mg x=none)(i:bootBuiltins x=some (.builtin id))(q:QA X (e::es) t)(l:x≠"__name__":=by decide+kernel)(a:(x==("__debug__":Str))=false:=by decide+kernel)(j:autoParam ((e::es).all notStar=true) r0):QE X (.Call (.Name x p) (e::es) [] pos) (NU r t):=⟨L2.mF o n m i q.p l a j⟩
theorem om{o:Expr}{m:TE}{t:TA}{name:Str}{T:String}{id:String}(n:PlainAttrs T)(slot:Slot T name id)(l:typeOf (.builtin id)=pure (.type "method_descriptor"))(y:FZ X id r)(u:QE X o m)(z:QA X (e::es) t)(i:autoParam (attributeBase o name X.env (eval o X.env)=eval o X.env) r0)(q:autoParam ((e::es).all notStar=true) r0)(j:autoParam (decide ((e::es).length+0+0<30)=true) r0)(a:autoParam ((apos.endLine==cpos.line)=true) r0)(C:autoParam (X.K=K) r0):QE X (.Call (.Attribute o name apos) (e::es) [] cpos) (QI K T r m t):=⟨L2.om n slot l y u.p z.p i q j a C⟩
theorem aG{a:Expr}{b:Expr}{i:TE}{tb:TE}{e:CmpOp}{r:R2}(j:fk X (yao e) r)(n:QE X a i)(m:QE X b tb)(l:behindInMarks e b=false):QT X (.Compare a [e] [b] pos) (Cr (AD r i tb)):=⟨L2.aG j n.p m.p l⟩
theorem gX{a:Expr}{e:TT}(i:QT X a e):QT X (.UnaryOp .Not a pos) (K0 e):=⟨L2.gX i.p⟩
theorem d7{t:TE}(h:QE X e t)(i:∀a,isTrue e X.env a=(do let v <-a;standAt e.pos;holding [v] (truthy v)):=by intro _;rfl):QT X e (tB t):=⟨L2.d7 h.p i⟩
theorem pw_or{a:Expr}{b:Expr}{i:TT}{e:TT}{rest:List Expr}(l:QT X a i)(j:QW X (.BoolOp .Or (b::rest) pos) e):QW X (.BoolOp .Or (a::b::rest) pos) (Rg i e):=⟨L2.pw_or l.p j.p⟩
theorem pw_or1{a:Expr}{e:TT}(i:QT X a e):QW X (.BoolOp .Or [a] pos) e:=⟨L2.pw_or1 i.p⟩
section
variable {w:yal}
theorem MJ{k:Nat}(F:Src K mg x ps st)(S:aE N ps (ah st))(len:∀vs H Q E,sp vs H Q E->vs.length=ps.length)(i:∀(f:Addr)(e:yaj)(A:yam)(outer:List Env)(s:yai)(H:Hp)(vs:List V)(Q:VK)(E:XK),aR k (A.deeper (envOfC x (ah st) s.heap.objs.size f e))->sp vs H Q E->∃t,Ks (d9 iF P w K mg base N x (ah st) f e A outer s H E).DS (aT st) t/\t {nx:=λ_ H'=>Q .aY H',rt:=Q} (start N vs) H):Def P w K mg base (k+1) x ps sp:=
 F.def S len λf e A outer s H vs Q E j h=>by
  obtain⟨t,a,b⟩:=i f e A outer s H vs Q E j h;exact⟨t,a.p,b⟩
theorem vK{p:List yaj->Prop}(h:∀a,p [a])(us:List yaj)(e:us.length=1):p us:=by
 cases us with
 |nil=>cases e
 |cons a r=>
  have e:r=[]:=zaa (Nat.succ.inj e);subst e;exact h a
theorem E9{p:List yaj->Prop}(h:∀a b,p [a,b])(us:List yaj)(e:us.length=2):p us:=by
 cases us with
 |nil=>cases e
 |cons a r=>exact vK (p:=λr=>p (a::r)) (h a) r (Nat.succ.inj e)
theorem P1{p:List yaj->Prop}(h:∀a b c,p [a,b,c])(us:List yaj)(e:us.length=3):p us:=by
 cases us with
 |nil=>cases e
 |cons a r=>exact E9 (p:=λr=>p (a::r)) (h a) r (Nat.succ.inj e)
theorem by4{p:List yaj->Prop}(h:∀a b c d,p [a,b,c,d])(us:List yaj)(e:us.length=4):p us:=by
 cases us with
 |nil=>cases e
 |cons a r=>exact P1 (p:=λr=>p (a::r)) (h a) r (Nat.succ.inj e)
theorem K8{od m:Option Addr}{kV i j e ct:yaj}{h:Heap}(X:K.In h)(G:h.Ns yar mg)(a:zcO K yar x=some (some (.ref f)))(l:K.lookup f=some ⟨oc,od,.func (zcN x x (cI st) (aT st) (ah st) .none kV i j m e ct),osl⟩)(c:zcl K e x=true)(k:zcj K (.ref f)=true)(b:∀(kV i j:yaj)(m:Option Addr)(e ct:yaj)(us:List yaj),us.length=ps.length->yaC (zcN x x (cI st) (aT st) (ah st) .none kV i j m e ct) ⟨us,[]⟩=pure (ps.zip us)):Src K mg x ps st:=
 ⟨f,_,jr (st:=st) l c k,zcA X G a,(jr (st:=st) l c k).binds b⟩
end
end J
namespace M
open PySem L2
inductive D where
 |aY|bl (b:Bool)|int (i:Int)|str (x:Str)|tup (ds:List D)|lst (ds:List D)|dct (ks:List Key) (ds:List D)|loc (n:Nat)|ty (n:String)|kQ (ns:List Int)|fd|fn (a:Addr)
inductive MO where
 |lst (ds:List D)|dct (ks:List Key) (ds:List D)|feed (n:Nat)|ins (C:Addr) (ks:List Str) (ds:List D)|Ge (F:Addr->List Addr->Heap->Prop) (ks:List D)
noncomputable def Cb(l s d:Int):List (Key×V):=[(.inr "left",.int l),(.inr "seed",.int s),(.inr "drawn",.int d)]
abbrev aD:=List (Option MO)
noncomputable def MO.d:MO->D
 |.lst ds=>.lst ds
 |.dct ks ds=>.dct ks ds
 |.feed _=>.fd
 |.ins _ _ _=>.fd
 |.Ge _ _=>.fd
inductive R where
 |dat (d:D)|new (o:MO)
noncomputable def R.d:R->D
 |.dat d=>d
 |.new o=>o.d
theorem al{p:Addr}{o:HO}(a:H p=none):cJ H (upd H p o):=λb i e=>by rw[au (aF e a)];exact e
structure Wd where
 B:Hp
 r:Nat->Option Addr
structure Wd.le(w w':Wd):Prop where
 b:cJ w.B w'.B
 r:∀n a,w.r n=some a->w'.r n=some a
theorem Wd.le.refl{w:Wd}:w.le w:=⟨cJ.refl _,λ_ _ h=>h⟩
theorem Wd.le.trans{w j i:Wd}(h:w.le j)(g:j.le i):w.le i:=⟨h.b.trans g.b,λn a e=>g.r n a (h.r n a e)⟩
mutual
def Rep(K:yaM)(w:Wd):D->V->Prop
 |.aY,v=>v=.aY
 |.bl b,v=>v=.bl b
 |.int i,v=>v=.int i
 |.str x,v=>v=.str x
 |.ty n,v=>v=.ty n
 |.fd,v=>∃a,v=.ref a
 |.fn a,v=>v=.ref a
 |.loc n,v=>∃a,w.r n=some a/\v=.ref a
 |.tup ds,v=>∃a xs,v=.ref a/\ee K w.B a xs/\av K w ds xs
 |.lst ds,v=>∃a xs,v=.ref a/\w.B a=some (.lst xs)/\av K w ds xs
 |.kQ ns,v=>∃a,v=.ref a/\b9 K w.B a (ns.map V.int)
 |.dct ks ds,v=>∃a e,v=.ref a/\w.B a=some (.dK e)/\e.map (·.1)=ks/\av K w ds (e.map (·.2))
def av(K:yaM)(w:Wd):List D->List V->Prop
 |[],xs=>xs=[]
 |d::ds,xs=>∃x r,xs=x::r/\Rep K w d x/\av K w ds r
end
mutual
theorem Rep.le{K:yaM}{w l:Wd}(e:w.le l):∀(d:D)(v:V),Rep K w d v->Rep K l d v
 |.aY,_,h=>by simpa[Rep] using h
 |.bl b,_,h=>by simpa[Rep] using h
 |.int i,_,h=>by simpa[Rep] using h
 |.str x,_,h=>by simpa[Rep] using h
 |.ty x,_,h=>by simpa[Rep] using h
 |.fd,_,h=>by simpa[Rep] using h
 |.fn _,_,h=>by simpa[Rep] using h
 |.loc n,v,h=>by
  simp only[Rep] at h⊢;obtain⟨a,h1,h2⟩:=h;exact⟨a,e.r _ _ h1,h2⟩
 |.lst ds,v,h=>by
  simp only[Rep] at h⊢;obtain⟨a,xs,h1,h2,j⟩:=h;exact⟨a,xs,h1,e.b _ _ h2,av.le e ds xs j⟩
 |.kQ ns,v,h=>by
  simp only[Rep] at h⊢;obtain⟨a,h1,h2⟩:=h;exact⟨a,h1,e.b.seq h2⟩
 |.tup ds,v,h=>by
  simp only[Rep] at h⊢;obtain⟨a,xs,h1,h2,j⟩:=h;exact⟨a,xs,h1,ee.same e.b h2,av.le e ds xs j⟩
 |.dct ks ds,v,h=>by
  simp only[Rep] at h⊢;obtain⟨a,xs,h1,h2,j,m⟩:=h;exact⟨a,xs,h1,e.b _ _ h2,j,av.le e ds _ m⟩
theorem av.le{K:yaM}{w a:Wd}(e:w.le a):∀(ds:List D)(xs:List V),av K w ds xs->av K a ds xs
 |[],_,h=>by simpa[av] using h
 |d::ds,xs,h=>by
  simp only[av] at h⊢;obtain⟨x,r,h1,h2,i⟩:=h;exact⟨x,r,h1,Rep.le e d x h2,av.le e ds r i⟩
end
section
variable {w w':Wd}
theorem av.nil:av K w [] []:=by simp[av]
theorem av.cons{d:D}{ds:List D}(h:Rep K w d v)(t:av K w ds vs):av K w (d::ds) (v::vs):=by
 simp only[av];exact⟨v,vs,rfl,h,t⟩
theorem av.length:∀{ds:List D}{vs:List V},av K w ds vs->vs.length=ds.length
 |[],_,h=>by simp only[av] at h;subst h;rfl
 |d::ds,vs,h=>by
  simp only[av] at h;obtain⟨x,r,rfl,_,h⟩:=h;simp[av.length h]
theorem av.get:∀{ds:List D}{vs:List V}{i:Nat}{d:D},av K w ds vs->ds[i]? =some d->∃v,vs[i]? =some v/\Rep K w d v
 |[],_,_,_,_,e=>by simp at e
 |d::ds,vs,0,d',h,e=>by
  simp only[av] at h;obtain⟨x,r,rfl,h1,h⟩:=h;simp at e;subst e;exact⟨x,rfl,h1⟩
 |d::ds,vs,i+1,d',h,e=>by
  simp only[av] at h;obtain⟨x,r,rfl,h1,h⟩:=h;obtain⟨v,j,a⟩:=av.get (i:=i) h (by simpa using e);exact⟨v,by simpa using j,a⟩
theorem av.append:∀{ds es:List D}{vs us:List V},av K w ds vs->av K w es us->av K w (ds++es) (vs++us)
 |[],_,_,_,h,g=>by simp only[av] at h;subst h;exact g
 |d::ds,es,vs,us,h,g=>by
  simp only[av] at h;obtain⟨x,r,rfl,h1,h⟩:=h;exact av.cons h1 (av.append h g)
theorem av.snoc{ds:List D}{d:D}(h:av K w ds vs)(g:Rep K w d v):av K w (ds++[d]) (vs++[v]):=h.append (.cons g .nil)
theorem av.take:∀(n:Nat){ds:List D}{vs:List V},av K w ds vs->av K w (ds.take n) (vs.take n)
 |0,_,_,_=>by simp[av]
 |n+1,[],_,h=>by simp only[av] at h;subst h;simp[av]
 |n+1,d::ds,vs,h=>by
  simp only[av] at h;obtain⟨x,r,rfl,h1,h⟩:=h;exact av.cons h1 (av.take n h)
theorem av.drop:∀(n:Nat){ds:List D}{vs:List V},av K w ds vs->av K w (ds.drop n) (vs.drop n)
 |0,_,_,h=>h
 |n+1,[],_,h=>by simp only[av] at h;subst h;simp[av]
 |n+1,d::ds,vs,h=>by
  simp only[av] at h;obtain⟨x,r,rfl,h1,h⟩:=h;exact av.drop n h
end
def jy(K:yaM)(w:Wd):MO->HO->Prop
 |.lst ds,u=>∃xs,u=.lst xs/\av K w ds xs
 |.dct ks ds,u=>∃e,u=.dK e/\e.map (·.1)=ks/\av K w ds (e.map (·.2))
 |.feed n,u=>∃l s:Int,u=.dK (Cb l s n)/\0<=l/\0<=s/\s<1000003
 |.ins C ks ds,u=>∃i fs,u=.ins C i fs/\fs.map (·.1)=ks/\av K w ds (fs.map (·.2))
 |.Ge F ks,u=>∃(a:Addr)(bs:List Addr),u=.ext (F a bs)/\av K w ks (bs.map V.ref)
theorem jy.le{w j:Wd}(e:w.le j):∀{o:MO}{u:HO},jy K w o u->jy K j o u:=by
 intro o u h;cases o with
 |lst ds=>obtain⟨xs,h1,h2⟩:=h;exact⟨xs,h1,h2.le e⟩
 |dct ks ds=>obtain⟨xs,h1,h2,i⟩:=h;exact⟨xs,h1,h2,i.le e⟩
 |feed n=>exact h
 |ins C ks ds=>obtain⟨l,fs,h1,h2,i⟩:=h;exact⟨l,fs,h1,h2,i.le e⟩
 |Ge F ks=>obtain⟨a,bs,h1,h2⟩:=h;exact⟨a,bs,h1,h2.le e⟩
structure Ok(K:yaM)(w:Wd)(H:Hp)(S:aD):Prop where
 base:cJ w.B H
 live:∀n o,S[n]? =some (some o)->∃a u,w.r n=some a/\w.B a=none/\H a=some u/\jy K w o u
 inj:∀n m o o',S[n]? =some (some o)->S[m]? =some (some o')->w.r n=w.r m->n=m
 top:∀n,S.length<=n->w.r n=none
def yu(K:yaM)(w:Wd)(H:Hp)(S:aD):R->V->Prop
 |.dat d,v=>Rep K w d v
 |.new o,v=>∃a u,v=.ref a/\w.B a=none/\H a=some u/\jy K w o u/\∀n e,S[n]? =some (some e)->w.r n≠some a
def dU(K:yaM)(w:Wd)(δ:List (Option D))(a:St):Prop:=δ.length=a.length/\∀(i:Nat)(d:D),δ[i]? =some (some d)->∃v,a[i]? =some (some v)/\Rep K w d v
theorem dU.le{w a:Wd}{δ:List (Option D)}(h:dU K w δ σ)(e:w.le a):dU K a δ σ:=⟨h.1,λi d q=>by
 obtain⟨v,h1,h2⟩:=h.2 i d q;exact⟨v,h1,h2.le e⟩⟩
theorem dU.set{w:Wd}{δ:List (Option D)}{d:D}(h:dU K w δ σ)(g:Rep K w d v)(i:Nat):dU K w (δ.set i (some d)) (σ.set i (some v)):=by
 refine⟨by simp[h.1],λj e q=>?_⟩;by_cases a:i=j
 ·subst a;rw[zbh] at q⊢;rw[yIp rfl] at q⊢;by_cases l:i<δ.length
  ·rw[yIp l] at q;rw[yIp (by rw[<-h.1];exact l)];have:d=e:=by simpa using q
   subst this;exact⟨v,rfl,g⟩
  ·rw[yIn l] at q;cases q
 ·rw[zaC a] at q⊢;exact h.2 j e q
section
variable {w w':Wd}{S S':aD}
theorem freeze{r:R}(k:Ok K w H S)(h:yu K w H S r v):∃w',w.le w'/\Ok K w' H S/\Rep K w' r.d v:=by
 cases r with
 |dat d=>exact⟨w,.refl,k,h⟩
 |new o=>
  obtain⟨a,u,rfl,I,L,q,E⟩:=h;have le:w.le ⟨upd w.B a u,w.r⟩:=⟨al I,λ_ _ e=>e⟩
  refine⟨⟨upd w.B a u,w.r⟩,le,⟨λb i e=>?_,λn i e=>?_,k.inj,k.top⟩,?_⟩
  ·by_cases j:b=a
   ·subst j;have e:upd w.B b u b=some i:=e;rw[aq] at e;rw[L];exact e
   ·have e:upd w.B a u b=some i:=e;rw[au j] at e;exact k.base b i e
  ·obtain⟨m,y,h1,h2,P,O⟩:=k.live n i e;have:m≠a:=by intro z;subst z;exact E n i e h1
   exact⟨m,y,h1,by show upd w.B a u m=none;rw[au this];exact h2,P,O.le le⟩
  ·cases o with
   |lst ds=>
    obtain⟨xs,rfl,h⟩:=q;show Rep K _ (.lst ds) _;simp only[Rep];exact⟨a,xs,rfl,aq,h.le le⟩
   |dct ks ds=>
    obtain⟨l,rfl,h1,h⟩:=q;show Rep K _ (.dct ks ds) _;simp only[Rep];exact⟨a,l,rfl,aq,h1,h.le le⟩
   |feed n=>
    show Rep K _ .fd _;simp only[Rep];exact⟨a,rfl⟩
   |ins C ks ds=>
    show Rep K _ .fd _;simp only[Rep];exact⟨a,rfl⟩
   |Ge F ks=>
    show Rep K _ .fd _;simp only[Rep];exact⟨a,rfl⟩
theorem store{o:MO}(k:Ok K w H S)(h:yu K w H S (.new o) v):∃w',w.le w'/\Ok K w' H (S++[some o])/\Rep K w' (.loc S.length) v:=by
 obtain⟨a,u,rfl,U,W,Q,l⟩:=h;let I:Nat->Option Addr:=λn=>if n=S.length then some a else w.r n;have le:w.le ⟨w.B,I⟩:=⟨cJ.refl _,λn b e=>by
  have:n≠S.length:=by
   intro z;subst z;rw[k.top _ (zcS _)] at e;cases e
  show(if n=S.length then some a else w.r n)=some b;rw[yIn this];exact e⟩
 have at_:∀n i,(S++[some o])[n]? =some (some i)->(n=S.length/\i=o)∨(n<S.length/\S[n]? =some (some i)):=λn i e=>by
  by_cases C:n<S.length
  ·rw[zaf C] at e;exact .inr ⟨C,e⟩
  ·rw[zab (by lia)] at e;have:n - S.length=0:=by
    cases q:n - S.length with
    |zero=>rfl
    |succ j=>rw[q] at e;simp at e
   rw[this] at e;have e:o=i:=by simpa using e
   exact .inl ⟨by lia,e.symm⟩
 refine⟨⟨w.B,I⟩,le,⟨k.base,λn i e=>?_,λn m E y Z O e=>?_,λn l=>?_⟩,?_⟩
 ·rcases at_ n i e with⟨rfl,rfl⟩|⟨C,e⟩
  ·exact⟨a,u,by show(if _ then _ else _)=_;rw[yIp rfl],U,W,Q.le le⟩
  ·obtain⟨a',P,h1,h2,Y,X⟩:=k.live n i e;exact⟨a',P,le.r _ _ h1,h2,Y,X.le le⟩
 ·rcases at_ n E Z with⟨rfl,rfl⟩|⟨C,L⟩
  ·rcases at_ m y O with⟨rfl,rfl⟩|⟨F,q2⟩
   ·rfl
   ·exfalso;have e:(if S.length=S.length then some a else w.r S.length)=(if m=S.length then some a else w.r m):=e;rw[yIp rfl,yIn (by lia)] at e;exact l m y q2 e.symm
  ·rcases at_ m y O with⟨rfl,rfl⟩|⟨F,q2⟩
   ·exfalso;have e:(if n=S.length then some a else w.r n)=(if S.length=S.length then some a else w.r S.length):=e;rw[yIp rfl,yIn (by lia)] at e;exact l n E L e
   ·have e:(if n=S.length then some a else w.r n)=(if m=S.length then some a else w.r m):=e;rw[yIn (by lia),yIn (by lia)] at e;exact k.inj n m E y L q2 e
 ·rw[zaO] at l;have:n≠S.length:=by simp at l;lia
  show(if n=S.length then some a else w.r n)=none;rw[yIn this];exact k.top n (by simp at l;lia)
 ·simp only[Rep];exact⟨a,by show(if _ then _ else _)=_;rw[yIp rfl],rfl⟩
theorem Ok.alloc{p:Addr}{o:HO}(k:Ok K w H S)(i:H p=none):Ok K w (upd H p o) S:=
 ⟨k.base.trans (al i),λn j e=>by
  obtain⟨a,u,h1,h2,m,l⟩:=k.live n j e;exact⟨a,u,h1,h2,al i _ _ m,l⟩,k.inj,k.top⟩
theorem Ok.free{p:Addr}(k:Ok K w H S)(a:H p=none):w.B p=none:=k.base.free a
theorem Ok.fresh{p:Addr}{o:HO}{m:MO}(k:Ok K w H S)(i:H p=none)(h:jy K w m o):yu K w (upd H p o) S (.new m) (.ref p):=
 ⟨p,o,rfl,k.free i,aq,h,λn l e z=>by
  obtain⟨a,u,h1,h2,j,q⟩:=k.live n l e;rw[z] at h1;cases h1;rw[i] at j;cases j⟩
theorem Ok.kZ{p:Addr}{ds:List D}{xs:List V}(k:Ok K w H S)(l:H p=none)(h:av K w ds xs):∃w',w.le w'/\Ok K w' (upd H p (.tup xs)) S/\Rep K w' (.tup ds) (.ref p):=by
 have q:=k.free l;have le:w.le ⟨upd w.B p (.tup xs),w.r⟩:=⟨al q,λ_ _ e=>e⟩
 refine⟨⟨upd w.B p (.tup xs),w.r⟩,le,⟨λb o e=>?_,λn o e=>?_,k.inj,k.top⟩,?_⟩
 ·by_cases j:b=p
  ·subst j;have e:upd w.B b (.tup xs) b=some o:=e;rw[aq] at e⊢;exact e
  ·have e:upd w.B p (.tup xs) b=some o:=e;rw[au j] at e⊢;exact k.base b o e
 ·obtain⟨a,u,h1,h2,m,y⟩:=k.live n o e;have i:a≠p:=aF m l;exact⟨a,u,h1,by show upd w.B p _ a=none;rw[au i];exact h2,by rw[au i];exact m,y.le le⟩
 ·simp only[Rep];exact⟨p,xs,rfl,ee.of aq,h.le le⟩
theorem Ok.put{n:Nat}{a:Addr}{o o':MO}{C:HO}(k:Ok K w H S)(e:S[n]? =some (some o))(F:w.r n=some a)(h:jy K w o' C):Ok K w (upd H a C) (S.set n (some o')):=by
 have W:n<S.length:=by
  rcases zcJ n S.length with h|h
  ·exact h
  ·rw[zau h] at e;cases e
 have at_:∀m q,(S.set n (some o'))[m]? =some (some q)->(m=n/\q=o')∨(m≠n/\S[m]? =some (some q)):=λm q z=>by
  by_cases i:n=m
  ·subst i;rw[zbh,yIp rfl,yIp W] at z;have z:o'=q:=by simpa using z
   exact .inl ⟨rfl,z.symm⟩
  ·rw[zaC i] at z;exact .inr ⟨λy=>i y.symm,z⟩
 obtain⟨a0,u0,h1,h2,h3,_⟩:=k.live n o e;rw[F] at h1;cases h1;refine⟨λb q z=>?_,λm q z=>?_,λm l q U z P y=>?_,λm i=>k.top m (by simpa using i)⟩
 ·rw[au (by intro y;subst y;rw[h2] at z;cases z)];exact k.base b q z
 ·rcases at_ m q z with⟨rfl,rfl⟩|⟨i,z⟩
  ·exact⟨a,C,F,h2,aq,h⟩
  ·obtain⟨b,u,I,Z,Y,X⟩:=k.live m q z;have:b≠a:=by
    intro y;subst y;exact i (k.inj m n q o z e (I.trans F.symm))
   exact⟨b,u,I,Z,by rw[au this];exact Y,X⟩
 ·have j:∀m q,(S.set n (some o'))[m]? =some (some q)->∃E,S[m]? =some (some E):=λm q z=>by
   rcases at_ m q z with⟨rfl,rfl⟩|⟨i,z⟩
   ·exact⟨o,e⟩
   ·exact⟨q,z⟩
  obtain⟨E,O⟩:=j m q z;obtain⟨Q,L⟩:=j l U P;exact k.inj m l E Q O L y
end
noncomputable def bq(S:aD):D->D
 |.loc n=>match S[n]? with
  |some (some o)=>o.d
  |_=>.loc n
 |d=>d
section
variable {w:Wd}{S:aD}
theorem bC{d:D}{ds:List D}(k:Ok K w H S)(h:Rep K w d v)(e:bq S d=.lst ds):∃a xs,v=.ref a/\H a=some (.lst xs)/\av K w ds xs:=by
 cases d with
 |loc n=>
  simp only[Rep] at h;obtain⟨a,h1,rfl⟩:=h;simp only[bq] at e;split at e
  next o q=>
   obtain⟨z,u,i,y,m,l⟩:=k.live n o q;rw[h1] at i;cases i;cases o with
   |lst es=>
    have:es=ds:=by simpa[MO.d] using e
    subst this;obtain⟨xs,rfl,g⟩:=l;exact⟨a,xs,rfl,m,g⟩
   |dct ks es=>simp[MO.d] at e
   |feed n=>simp[MO.d] at e
   |ins C ks ds=>simp[MO.d] at e
   |Ge F ks=>simp[MO.d] at e
  next=>cases e
 |lst es=>
  have:es=ds:=by simpa[bq] using e
  subst this;simp only[Rep] at h;obtain⟨a,xs,h1,h2,j⟩:=h;exact⟨a,xs,h1,k.base _ _ h2,j⟩
 |_=>simp[bq] at e
theorem eg{d:D}{ds:List D}(k:Ok K w H S)(h:Rep K w d v)(e:bq S d=.tup ds):∃a xs,v=.ref a/\ee K H a xs/\av K w ds xs:=by
 cases d with
 |loc n=>
  simp only[bq] at e;split at e
  next o q=>cases o<;>simp[MO.d] at e
  next=>cases e
 |tup es=>
  have:es=ds:=by simpa[bq] using e
  subst this;simp only[Rep] at h;obtain⟨a,xs,h1,h2,i⟩:=h;exact⟨a,xs,h1,ee.same k.base h2,i⟩
 |_=>simp[bq] at e
theorem gm{d:D}{ks:List Key}{ds:List D}(k:Ok K w H S)(h:Rep K w d v)(e:bq S d=.dct ks ds):∃a kvs,v=.ref a/\H a=some (.dK kvs)/\kvs.map (·.1)=ks/\av K w ds (kvs.map (·.2)):=by
 cases d with
 |loc n=>
  simp only[Rep] at h;obtain⟨a,h1,rfl⟩:=h;simp only[bq] at e;split at e
  next o q=>
   obtain⟨z,u,i,y,m,l⟩:=k.live n o q;rw[h1] at i;cases i;cases o with
   |lst es=>simp[MO.d] at e
   |feed n=>simp[MO.d] at e
   |ins C ks ds=>simp[MO.d] at e
   |Ge F ks=>simp[MO.d] at e
   |dct ks' es=>
    have:ks'=ks/\es=ds:=by simpa[MO.d] using e
    obtain⟨rfl,rfl⟩:=this;obtain⟨kvs,rfl,g⟩:=l;exact⟨a,kvs,rfl,m,g⟩
  next=>cases e
 |dct ks' es=>
  have:ks'=ks/\es=ds:=by simpa[bq] using e
  obtain⟨rfl,rfl⟩:=this;simp only[Rep] at h;obtain⟨a,xs,h1,h2,j⟩:=h;exact⟨a,xs,h1,k.base _ _ h2,j⟩
 |_=>simp[bq] at e
end
abbrev bF:=List (Option D)
abbrev AK:=R->aD->Prop
abbrev AE:=bF->aD->AK->Prop
abbrev AT:=bF->aD->(Bool->aD->Prop)->Prop
abbrev AA:=bF->aD->(List D->aD->Prop)->Prop
abbrev AO:=bF->aD->(Option Int->aD->Prop)->Prop
structure fL where
 nx:bF->aD->Prop
 rt:AK
 bk:bF->aD->Prop:=λ_ _=>False
 ct:bF->aD->Prop:=λ_ _=>False
abbrev AS:=fL->bF->aD->Prop
abbrev AG:=D->bF->aD->(bF->aD->Prop)->Prop
abbrev Gg:=List D->bF->aD->(bF->aD->Prop)->Prop
abbrev AI:=bF->aD->(List D->(aD->Prop)->aD->Prop)->Prop
abbrev A2:=D->D->aD->AK->Prop
abbrev A1:=D->aD->AK->Prop
abbrev AN:=List D->aD->AK->Prop
section
variable (K:yaM)(w:Wd)
def dX(Qa:AK)(Q:VK):Prop:=∀r e v a i,w.le a->Ok K a i e->yu K a i e r v->Qa r e->Q v i
def Ax(Qa:Bool->aD->Prop)(Q:Bool->Hp->Prop):Prop:=∀b e a i,w.le a->Ok K a i e->Qa b e->Q b i
def QF(Qa:List D->aD->Prop)(Q:List V->Hp->Prop):Prop:=∀i j e a l,w.le a->Ok K a l j->av K a i e->Qa i j->Q e l
def QD(Qa:Option Int->aD->Prop)(Q:Option Int->Hp->Prop):Prop:=∀i e a j,w.le a->Ok K a j e->Qa i e->Q i j
def lV(Qa:bF->aD->Prop)(Q:St->Hp->Prop):Prop:=∀i j e a l,w.le a->Ok K a l j->dU K a i e->Qa i j->Q e l
structure wB(Da:fL)(D:Ends):Prop where
 nx:lV K w Da.nx D.nx
 rt:dX K w Da.rt D.rt
 bk:lV K w Da.bk D.bk
 ct:lV K w Da.ct D.ct
structure Qx(J:It)(ds:List D)(P:aD->Prop):Prop where
 go:∀i H S w' d,w.le w'->Ok K w' H S->P S->ds[i]? =some d->J.go i H
 B6:∀i H S w' d x H',w.le w'->Ok K w' H S->P S->ds[i]? =some d->J.B6 i H x H'->∃w3,w'.le w3/\Ok K w3 H' S/\Rep K w3 d x
 stop:∀i H S w',w.le w'->Ok K w' H S->P S->i=ds.length->J.stop i H
def QG(Qa:List D->(aD->Prop)->aD->Prop)(R:It->Hp->Prop):Prop:=∀e P i J a j,w.le a->Ok K a j i->Qx K a J e P->Qa e P i->R J j
end
section
variable {w w':Wd}
theorem dX.le{Qa:AK}{Q:VK}(h:dX K w Qa Q)(e:w.le w'):dX K w' Qa Q:=λr S v a H l=>h r S v a H (e.trans l)
theorem Ax.le{Qa}{Q}(h:Ax K w Qa Q)(e:w.le w'):Ax K w' Qa Q:=λr S a H l=>h r S a H (e.trans l)
theorem lV.le{Qa}{Q}(h:lV K w Qa Q)(e:w.le w'):lV K w' Qa Q:=λr S v a H l=>h r S v a H (e.trans l)
theorem wB.le{a:fL}{D:Ends}(h:wB K w a D)(e:w.le w'):wB K w' a D:=⟨h.nx.le e,h.rt.le e,h.bk.le e,h.ct.le e⟩
end
section
variable (K:yaM)
def bx(a:AE):TE:=λj H Q=>∃w e S i,Ok K w H S/\dU K w e j/\a e S i/\dX K w i Q
def iV(a:AT):TT:=λj H Q=>∃w e S i,Ok K w H S/\dU K w e j/\a e S i/\Ax K w i Q
def lq(a:AA):TA:=λj H Q=>∃w e S i,Ok K w H S/\dU K w e j/\a e S i/\QF K w i Q
def EX(a:AO):TO:=λj H Q=>∃w e S i,Ok K w H S/\dU K w e j/\a e S i/\QD K w i Q
def iW(a:AS):TS:=λD j H=>∃w e S i,Ok K w H S/\dU K w e j/\a i e S/\wB K w i D
def x8(a:AG):TG:=λx j H Q=>∃w d e S i,Ok K w H S/\dU K w e j/\Rep K w d x/\a d e S i/\lV K w i Q
def vv(a:Gg):Jd:=λxs l H Q=>∃w i e S j,Ok K w H S/\dU K w e l/\av K w i xs/\a i e S j/\lV K w j Q
def x6(a:AI):TI:=λj H R=>∃w e S i,Ok K w H S/\dU K w e j/\a e S i/\QG K w i R
def vz(a:A2):R2:=λx y H Q=>∃w d e S i,Ok K w H S/\Rep K w d x/\Rep K w e y/\a d e S i/\dX K w i Q
def PR(a:A1):V->Hp->VK->Prop:=λx H Q=>∃w d S e,Ok K w H S/\Rep K w d x/\a d S e/\dX K w e Q
def Na(a:AN):List V->Hp->VK->Prop:=λxs H Q=>∃w e S i,Ok K w H S/\av K w e xs/\a e S i/\dX K w i Q
def PM(a:D->List D->aD->AK->Prop):V->List V->Hp->VK->Prop:=λx xs H Q=>∃w d e S i,Ok K w H S/\Rep K w d x/\av K w e xs/\a d e S i/\dX K w i Q
def aN(a:AN):Sp:=λe H Q _=>Na K a e H Q
end
structure GE(X:Cx)(e:Expr)(a:AE):Prop where
 p:PE X e (bx X.K a)
structure GT(X:Cx)(e:Expr)(a:AT):Prop where
 p:PT X e (iV X.K a)
structure GW(X:Cx)(e:Expr)(a:AT):Prop where
 p:PW X e (iV X.K a)
structure GA(X:Cx)(e:List Expr)(a:AA):Prop where
 p:PA X e (lq X.K a)
structure GO(X:Cx)(e:Option Expr)(a:AO):Prop where
 p:PO X e (EX X.K a)
structure GS(X:Cx)(s:Stmt)(a:AS):Prop where
 p:PS X s (iW X.K a)
structure yC(X:Cx)(s:List Stmt)(a:AS):Prop where
 p:pQ X s (iW X.K a)
structure GG(X:Cx)(e:Expr)(a:AG):Prop where
 p:PG X e (x8 X.K a)
structure Q7(X:Cx)(e:List Expr)(a:Gg):Prop where
 p:NG X e (vv X.K a)
structure GI(X:Cx)(tg e:Expr)(a:AI):Prop where
 p:PI X tg e (x6 X.K a)
structure Oc(X:Cx)(e:List Expr)(a:AT):Prop where
 p:Ku X e (iV X.K a)
structure pL(X:Cx)(f:yaj->yaj->Sem yaj)(a:A2):Prop where
 p:fk X f (vz X.K a)
structure Th(X:Cx)(f:yaj->Sem yaj)(a:A1):Prop where
 p:N9 X f (PR X.K a)
structure tO(X:Cx)(f:yaj)(a:AN):Prop where
 p:bN X f (Na X.K a)
structure Tg(X:Cx)(a:A2):Prop where
 p:B4 X (vz X.K a)
theorem mE{t u:TE}(h:PE X e t)(m:∀a H Q,u a H Q->t a H Q):PE X e u:=λi s a H Q I q=>h i s a H Q I (m a H Q q)
theorem mT{t u:TT}(h:PT X e t)(m:∀a H Q,u a H Q->t a H Q):PT X e u:=λi s a H Q I q=>h i s a H Q I (m a H Q q)
theorem mW{t u:TT}(h:PW X e t)(m:∀a H Q,u a H Q->t a H Q):PW X e u:=λj i s a H Q I q=>h j i s a H Q I (m a H Q q)
theorem mA{e:List Expr}{t u:TA}(h:PA X e t)(m:∀a H Q,u a H Q->t a H Q):PA X e u:=λj i s a H Q I q=>h j i s a H Q I (m a H Q q)
theorem mO{e:Option Expr}{t u:TO}(h:PO X e t)(m:∀a H Q,u a H Q->t a H Q):PO X e u:=λi s a H Q I q=>h i s a H Q I (m a H Q q)
theorem mS{e:Stmt}{t u:TS}(h:PS X e t)(m:∀D a H,u D a H->t D a H):PS X e u:=λi s a H D I q=>h i s a H D I (m D a H q)
theorem QM{e:List Stmt}{t u:TS}(h:pQ X e t)(m:∀D a H,u D a H->t D a H):pQ X e u:=λi s a H D I q=>h i s a H D I (m D a H q)
theorem mG{t u:TG}(h:PG X e t)(m:∀x a H Q,u x a H Q->t x a H Q):PG X e u:=λi s a H x v Q I r q=>h i s a H x v Q I r (m x a H Q q)
theorem SV{e:List Expr}{t u:Jd}(h:NG X e t)(m:∀x a H Q,u x a H Q->t x a H Q):NG X e u:=λi s a H x v Q I r q=>h i s a H x v Q I r (m x a H Q q)
theorem mI{g:Expr}{t u:TI}(h:PI X g e t)(m:∀a H R,u a H R->t a H R):PI X g e u:=λi s a H R I q=>h i s a H R I (m a H R q)
theorem mTs{e:List Expr}{t u:TT}(h:Ku X e t)(m:∀a H Q,u a H Q->t a H Q):Ku X e u:=λi s a H Q I q=>h i s a H Q I (m a H Q q)
theorem m2{f:yaj->yaj->Sem yaj}{t u:R2}(h:fk X f t)(m:∀x y H Q,u x y H Q->t x y H Q):fk X f u:=λa s e H x y v u Q I r i q=>h a s e H x y v u Q I r i (m x y H Q q)
theorem m1{f:yaj->Sem yaj}{t u:V->Hp->VK->Prop}(h:N9 X f t)(m:∀x H Q,u x H Q->t x H Q):N9 X f u:=λa s e H x v Q I r q=>h a s e H x v Q I r (m x H Q q)
theorem mC{f:yaj}{t u:List V->Hp->VK->Prop}(h:bN X f t)(m:∀x H Q,u x H Q->t x H Q):bN X f u:=λa s e H x v Q I r q=>h a s e H x v Q I r (m x H Q q)
def cQ(i:Nat):AE:=λa S Q=>∃d,a[i]? =some (some d)/\Q (.dat d) S
def aC(d:D):AE:=λ_ S Q=>Q (.dat d) S
def yj(r:A2)(a b:AE):AE:=λe S Q=>a e S λx j=>b e j λy i=>r x.d y.d i Q
def Ss(r:A1)(a:AE):AE:=λe S Q=>a e S λx i=>r x.d i Q
def jx:AA:=λ_ S Q=>Q [] S
def fH(a:AE)(b:AA):AA:=λe S Q=>a e S λx j=>b e j λxs i=>Q (x.d::xs) i
def IM(a:AA):AE:=λi S Q=>a i S λe j=>e.length<=yah/\Q (.dat (.tup e)) j
def Nr(a:AA):AE:=λi S Q=>a i S λe j=>e.length<=yah/\Q (.new (.lst e)) j
def dF(a:AE):AE:=λi S Q=>a i S λr e=>match r with
 |.new o=>Q (.dat (.loc e.length)) (e++[some o])
 |.dat d=>Q (.dat d) e
def aCall(sp:AN)(a:AA):AE:=λe S Q=>a e S λi j=>sp i j Q
def aB(a:AE):AT:=λe S Q=>a e S λr i=>∃b,r.d=.bl b/\Q b i
noncomputable def fG:D->Option Bool
 |.aY=>some false
 |.bl b=>some b
 |.int i=>some (i != 0)
 |.str y=>if y.length<=yah then some ((y.length:Int) != 0) else none
 |.tup ds=>some (!ds.isEmpty)
 |.lst ds=>some (!ds.isEmpty)
 |.dct ks _=>some (!ks.isEmpty)
 |_=>none
def Nk(a:AE):AT:=λi S Q=>a i S λr e=>∃b,fG (bq e r.d)=some b/\Q b e
def FA(a b:AE):AE:=λe S Q=>a e S λx i=>∃c,x.d=.bl c/\if c=true then b e i Q else Q (.dat (.bl false)) i
def Su(a b:AE):AE:=λe S Q=>a e S λx i=>∃c,x.d=.bl c/\if c=true then Q (.dat (.bl true)) i else b e i Q
def Qh(a:AE):AE:=λe S Q=>a e S λx i=>∃c,x.d=.bl c/\Q (.dat (.bl (!c))) i
def Nv(a b:AT):AT:=λe S Q=>a e S λc i=>if c=true then b e i Q else Q false i
def Qg(a b:AT):AT:=λe S Q=>a e S λc i=>if c=true then Q true i else b e i Q
def Np(a:AT):AT:=λe S Q=>a e S λc i=>Q (!c) i
def aIf(t:AT)(a b:AE):AE:=λe S Q=>t e S λc i=>if c=true then a e i Q else b e i Q
def lC(r l:A2)(a b c:AE):AE:=λe S Q=>a e S λx o=>b e o λy n=>r x.d y.d n λz i=>∃k,z.d=.bl k/\if k=true then c e i λj m=>l y.d j.d m Q else Q (.dat (.bl false)) i
def eG:AO:=λ_ S Q=>Q none S
def pI(a:AE):AO:=λe S Q=>a e S λr j=>∃i,r.d=.int i/\Q (some i) j
def Nn(r:D->Option Int->Option Int->aD->AK->Prop)(a:AE)(l u:AO):AE:=λe S Q=>a e S λx o=>l e o λi n=>u e n λj m=>r x.d i j m Q
def vP:AS:=λD a S=>D.nx a S
def fZ(a b:AS):AS:=λD e S=>a {D with nx:=b D} e S
def IW(a:AE):AS:=λD e S=>a e S D.rt
def Qf:AS:=λD _ S=>D.rt (.dat .aY) S
def An(a:AE):AS:=λD e S=>a e S λ_ i=>D.nx e i
def vR(c:AT)(a b:AS):AS:=λD e S=>c e S λk i=>if k=true then a D e i else b D e i
def bg(i:Nat):AG:=λd a S Q=>Q (a.set i (some d)) S
def Fj:Gg:=λe a S Q=>e=[]/\Q a S
def sP(a:AG)(b:Gg):Gg:=λj i S Q=>∃d r,j=d::r/\a d i S λe l=>b r e l Q
def Fi(n:Nat)(a:Gg):AG:=λd i S Q=>∃e,d=.tup e/\e.length=n/\a e i S Q
def yo(a:AE)(g:AG):AS:=λD e S=>a e S λr i=>g r.d e i D.nx
def j0(P:aD->Prop)(g:AG)(b:AS):List D->fL->bF->aD->Prop
 |[],D,δ,S=>P S/\D.nx δ S
 |x::xs,D,δ,S=>P S/\g x δ S λa e=>b {D with nx:=j0 P g b xs D,ct:=j0 P g b xs D,bk:=D.nx} a e
def kG(i:AI)(g:AG)(b:AS):AS:=λD a S=>i a S λe P j=>j0 P g b e D a j
def gM:AT:=λ_ S Q=>Q true S
def cK(P:aD->Prop)(g:AG)(t:AT)(e:AE):List D->List D->bF->aD->(List D->aD->Prop)->Prop
 |[],acc,_,S,Q=>P S/\Q acc S
 |x::xs,acc,δ,S,Q=>P S/\g x δ S λa l=>t a l λb i=>if b=true then e a i λr j=>acc.length<yah/\cK P g t e xs (acc++[r.d]) a j Q else cK P g t e xs acc a i Q
noncomputable def fW(caps:List (Option Nat))(δ:bF):bF:=caps.map λo=>o.bind λi=>(δ[i]?).getD none
def dS(caps:List (Option Nat))(i:AI)(g:AG)(t:AT)(e:AE):AE:=λj S Q=>i j S λl P n=>cK P g t e l [] (fW caps j) n λa m=>Q (.new (.lst a)) m
noncomputable def cC(a:Int)(n:Nat):List D:=(zcX n).map λk:Nat=>.int (a+(k:Int))
def l0(a:AA):AI:=λe S Q=>a e S λi l=>∃j:Int,i=[.int j]/\(-(2 ^ 62)<=j/\j<2 ^ 62)/\Q (cC 0 j.toNat) (λ_=>True) l
noncomputable def signs(x:Str):List D:=x.cps.toList.map λc=>.str ⟨#[c]⟩
theorem dX.go{w:Wd}{Qa:AK}{Q:VK}(h:∀r i v e H',w.le e->Ok K e H' i->Rep K e r.d v->Qa r i->Q v H'):dX K w Qa Q:=λr i v e H' le ok rep q=>by
 obtain⟨m,l,j,a⟩:=freeze ok rep;exact h r i v m H' (le.trans l) j a q
theorem dX.dat{w a:Wd}{Qa:AK}{Q:VK}{d:D}{S:aD}(h:dX K w Qa Q)(le:w.le a)(ok:Ok K a H S)(rep:Rep K a d v)(q:Qa (.dat d) S):Q v H:=h (.dat d) S v a H le ok rep q
theorem Ox:∀a H Q,bx K (cQ i) a H Q->tV i a H Q:=by
 rintro a H Q ⟨w,m,S,n,ok,env,⟨d,e,q⟩,bk⟩;obtain⟨v,l,j⟩:=env.2 i d e;exact⟨v,l,bk.dat .refl ok j q⟩
theorem NW{d:D}(h:∀w,Rep K w d v):∀a H Q,bx K (aC d) a H Q->tC v a H Q:=by
 rintro a H Q ⟨w,e,S,i,ok,env,q,bk⟩;exact bk.dat .refl ok (h w) q
theorem GD{r:A2}{a b:AE}:∀m H Q,bx K (yj r a b) m H Q->AD (vz K r) (bx K a) (bx K b) m H Q:=by
 rintro m H Q ⟨w,u,S,O,ok,env,q,bk⟩;refine⟨w,u,S,_,ok,env,q,.go λE L U z X l o i F=>?_⟩;refine⟨z,u,L,_,o,env.le l,F,.go λC I P y W j n e q2=>?_⟩;exact⟨y,E.d,C.d,I,O,n,i.le j,e,q2,bk.le (l.trans j)⟩
theorem Rp{r:A1}{a:AE}:∀i H Q,bx K (Ss r a) i H Q->SN (PR K r) (bx K a) i H Q:=by
 rintro i H Q ⟨w,m,S,z,ok,env,q,bk⟩;refine⟨w,m,S,_,ok,env,q,.go λo y C n E l j e u=>?_⟩;exact⟨n,o.d,y,z,j,e,u,bk.le l⟩
theorem OE:∀a H Q,lq K jx a H Q->wK a H Q:=by
 rintro a H Q ⟨w,e,S,i,ok,env,q,bk⟩;exact bk [] S [] w H .refl ok .nil q
theorem Lw{a:AE}{b:AA}:∀m H Q,lq K (fH a b) m H Q->nj (bx K a) (lq K b) m H Q:=by
 rintro m H Q ⟨w,u,S,W,ok,env,q,bk⟩;refine⟨w,u,S,_,ok,env,q,.go λP F O z X l o i C=>?_⟩;refine⟨z,u,F,_,o,env.le l,C,λU E L y I j n e q2=>?_⟩;exact bk _ E _ y I (l.trans j) n (.cons (i.le j) e) q2
theorem Oz{a:AA}:∀j H Q,bx K (IM a) j H Q->KY (lq K a) j H Q:=by
 rintro j H Q ⟨w,u,S,P,ok,env,q,bk⟩;refine⟨w,u,S,_,ok,env,q,λL O I F U o m e ⟨C,y⟩=>⟨by rw[e.length];exact C,λp z=>?_⟩⟩;obtain⟨E,n,l,i⟩:=m.kZ z e;exact bk.dat (o.trans n) l i y
theorem OF{a:AA}:∀j H Q,bx K (Nr a) j H Q->K3 (lq K a) j H Q:=by
 rintro j H Q ⟨w,n,S,F,ok,env,q,bk⟩;refine⟨w,n,S,_,ok,env,q,λC E u o I l i e ⟨z,y⟩=>⟨by rw[e.length];exact z,λp m=>?_⟩⟩;exact bk (.new (.lst C)) E _ o _ l (i.alloc m) (i.fresh m ⟨u,rfl,e⟩) y
theorem s_alloc{a:AE}:∀m H Q,bx K (dF a) m H Q->bx K a m H Q:=by
 rintro m H Q ⟨w,z,S,I,ok,env,q,bk⟩;refine⟨w,z,S,_,ok,env,q,λr F v E L l j e y=>?_⟩;cases r with
 |dat d=>exact bk.dat l j e y
 |new o=>
  obtain⟨C,u,n,i⟩:=store j e;exact bk.dat (l.trans u) n i y
theorem s_call{sp:AN}{a:AA}{E:XK}:∀i H Q,bx K (aCall sp a) i H Q->yN (aN K sp) [] E (lq K a) i H Q:=by
 rintro i H Q ⟨w,m,S,z,ok,env,q,bk⟩;refine⟨w,m,S,_,ok,env,q,λu y C n F l j e o=>?_⟩;exact⟨n,u,y,z,j,by rw[zbO];exact e,o,bk.le l⟩
theorem OJ{r:AN}{a:AA}:∀i H Q,bx K (aCall r a) i H Q->NU (Na K r) (lq K a) i H Q:=by
 rintro i H Q ⟨w,m,S,z,ok,env,q,bk⟩;refine⟨w,m,S,_,ok,env,q,λu y C n E l j e o=>?_⟩;exact⟨n,u,y,z,j,e,o,bk.le l⟩
theorem nN{w:Wd}{d:D}(h:Rep K w d v)(e:d=.bl b):v=.bl b:=by subst e;simpa[Rep] using h
theorem bD{w:Wd}{b:Int}{d:D}(h:Rep K w d v)(e:d=.int b):v=.int b:=by subst e;simpa[Rep] using h
theorem c8{w:Wd}{b:Str}{d:D}(h:Rep K w d v)(e:d=.str b):v=.str b:=by subst e;simpa[Rep] using h
theorem GV{w:Wd}{d:D}(h:Rep K w d v)(e:d=.aY):v=.aY:=by subst e;simpa[Rep] using h
theorem Dk{w:Wd}{n:String}{d:D}(h:Rep K w d v)(e:d=.ty n):v=.ty n:=by subst e;simpa[Rep] using h
theorem Rep.bl{w:Wd}:Rep K w (.bl b) (.bl b):=by simp[Rep]
theorem Rep.int{w:Wd}{b:Int}:Rep K w (.int b) (.int b):=by simp[Rep]
theorem Rep.str{w:Wd}{b:Str}:Rep K w (.str b) (.str b):=by simp[Rep]
theorem Rep.aY{w:Wd}:Rep K w .aY .aY:=by simp[Rep]
theorem Rep.ty{w:Wd}{n:String}:Rep K w (.ty n) (.ty n):=by simp[Rep]
theorem SQ{a:AE}:∀j H Q,iV K (aB a) j H Q->tB (bx K a) j H Q:=by
 rintro j H Q ⟨w,n,S,F,ok,env,q,bk⟩;refine⟨w,n,S,_,ok,env,q,.go λE y C o z m l i ⟨b,e,u⟩=>⟨b,nN i e,bk b y o z m l u⟩⟩
theorem Gk{w:Wd}{S:aD}{d:D}(ok:Ok K w H S)(h:Rep K w d v)(e:fG (bq S d)=some b):FE K v H b:=by
 cases q:bq S d with
 |lst ds=>
  rw[q] at e;obtain⟨a,xs,rfl,h1,h2⟩:=bC ok h q;refine Or.inl ⟨xs,b9.of h1,?_⟩;have:b= !ds.isEmpty:=by simpa[fG] using e.symm
  rw[this];have:=h2.length;cases ds<;>cases xs<;>simp at this⊢
 |tup ds=>
  rw[q] at e;obtain⟨a,xs,rfl,h1,h2⟩:=eg ok h q;refine Or.inr (Or.inl ⟨xs,h1,?_⟩);have:b= !ds.isEmpty:=by simpa[fG] using e.symm
  rw[this];have:=h2.length;cases ds<;>cases xs<;>simp at this⊢
 |dct ks ds=>
  rw[q] at e;obtain⟨a,i,rfl,h1,h2,j⟩:=gm ok h q;refine Or.inr (Or.inr ⟨i,h1,?_⟩);have:b= !ks.isEmpty:=by simpa[fG] using e.symm
  rw[this,<-h2];cases i<;>simp
 |_=>
  rw[q] at e;cases d<;>simp[bq] at q<;>first
   |(subst q;simp only[Rep] at h;subst h;simp[fG] at e;simp[FE,e];done)
   |(simp[fG] at e;done)
   |skip
  all_goals first
   |(simp only[Rep] at h;subst h;subst q;simp only[fG,zcW.injEq] at e;subst e;rfl)
   |(simp only[Rep] at h;subst h;simp only[fG,zcW.injEq] at e;subst e;rfl)
   |(split at q<;>first|(rename_i o _;cases o<;>simp[MO.d] at q)|(cases q;simp[fG] at e)|cases q)
   |(simp only[Rep] at h;subst h;subst q;simp only[fG] at e;split at e;next hl=>exact⟨hl,by simpa using e.symm⟩;next=>cases e)
   |skip
theorem OA{a:AE}:∀l H Q,iV K (Nk a) l H Q->(bx K a) l H (λx H'=>∃k,FE K x H' k/\Q k H'):=by
 rintro l H Q ⟨w,n,S,F,ok,env,q,bk⟩;exact⟨w,n,S,_,ok,env,q,.go λE y C o z m j i ⟨b,e,u⟩=>⟨b,Gk j i e,bk b y o z m j u⟩⟩
theorem Lx{a b:AE}:∀m H Q,bx K (FA a b) m H Q->Jz (bx K a) (bx K b) m H Q:=by
 rintro m H Q ⟨w,n,S,z,ok,env,q,bk⟩;refine⟨w,n,S,_,ok,env,q,.go λE y C u F i l j ⟨c,e,o⟩=>⟨c,nN j e,?_⟩⟩;cases c with
 |true=>exact u6 ⟨u,n,y,z,l,env.le i,by simpa using o,bk.le i⟩
 |false=>exact oR (bk.dat i l .bl (by simpa using o))
theorem OL{a b:AT}:∀j H Q,iV K (Nv a b) j H Q->Oo (iV K a) (iV K b) j H Q:=by
 rintro j H Q ⟨w,l,S,u,ok,env,q,bk⟩;refine⟨w,l,S,_,ok,env,q,λc o m y e i n=>?_⟩;cases c with
 |true=>exact u6 ⟨m,l,o,u,i,env.le e,by simpa using n,bk.le e⟩
 |false=>exact oR (bk _ o m y e i (by simpa using n))
theorem Rr{a b:AT}:∀j H Q,iV K (Qg a b) j H Q->Rg (iV K a) (iV K b) j H Q:=by
 rintro j H Q ⟨w,l,S,u,ok,env,q,bk⟩;refine⟨w,l,S,_,ok,env,q,λc o m y e i n=>?_⟩;cases c with
 |false=>exact oR ⟨m,l,o,u,i,env.le e,by simpa using n,bk.le e⟩
 |true=>exact u6 (bk _ o m y e i (by simpa using n))
theorem OD{a:AT}:∀e H Q,iV K (Np a) e H Q->K0 (iV K a) e H Q:=by
 rintro e H Q ⟨w,l,S,y,ok,env,q,bk⟩;exact⟨w,l,S,_,ok,env,q,λc o m u j i n=>bk _ o m u j i n⟩
theorem zf{r P:A2}{a b c:AE}:∀y H Q,bx K (lC r P a b c) y H Q->wL (vz K r) (vz K P) (bx K a) (bx K b) (bx K c) y H Q:=by
 rintro y H Q ⟨w,z,S,Qa,ok,env,q,bk⟩;refine⟨w,z,S,_,ok,env,q,.go λr1 S1 v1 Y H1 u I l q1=>?_⟩;refine⟨Y,z,S1,_,I,env.le u,q1,.go λO S2 v2 X H2 o F e q2=>?_⟩;refine⟨X,r1.d,O.d,S2,_,F,l.le o,e,q2,.go λr3 S3 v3 W H3 n mJ j C=>?_⟩;obtain⟨k,e3,q3⟩:=C;refine⟨k,nN j e3,?_⟩;have L:=u.trans (o.trans n);cases k with
 |false=>exact oR (bk.dat L mJ .bl (by simpa using q3))
 |true=>
  rw[yIp rfl] at q3;refine u6 ⟨W,z,S3,_,mJ,env.le L,q3,.go λZ S4 v4 U H4 m E i q4=>?_⟩;exact⟨U,O.d,Z.d,S4,_,E,e.le (n.trans m),i,q4,bk.le (L.trans m)⟩
theorem C3:∀a H Q,EX K eG a H Q->yL a H Q:=by
 rintro a H Q ⟨w,e,S,i,ok,env,q,bk⟩;exact bk none S w H .refl ok q
theorem Lm{a:AE}:∀l H Q,EX K (pI a) l H Q->Ju (bx K a) l H Q:=by
 rintro l H Q ⟨w,o,S,I,ok,env,q,bk⟩;exact⟨w,o,S,_,ok,env,q,.go λF z E u C n m j ⟨i,e,y⟩=>⟨i,bD j e,bk _ z u C n m y⟩⟩
def J9(K:yaM)(a:D->Option Int->Option Int->aD->AK->Prop):V->Option Int->Option Int->Hp->VK->Prop:=λx i j H Q=>∃w d S e,Ok K w H S/\Rep K w d x/\a d i j S e/\dX K w e Q
theorem Rq{r:D->Option Int->Option Int->aD->AK->Prop}{a:AE}{l u:AO}:∀y H Q,bx K (Nn r a l u) y H Q->SO (J9 K r) (bx K a) (EX K l) (EX K u) y H Q:=by
 rintro y H Q ⟨w,z,S,Y,ok,env,q,bk⟩;refine⟨w,z,S,_,ok,env,q,.go λO X Z L H1 m E n P=>?_⟩;refine⟨L,z,X,_,E,env.le m,P,λi W I H2 e C q2=>?_⟩;refine⟨I,z,W,_,C,env.le (m.trans e),q2,λj U F H3 o mJ q3=>?_⟩;exact⟨F,O.d,U,Y,mJ,n.le (e.trans o),q3,bk.le (m.trans (e.trans o))⟩
theorem Lo:∀D a H,iW K vP D a H->Ct D a H:=by
 rintro D a H ⟨w,e,S,i,ok,env,q,bk⟩;exact bk.nx e S a w H .refl ok env q
theorem OB{a b:AS}:∀D i H,iW K (fZ a b) D i H->Gn (iW K a) (iW K b) D i H:=by
 rintro D i H ⟨w,o,S,C,ok,env,q,bk⟩;refine⟨w,o,S,_,ok,env,q,⟨λj z n u E m l e y=>?_,bk.rt,bk.bk,bk.ct⟩⟩;exact⟨u,j,z,C,l,e,y,bk.le m⟩
theorem OC{a:AE}:∀D e H,iW K (IW a) D e H->Cs (bx K a) D e H:=by
 rintro D e H ⟨w,i,S,j,ok,env,q,bk⟩;exact⟨w,i,S,_,ok,env,q,bk.rt⟩
theorem Lv{a:AE}:∀D i H,iW K (An a) D i H->Jx (bx K a) D i H:=by
 rintro D i H ⟨w,l,S,E,ok,env,q,bk⟩;exact⟨w,l,S,_,ok,env,q,.go λC u z n y e j m o=>bk.nx l u i n y e j (env.le e) o⟩
theorem OG{c:AT}{a b:AS}:∀D j H,iW K (vR c a b) D j H->K5 (iV K c) (iW K a) (iW K b) D j H:=by
 rintro D j H ⟨w,l,S,u,ok,env,q,bk⟩;refine⟨w,l,S,_,ok,env,q,λk o m y e i n=>?_⟩;cases k with
 |true=>exact u6 ⟨m,l,o,u,i,env.le e,by simpa using n,bk.le e⟩
 |false=>exact oR ⟨m,l,o,u,i,env.le e,by simpa using n,bk.le e⟩
theorem mq:∀x a H Q,x8 K (bg i) x a H Q->qJ i x a H Q:=by
 rintro x a H Q ⟨w,d,e,S,j,ok,env,rep,q,bk⟩;exact bk _ S _ w H .refl ok (env.set rep i) q
theorem Lu:∀x a H Q,vv K Fj x a H Q->Px x a H Q:=by
 rintro x a H Q ⟨w,i,e,S,j,ok,env,rep,⟨rfl,q⟩,bk⟩;exact⟨by simpa[av] using rep,bk _ S _ w H .refl ok env q⟩
theorem GJ{a:AG}{b:Gg}:∀x j H Q,vv K (sP a b) x j H Q->J0 (x8 K a) (vv K b) x j H Q:=by
 rintro x j H Q ⟨w,F,o,S,E,ok,env,rep,⟨d,r,rfl,q⟩,bk⟩;simp only[av] at rep;obtain⟨v,y,rfl,h1,h2⟩:=rep;refine⟨v,y,rfl,w,d,o,S,_,ok,env,h1,q,λl C n u I e m i z=>?_⟩;exact⟨u,r,l,C,E,m,i,h2.le e,z,bk.le e⟩
theorem Ls{a:Gg}:∀x e H Q,x8 K (Fi n a) x e H Q->Pw K n (vv K a) x e H Q:=by
 rintro x e H Q ⟨w,d,i,S,m,ok,env,rep,⟨l,rfl,j,q⟩,bk⟩;simp only[Rep] at rep;obtain⟨p,xs,rfl,h1,h2⟩:=rep;exact⟨p,xs,rfl,ee.same ok.base h1,by rw[h2.length];exact j,w,l,i,S,m,ok,env,h2,q,bk⟩
theorem C5{a:AE}{g:AG}:∀D j H,iW K (yo a g) D j H->CA (bx K a) (x8 K g) D j H:=by
 rintro D j H ⟨w,m,S,E,ok,env,q,bk⟩;refine⟨w,m,S,_,ok,env,q,.go λo y z n C i l e u=>?_⟩;exact⟨n,o.d,m,y,_,l,env.le i,e,u,bk.nx.le i⟩
theorem OI{i:AI}{g:AG}{b:AS}:∀D Z H,iW K (kG i g b) D Z H->Om (x6 K i) (x8 K g) (iW K b) D Z H:=by
 rintro D Z H ⟨w,δ,S,Da,ok,env,q,bk⟩;refine⟨w,δ,S,_,ok,env,q,λu P S1 J w1 H1 W ok1 it q1=>?_⟩;refine⟨λi m Z H=>m=u.length - i/\i<=u.length/\∃C n F,w1.le C/\Ok K C H F/\dU K C n Z/\j0 P g b (u.drop i) Da n F,⟨u.length,by simp,zcT _,w1,δ,S1,.refl,ok1,env.le W,by simpa using q1⟩,?_⟩;rintro i m σ2 H2 ⟨rfl,hi,C,n,F,a,l,j,O⟩;by_cases X:i<u.length
 ·rw[zag X] at O;obtain⟨hP,O⟩:=O;have hd:u[i]? =some u[i]:=zal X;refine .inr ⟨it.go i H2 F C _ a l hP hd,λY H'=>∃w3 z S3,w1.le w3/\Ok K w3 H' S3/\dU K w3 z Y/\j0 P g b (u.drop (i+1)) Da z S3,λY H' h=>⟨_,by omega,rfl,X,h⟩,λx H' y=>?_⟩;obtain⟨w2',E,l,rx⟩:=it.B6 i H2 F C _ x H' a l hP hd y
  replace j:=j.le E
  replace a:=a.trans E
  refine⟨w2',u[i],n,F,_,l,j,rx,O,λz S3 σ3 w3 H3 U mJ ab q3=>?_⟩;have lew:=W.trans (a.trans U);refine⟨w3,z,S3,_,mJ,ab,q3,⟨?_,bk.rt.le lew,bk.nx.le lew,?_⟩⟩
  ·exact λI S4 σ4 w4 H4 Q L o q4=>⟨w4,I,S4,a.trans (U.trans Q),L,o,q4⟩
  ·exact λI S4 σ4 w4 H4 Q L o q4=>⟨w4,I,S4,a.trans (U.trans Q),L,o,q4⟩
 ·have e:i=u.length:=by lia
  subst e;rw[zbz] at O;exact .inl ⟨it.stop _ H2 F C a l O.1 rfl,bk.nx n F σ2 C H2 (W.trans a) l j O.2⟩
theorem Ow:∀a H Q,iV K gM a H Q->Oi a H Q:=by
 rintro a H Q ⟨w,e,S,i,ok,env,q,bk⟩;exact bk true S w H .refl ok q
theorem EI{w:Wd}{δ:bF}(h:dU K w δ σ)(caps:List (Option Nat)):dU K w (fW caps δ) (p6 caps σ):=by
 refine⟨by simp[fW,p6],λi d e=>?_⟩;simp only[fW,zbe] at e;cases q:caps[i]? with
 |none=>rw[q] at e;cases e
 |some o=>
  rw[q] at e;cases o with
  |none=>simp at e
  |some j=>
   cases z:δ[j]? with
   |none=>rw[Option.map_some] at e;simp[z] at e
   |some d'=>
    simp[z] at e;subst e;obtain⟨v,h1,h2⟩:=h.2 j d z;exact⟨v,by simp[p6,zbe,q,h1],h2⟩
theorem wX{i:AI}{g:AG}{t:AT}{e:AE}:∀σ H Q,bx K (dS caps i g t e) σ H Q->Cz caps (x6 K i) (x8 K g) (iV K t) (bx K e) σ H Q:=by
 rintro σ H Q ⟨w,δ,S,Qa,ok,env,q,bk⟩;refine⟨w,δ,S,_,ok,env,q,λI P S1 J w1 H1 le1 ok1 it q1=>?_⟩;refine⟨λi m xs τ H=>m=I.length - i/\i<=I.length/\∃O L C j,w1.le O/\Ok K O H C/\dU K O L τ/\av K O j xs/\cK P g t e (I.drop i) j L C (λZ C=>Qa (.new (.lst Z)) C),⟨I.length,by simp,zcT _,w1,fW caps δ,S1,[],.refl,ok1,EI (env.le le1) caps,.nil,by simpa using q1⟩,?_⟩;rintro i m xs τ2 H2 ⟨rfl,hi,O,L,C,j,l,o,F,a,W⟩;by_cases Y:i<I.length
 ·rw[zag Y] at W;obtain⟨hP,W⟩:=W;have hd:I[i]? =some I[i]:=zal Y;refine .inr ⟨it.go i H2 C O _ l o hP hd,λys τ' H'=>∃w3 n S3 j,w1.le w3/\Ok K w3 H' S3/\dU K w3 n τ'/\av K w3 j ys/\cK P g t e (I.drop (i+1)) j n S3 (λZ C=>Qa (.new (.lst Z)) C),λys σ' H' h=>⟨_,by omega,rfl,Y,h⟩,λx H' y=>?_⟩;obtain⟨w2',E,o,rx⟩:=it.B6 i H2 C O _ x H' l o hP hd y
  replace F:=F.le E
  replace l:=l.trans E
  replace a:=a.le E
  refine⟨w2',I[i],L,C,_,o,F,rx,W,λn S3 σ3 w3 H3 U mJ z q3=>?_⟩;refine⟨w3,n,S3,_,mJ,z,q3,λk S4 w4 H4 u ok4 q4=>?_⟩;cases k with
  |false=>
   exact oR ⟨w4,n,S4,j,l.trans (U.trans u),ok4,z.le u,a.le (U.trans u),by simpa using q4⟩
  |true=>
   rw[yIp rfl] at q4;refine u6 ⟨w4,n,S4,_,ok4,z.le u,q4,.go λr5 S5 v5 w5 H5 X ok5 ab z1'=>?_⟩;obtain⟨hz,q5⟩:=z1';exact⟨by rw[a.length];exact hz,w5,n,S5,j++[r5.d],l.trans (U.trans (u.trans X)),ok5,z.le (u.trans X),(a.le (U.trans (u.trans X))).snoc ab,q5⟩
 ·have e:i=I.length:=by lia
  subst e;rw[zbz] at W;refine .inl ⟨it.stop _ H2 C O l o W.1 rfl,λp hp=>?_⟩;exact bk (.new (.lst j)) C _ O _ (le1.trans l) (o.alloc hp) (o.fresh hp ⟨xs,rfl,a⟩) W.2
theorem HP{w:Wd}{p:Addr}{xs:List V}{ds:List D}(h1:w.B p=some (.lst xs))(h:av K w ds xs):Qx K w (Qw K p) ds (λ_=>True) where
 go:=λi H S a d le ok l e=>by
  obtain⟨v,j,_⟩:=h.get e;exact⟨xs,v,b9.of ((le.b.trans ok.base) _ _ h1),j⟩
 B6:=λi H S a d x o le ok l e y=>by
  obtain⟨v,j,n⟩:=h.get e;obtain⟨y1,m⟩:=y;have:=m xs (b9.of ((le.b.trans ok.base) _ _ h1));rw[j] at this;cases this;subst y1;exact⟨a,.refl,ok,n.le le⟩
 stop:=λi H S a le ok l e=>⟨xs,b9.of ((le.b.trans ok.base) _ _ h1),by rw[h.length];lia⟩
theorem HQ{w:Wd}{p:Addr}{ds:List D}(q:w.r n=some p):Qx K w (Qw K p) ds (λS=>S[n]? =some (some (.lst ds))) where
 go:=λi H S o d le ok m e=>by
  obtain⟨b,u,a,C,l,ys,rfl,j⟩:=ok.live n _ m;rw[le.r n p q] at a;cases a;obtain⟨v,z,_⟩:=j.get e;exact⟨ys,v,b9.of l,z⟩
 B6:=λi H S o d x I le ok m e y=>by
  obtain⟨b,u,a,C,l,ys,rfl,j⟩:=ok.live n _ m;rw[le.r n p q] at a;cases a;obtain⟨v,z,F⟩:=j.get e;obtain⟨y1,E⟩:=y;have:=E ys (b9.of l);rw[z] at this;cases this;subst y1;exact⟨o,.refl,ok,F⟩
 stop:=λi H S o le ok m e=>by
  obtain⟨b,u,a,C,l,ys,rfl,j⟩:=ok.live n _ m;rw[le.r n p q] at a;cases a;exact⟨ys,b9.of l,by rw[j.length];lia⟩
theorem HM{w:Wd}{p:Addr}{xs:List V}{ds:List D}(h1:ee K w.B p xs)(h2:av K w ds xs):Qx K w (Q4 K p) ds (λ_=>True) where
 go:=λi H S a d le ok l e=>by
  obtain⟨v,j,_⟩:=h2.get e;exact⟨xs,v,ee.same (le.b.trans ok.base) h1,j⟩
 B6:=λi H S a d x o le ok l e y=>by
  obtain⟨v,j,n⟩:=h2.get e;obtain⟨y1,m⟩:=y;have:=m xs (ee.same (le.b.trans ok.base) h1);rw[j] at this;cases this;subst y1;exact⟨a,.refl,ok,n.le le⟩
 stop:=λi H S a le ok l e=>⟨xs,ee.same (le.b.trans ok.base) h1,by rw[h2.length];lia⟩
theorem HN{w:Wd}:Qx K w (Q5 x) (signs x) (λ_=>True) where
 go:=λi H S j d le ok l e=>by
  have:i<(signs x).length:=by
   rcases zcJ i (signs x).length with h|h
   ·exact h
   ·rw[zau h] at e;cases e
  show i<x.cps.size;simpa[signs] using this
 B6:=λi H S j d y o le ok l e z=>by
  obtain⟨n,c,m,rfl⟩:=z;subst n;refine⟨j,.refl,ok,?_⟩;rw[signs,zbe] at e;have a:x.cps.toList[i]? =some c:=by simpa using m
  rw[a] at e;have:D.str ⟨#[c]⟩=d:=by simpa using e
  subst this;exact .str
 stop:=λi H S j le ok l e=>by
  show _=_;rw[e];simp[signs]
def u7(e:aD)(Q:List D->(aD->Prop)->aD->Prop):D->Prop
 |.lst a=>Q a (λ_=>True) e
 |.tup a=>Q a (λ_=>True) e
 |.str x=>Q (signs x) (λ_=>True) e
 |.loc n=>∃a,e[n]? =some (some (.lst a))/\Q a (λS=>S[n]? =some (some (.lst a))) e
 |_=>False
def oV(t:AE):AI:=λa S Q=>t a S λr e=>u7 e Q r.d
theorem Lr{t:AE}:∀F H R,x6 K (oV t) F H R->(bx K t) F H λx l=>(∃a,x=.ref a/\(∃xs,b9 K l a xs)/\R (Qw K a) l)∨(∃a,x=.ref a/\(∃xs,ee K l a xs)/\R (Q4 K a) l)∨∃y,x=.str y/\R (Q5 y) l:=by
 rintro F H R ⟨w,O,S,Z,ok,env,q,bk⟩;refine⟨w,O,S,_,ok,env,q,.go λP E U C l m j i o=>?_⟩;generalize P.d=d at i o;cases d with
 |lst z=>
  simp only[Rep] at i;obtain⟨p,xs,rfl,h1,h2⟩:=i;exact .inl ⟨p,rfl,⟨xs,b9.of (j.base _ _ h1)⟩,bk z _ E _ C l m j (HP h1 h2) o⟩
 |tup z=>
  simp only[Rep] at i;obtain⟨p,xs,rfl,h1,h2⟩:=i;exact .inr (.inl ⟨p,rfl,⟨xs,ee.same j.base h1⟩,bk z _ E _ C l m j (HM h1 h2) o⟩)
 |str x=>exact .inr (.inr ⟨x,c8 i rfl,bk _ _ E _ C l m j HN o⟩)
 |loc n=>
  simp only[Rep] at i;obtain⟨p,I,rfl⟩:=i;obtain⟨z,e,o⟩:=o;obtain⟨W,u,L,Y,Q,xs,rfl,X⟩:=j.live n _ e;rw[I] at L;cases L;exact .inl ⟨p,rfl,⟨xs,b9.of Q⟩,bk z _ E _ C l m j (HQ I) o⟩
 |_=>exact o.elim
theorem rQ{a:Int}{d:D}(e:(cC a n)[i]? =some d):i<n/\d=.int (a+(i:Int)):=by
 unfold cC at e;rw[zbe] at e;by_cases h:i<n
 ·rw[List.getElem?_range h] at e;exact⟨h,by simpa using e.symm⟩
 ·rw[zau (by simpa using h)] at e;cases e
theorem Lq{a:AA}:∀m H R,x6 K (l0 a) m H R->JZ (lq K a) m H R:=by
 rintro m H R ⟨w,E,S,X,ok,env,q,bk⟩;refine⟨w,E,S,_,ok,env,q,λW O Q I P z u l n=>?_⟩;obtain⟨j,hd,⟨h1,h2⟩,L⟩:=n;refine⟨j,?_,h1,h2,?_⟩
 ·subst hd;simp only[av,Rep] at l;obtain⟨x,r,rfl,rfl,rfl⟩:=l;rfl
 ·refine bk _ _ O _ I P z u ⟨λi H S o d le ok C e=>?_,λi H S o d x Y le ok C e y=>?_,λi H S o le ok C e=>?_⟩ L
  ·exact(rQ e).1
  ·obtain⟨y1,F⟩:=y;obtain⟨U,rfl⟩:=rQ e;subst F y1;exact⟨o,.refl,ok,.int⟩
  ·show _<=_;rw[e];simp[cC]
end M
variable {ds:List M.D}{bad:List M.D->M.aD->Nat->M.D->Prop}{t:M.AA}{ta tb:M.AE}{wi:M.AI}{w0:M.Wd}{S S0:M.aD}{δ:M.bF}{o:Option M.MO}
namespace M
open PySem PySem.Spec PyProof.Rows L2
section
variable {a b c:Expr}
theorem pv(i:Nat)(l:autoParam (X.N[i]? =some x) r0)(j:Qq X.env.scope x:=by first|exact Or.inl rfl|exact Or.inr (Or.inl rfl)|exact Or.inr (Or.inr rfl))(hd:autoParam ((x==("__debug__":Str))=false) r1)(e:autoParam ((x==("__classdict__":Str))=false) r1):GE X (.Name x pos) (cQ i):=⟨mE (L2.DC l j hd e) Ox⟩
theorem ao{i j}:GE X (.Constant (.int i) j pos) (aC (.int i)):=⟨mE L2.ao (NW λ_=>.int)⟩
theorem dz{i j}:GE X (.Constant (.bool i) j pos) (aC (.bl i)):=⟨mE L2.dz (NW λ_=>.bl)⟩
theorem ak{i j}:GE X (.Constant (.str i) j pos) (aC (.str i)):=⟨mE L2.ak (NW λ_=>.str)⟩
theorem oi{j}:GE X (.Constant .none j pos) (aC .aY):=⟨mE L2.oi (NW λ_=>.aY)⟩
theorem qw(T:String)(l:Gl X x)(j:X.mg x=none)(e:bootBuiltins x=some (.type T))(i:x≠"__name__":=by decide+kernel)(hd:(x==("__debug__":Str))=false:=by decide+kernel):GE X (.Name x pos) (aC (.ty T)):=
 ⟨mE (L2.qw T l j e i hd) (NW λ_=>.ty)⟩
theorem mD{d:D}(i:Gl X x)(e:X.mg x=some u)(r:RelV v u)(h:∀w,Rep X.K w d v)(hd:autoParam ((x==("__debug__":Str))=false) r1):GE X (.Name x pos) (aC d):=
 ⟨mE (L2.mD i e r hd) (NW h)⟩
theorem aA{e:Operator}{r:A2}(i:pL X (binaryOp e) r)(l:GE X a ta)(j:GE X b tb):GE X (.BinOp a e b pos) (yj r ta tb):=⟨mE (L2.aA i.p l.p j.p) GD⟩
theorem DE{e:UnaryOp}{r:A1}(i:Th X (unaryOp e) r)(j:GE X a ta):GE X (.UnaryOp e a pos) (Ss r ta):=⟨mE (L2.DE i.p j.p) Rp⟩
theorem cH{e:CmpOp}{r:A2}(i:pL X (yao e) r)(m:GE X a ta)(l:GE X b tb)(j:behindInMarks e b=false):GE X (.Compare a [e] [b] pos) (yj r ta tb):=⟨mE (L2.cH i.p m.p l.p j) GD⟩
theorem fS{r:A2}(i:Tg X r)(l:GE X a ta)(j:GE X b tb)(e:kL b):GE X (.Subscript a b pos) (yj r ta tb):=⟨mE (L2.fS i.p l.p j.p e) GD⟩
theorem ai:GA X [] jx:=⟨mA L2.ai OE⟩
theorem az(l:GE X e ta)(j:GA X es t)(i:autoParam (notStar e=true) r0):GA X (e::es) (fH ta t):=⟨mA (L2.az l.p j.p i) Lw⟩
theorem br{k:Nat}(h:GA X es t):GE X (.Tuple es k pos) (IM t):=⟨mE (L2.br h.p) Oz⟩
theorem aQ(h:GA X es t):GE X (.List es pos) (Nr t):=⟨mE (L2.aQ h.p) OF⟩
theorem yg{t:AE}(h:GE X e t):GE X e (dF t):=⟨mE h.p s_alloc⟩
theorem kU{op}{t:AE}(h:GE X a t):GE X (.BoolOp op [a] pos) t:=⟨L2.kU h.p⟩
theorem g7{rest:List Expr}(i:GE X a ta)(e:GE X (.BoolOp .And (b::rest) pos) tb):GE X (.BoolOp .And (a::b::rest) pos) (FA ta tb):=⟨mE (L2.g7 i.p e.p) Lx⟩
theorem jW{i e:CmpOp}{r l:A2}{tc:AE}(m:pL X (yao i) r)(j:pL X (yao e) l)(u:GE X a ta)(q:GE X b tb)(o:GE X c tc)(n:lastMarks [i,e] [b,c]=false:=by with_unfolding_all rfl):
  GE X (.Compare a [i,e] [b,c] pos) (lC r l ta tb tc):=⟨mE (L2.jW m.p j.p u.p q.p o.p n) zf⟩
theorem aO:GO X none eG:=⟨mO L2.aO C3⟩
theorem aK{t:AE}(h:GE X e t):GO X (some e) (pI t):=⟨mO (L2.aK h.p) Lm⟩
structure Tf(X:Cx)(r:D->Option Int->Option Int->aD->AK->Prop):Prop where
 p:Gf X (J9 X.K r)
theorem aH{i j:Option Expr}{r:D->Option Int->Option Int->aD->AK->Prop}{te:AE}{tl th:AO}(m:Tf X r)(o:GE X e te)(n:GO X i tl)(l:GO X j th):GE X (.Subscript e (.Slice i j none p2) pos) (Nn r te tl th):=
 ⟨mE (L2.aH m.p o.p n.p l.p) Rq⟩
theorem mF{id:String}{r:AN}(q:tO X (.builtin id) r)(o:Gl X x)(n:X.mg x=none)(j:bootBuiltins x=some (.builtin id))(u:GA X (e::es) t)(m:x≠"__name__":=by decide+kernel)(i:(x==("__debug__":Str))=false:=by decide+kernel)(l:autoParam ((e::es).all notStar=true) r0):GE X (.Call (.Name x p) (e::es) [] pos) (aCall r t):=⟨mE (L2.mF q.p o n j u.p m i l) OJ⟩
theorem RS{T:String}{r:AN}(q:tO X (.type T) r)(o:Gl X x)(n:X.mg x=none)(j:bootBuiltins x=some (.type T))(u:GA X (e::es) t)(m:x≠"__name__":=by decide+kernel)(i:(x==("__debug__":Str))=false:=by decide+kernel)(l:autoParam ((e::es).all notStar=true) r0):GE X (.Call (.Name x p) (e::es) [] pos) (aCall r t):=⟨mE (L2.RS q.p o n j u.p m i l) OJ⟩
theorem xA{k:Nat}{sp:AN}(D:Def X.prog X.w X.K X.mg X.base k x ps (aN X.K sp))(l:aR k X.A)(m:Gl X x)(n:GA X (e::es) t)(i:(x==("__debug__":Str))=false:=by decide+kernel)(j:autoParam ((e::es).all notStar=true) r0):
  GE X (.Call (.Name x p) (e::es) [] pos) (aCall sp t):=⟨mE (L2.xA D l m qx n.p i j) s_call⟩
theorem d7{t:AE}(h:GE X e t)(j:∀i,isTrue e X.env i=(do let v <-i;standAt e.pos;holding [v] (truthy v)):=by intro _;rfl):GT X e (Nk t):=⟨mT (L2.Dw h.p j) OA⟩
theorem aG{e:CmpOp}{r:A2}(l:pL X (yao e) r)(o:GE X a ta)(n:GE X b tb)(m:behindInMarks e b=false):GT X (.Compare a [e] [b] pos) (aB (yj r ta tb)):=
 ⟨mT (L2.aG l.p o.p n.p m) λi H Q h=>by
  obtain⟨w,j,S,u,ok,env,q,bk⟩:=SQ i H Q h;exact GD i H _ ⟨w,j,S,u,ok,env,q,bk⟩⟩
theorem nW{i e:CmpOp}{r m:A2}{tc:AE}(o:pL X (yao i) r)(j:pL X (yao e) m)(C:GE X a ta)(z:GE X b tb)(y:GE X c tc)(u:lastMarks [i,e] [b,c]=false:=by with_unfolding_all rfl):
  GT X (.Compare a [i,e] [b,c] pos) (aB (lC r m ta tb tc)):=⟨mT (L2.nW o.p j.p C.p z.p y.p u) λl H Q h=>by
  obtain⟨w,n,S,E,ok,env,q,bk⟩:=SQ l H Q h;exact zf l H _ ⟨w,n,S,E,ok,env,q,bk⟩⟩
theorem pw_pt{t:AT}(h:GW X e t):GT X e t:=⟨h.p.pt⟩
theorem pw_and1{t:AT}(h:GT X a t):GW X (.BoolOp .And [a] pos) t:=⟨L2.pw_and1 h.p⟩
theorem pw_or1{t:AT}(h:GT X a t):GW X (.BoolOp .Or [a] pos) t:=⟨L2.pw_or1 h.p⟩
theorem pw_and{rest:List Expr}{t u:AT}(i:GT X a t)(e:GW X (.BoolOp .And (b::rest) pos) u):GW X (.BoolOp .And (a::b::rest) pos) (Nv t u):=⟨mW (L2.pw_and i.p e.p) OL⟩
theorem pw_or{rest:List Expr}{t u:AT}(i:GT X a t)(e:GW X (.BoolOp .Or (b::rest) pos) u):GW X (.BoolOp .Or (a::b::rest) pos) (Qg t u):=⟨mW (L2.pw_or i.p e.p) Rr⟩
theorem gX{t:AT}(h:GT X a t):GT X (.UnaryOp .Not a pos) (Np t):=⟨mT (L2.gX h.p) OD⟩
theorem b6:Oc X [] gM:=⟨mTs L2.b6 Ow⟩
theorem rV{t:AT}(h:GT X c t):Oc X [c] t:=⟨L2.rV h.p⟩
theorem bP(j:Gl X "range")(i:X.mg "range"=none)(l:GA X [a] t)(e:autoParam (yap [a] X.env=[(false,eval a X.env)]) r0):GI X tg (.Call (.Name "range" p) [a] [] pos) (l0 t):=⟨mI (L2.bP j i l.p e) Lq⟩
theorem G9{l:Expr}{tl:TE}(Q:PE X l tl):PI X tg l (λC H R=>tl C H λx m=>(∃a,x=.ref a/\(∃xs,b9 X.K m a xs)/\R (Qw X.K a) m)∨(∃a,x=.ref a/\(∃xs,ee X.K m a xs)/\R (Q4 X.K a) m)∨∃y,x=.str y/\R (Q5 y) m):=by
 intro n s C H R I h;refine bS (Q n s C H _ I h) λv i E=>?_;obtain⟨x,m,j,F,P⟩:=E;rcases P with⟨a,rfl,⟨xs,L⟩,q⟩|⟨a,rfl,⟨xs,L⟩,q⟩|⟨y,rfl,q⟩
 ·cases F;obtain⟨u,O,p,hz⟩:=j.list L;refine wpAny_pyIter_list p.isList ?_;refine⟨i.heap.objs.size,[i.heap.objs.size],_,_,m,rfl,j.kept (t':=i.toks) λb o e=>zar _ e,Ay a _,⟨_,zaM _ rfl,rfl,rfl⟩,λb z=>?_,q⟩;have e:b=i.heap.objs.size:=by simpa using z
  subst e;exact j.vc (zcS _) (j.hok.fresh (zcS _))
 ·cases F;obtain⟨u,O,p,hz⟩:=j.tuple L;refine wpAny_pyIter_tuple (show i.heap.IsTuple a u.toArray from p) ?_;refine⟨i.heap.objs.size,[i.heap.objs.size],_,_,m,rfl,j.kept (t':=i.toks) λb o e=>zar _ e,wG a _,⟨_,zaM _ rfl,rfl,rfl⟩,λb z=>?_,q⟩;have e:b=i.heap.objs.size:=by simpa using z
  subst e;exact j.vc (zcS _) (j.hok.fresh (zcS _))
 ·obtain⟨t,rfl⟩:=F;refine wpAny_pyIter_strU ?_;refine⟨i.heap.objs.size,[i.heap.objs.size],_,_,m,rfl,j.kept (t':=i.toks) λb o e=>zar _ e,Ck _ y t,⟨_,zaM _ rfl,rfl,rfl⟩,λb z=>?_,q⟩;have e:b=i.heap.objs.size:=by simpa using z
  subst e;exact j.vc (zcS _) (j.hok.fresh (zcS _))
theorem eY{l:Expr}{tl:AE}(e:GE X l tl):GI X tg l (oV tl):=⟨mI (G9 e.p) Lr⟩
theorem r6{i:Expr}{g:AG}{l:AT}{te:AE}(S:dW scope N)(e:jh X.N X.env scope N caps=true)(j:L2.freeOk X.env scope=true)(y:X.calm=true)(o:GI X tg iter wi)(q:∀s₀ H₀ C fp,GG (iX X scope N s₀ H₀ C fp) tg g)(m:∀s₀ H₀ C fp,Oc (iX X scope N s₀ H₀ C fp) ifs l)(u:∀s₀ H₀ C fp,GE (iX X scope N s₀ H₀ C fp) i te)(n:∀x,foldedSetIterable iter X.env x=pure x:=by intro _;rfl):GE X (.ListComp i [⟨tg,iter,ifs,0⟩] scope pos) (dS caps wi g l te):=
 ⟨mE (L2.r6 S e j y o.p (λs₀ H₀ C fp=>(q s₀ H₀ C fp).p) (λs₀ H₀ C fp=>(m s₀ H₀ C fp).p) (λs₀ H₀ C fp=>(u s₀ H₀ C fp).p) n) wX⟩
theorem aM:yC X [] vP:=⟨QM L2.aM Lo⟩
theorem aj{t:AS}(h:GS X st t):yC X [st] t:=⟨L2.aj h.p⟩
theorem aa{rest:List Stmt}{t u:AS}(h:GS X st t)(g:yC X rest u):yC X (st::rest) (fZ t u):=⟨QM (L2.aa h.p g.p) OB⟩
theorem bA{t:AE}(h:GE X e t)(i:autoParam (yau e none pos.line X.env=pure false) r0):GS X (.Expr e pos) (An t):=⟨mS (L2.bA h.p i) Lv⟩
theorem aJ{t:AE}(h:GE X e t):GS X (.Return (some e) pos) (IW t):=⟨mS (L2.aJ h.p) OC⟩
theorem bh{p q:List Stmt}{tc:AT}{t u:AS}(e:GT X c tc)(j:yC X p t)(i:yC X q u):GS X (.If c p q pos) (vR tc t u):=⟨mS (L2.bh e.p j.p i.p) OG⟩
theorem c9(m:X.N.Nodup)(j:X.N[i]? =some x)(e:Loc X.env.scope x)(l:X.fn x=true∨X.env.scope.names.lookup x=some .local:=by first|exact .inl rfl|exact .inr rfl|assumption):GG X (.Name x pos) (bg i):=⟨mG (L2.c9 m j e l) mq⟩
theorem jR:Q7 X [] Fj:=⟨SV L2.jR Lu⟩
theorem dQ{t:AG}{u:Gg}(h1:GG X e t)(h2:Q7 X es u)(i:autoParam ((assignEach (e::es) X.env).map (·.2)=assign e X.env::(assignEach es X.env).map (·.2)) r0):Q7 X (e::es) (sP t u):=⟨SV (L2.dQ h1.p h2.p i) GJ⟩
theorem oh{k:Nat}{t:Gg}(j:X.calm=true)(h:Q7 X es t)(i:autoParam ((assignEach es X.env).length=n) r0)(e:autoParam ((assignEach es X.env).findIdx? (·.1)=none) r0):GG X (.Tuple es k pos) (Fi n t):=⟨mG (L2.oh j h.p i e) Ls⟩
theorem bR{t:AE}(F:X.N.Nodup)(z:X.N[i]? =some x)(u:Loc X.env.scope x)(E:GE X e t)(y:autoParam (yau e (some (.Name x pos')) pos.line X.env=pure false) r0)(C:X.fn x=true∨X.env.scope.names.lookup x=some .local:=by first|exact .inl rfl|exact .inr rfl|assumption):
  GS X (.Assign [.Name x pos'] e pos) (yo t (bg i)):=⟨mS (L2.bR F z u E.p y C) λD l H h=>by
  obtain⟨w,m,S,L,ok,env,q,bk⟩:=C5 D l H h;exact⟨w,m,S,L,ok,env,q,λr I v n O le j rep o=>mq _ _ _ _ (bk r I v n O le j rep o)⟩⟩
theorem cU{j:Expr}{e:Pos}{g:AG}{y:AT}{te:AE}(Z:X.N.Nodup)(o:X.N[i]? =some x)(L:X.env.scope.names.lookup x=some .local)(S:dW scope N)(l:jh X.N X.env scope N caps=true)(u:L2.freeOk X.env scope=true)(Y:X.calm=true)(Q:GI X tg iter wi)(U:∀s₀ H₀ C fp,GG (iX X scope N s₀ H₀ C fp) tg g)(O:∀s₀ H₀ C fp,Oc (iX X scope N s₀ H₀ C fp) ifs y)(W:∀s₀ H₀ C fp,GE (iX X scope N s₀ H₀ C fp) j te)(n:autoParam (yau (.ListComp j [⟨tg,iter,ifs,0⟩] scope pos) (some (.Name x pos')) e.line X.env=pure true) r0)(P:∀x,foldedSetIterable iter X.env x=pure x:=by intro _;rfl):GS X (.Assign [.Name x pos'] (.ListComp j [⟨tg,iter,ifs,0⟩] scope pos) e) (yo (dS caps wi g y te) (bg i)):=
 ⟨mS (L2.cU Z o L S l u Y Q.p (λs₀ H₀ C fp=>(U s₀ H₀ C fp).p) (λs₀ H₀ C fp=>(O s₀ H₀ C fp).p) (λs₀ H₀ C fp=>(W s₀ H₀ C fp).p) n P) λD z H h=>by
  obtain⟨w,E,S,Qa,ok,env,q,bk⟩:=C5 D z H h;exact wX _ _ _ ⟨w,E,S,Qa,ok,env,q,λr S' v F H' le m rep I=>mq _ _ _ _ (bk r S' v F H' le m rep I)⟩⟩
theorem lJ{j:Expr}{e:Pos}{g:AG}{z:AT}{te:AE}(Z:X.N.Nodup)(o:X.N[i]? =some x)(L:X.env.scope.names.lookup x=some .local)(S:dW scope N)(l:jh X.N X.env scope N caps=true)(u:L2.freeOk X.env scope=true)(Y:X.calm=true)(Q:GI X tg iter wi)(U:∀s₀ H₀ C fp,GG (iX X scope N s₀ H₀ C fp) tg g)(O:∀s₀ H₀ C fp,Oc (iX X scope N s₀ H₀ C fp) ifs z)(W:∀s₀ H₀ C fp,GE (iX X scope N s₀ H₀ C fp) j te)(n:autoParam (yau (.ListComp j [⟨tg,iter,ifs,0⟩] scope pos) (some (.Name x pos')) e.line X.env=pure true) r0)(P:∀x,foldedSetIterable iter X.env x=pure x:=by intro _;rfl):GS X (.Assign [.Name x pos'] (.ListComp j [⟨tg,iter,ifs,0⟩] scope pos) e) (yo (dF (dS caps wi g z te)) (bg i)):=
 ⟨mS (L2.cU Z o L S l u Y Q.p (λs₀ H₀ C fp=>(U s₀ H₀ C fp).p) (λs₀ H₀ C fp=>(O s₀ H₀ C fp).p) (λs₀ H₀ C fp=>(W s₀ H₀ C fp).p) n P) λD y H h=>by
  obtain⟨w,E,S,Qa,ok,env,q,bk⟩:=s_alloc y H _ (C5 D y H h);exact wX _ _ _ ⟨w,E,S,Qa,ok,env,q,λr S' v F H' le m rep I=>mq _ _ _ _ (bk r S' v F H' le m rep I)⟩⟩
theorem d8{g:AG}{tb:AS}(i:PassesOwn (model X.prog X.w) X.A X.env X.xe)(m:X.calm=true)(j:GI X tg iter wi)(l:GG X tg g)(n:yC X body tb)(e:∀x,foldedSetIterable iter X.env x=pure x:=by intro _;rfl):GS X (.For tg iter body [] pos) (kG wi g tb):=⟨mS (L2.d8 i m j.p l.p n.p e) OI⟩
end
section
theorem JM{f:yaj->yaj->Sem yaj}{r l:R2}(h:fk X f r)(h':fk X f l):fk X f (λx y H Q=>r x y H Q∨l x y H Q):=by
 intro a s e H x y v u Q I j i q;rcases q with q|q
 ·exact h a s e H x y v u Q I j i q
 ·exact h' a s e H x y v u Q I j i q
theorem RT{f:yaj}{r j:List V->Hp->VK->Prop}(h:bN X f r)(h':bN X f j):bN X f (λx H Q=>r x H Q∨j x H Q):=by
 intro a s e H x v Q I i q;rcases q with q|q
 ·exact h a s e H x v Q I i q
 ·exact h' a s e H x v Q I i q
variable {w:Wd}{u:V}{d e:D}
theorem cG{i:Int}(h:Rep K w d v)(z:bq S d=.int i):v=.int i:=by
 cases d<;>simp only[bq] at z
 case loc n=>split at z<;>first|(rename_i o _;cases o<;>simp[MO.d] at z)|cases z
 all_goals first|cases z|skip
 simpa[Rep] using h
theorem bT{i:Str}(h:Rep K w d v)(z:bq S d=.str i):v=.str i:=by
 cases d<;>simp only[bq] at z
 case loc n=>split at z<;>first|(rename_i o _;cases o<;>simp[MO.d] at z)|cases z
 all_goals first|cases z|skip
 simpa[Rep] using h
theorem gp{i:Bool}(h:Rep K w d v)(z:bq S d=.bl i):v=.bl i:=by
 cases d<;>simp only[bq] at z
 case loc n=>split at z<;>first|(rename_i o _;cases o<;>simp[MO.d] at z)|cases z
 all_goals first|cases z|skip
 simpa[Rep] using h
theorem Gw(h:Rep K w d v)(z:bq S d=.aY):v=.aY:=by
 cases d<;>simp only[bq] at z
 case loc n=>split at z<;>first|(rename_i o _;cases o<;>simp[MO.d] at z)|cases z
 all_goals first|cases z|skip
 simpa[Rep] using h
theorem iJ(k:Ok K w H S)(h:Rep K w d v)(z:bq S d=.kQ ns):∃a,v=.ref a/\b9 K H a (ns.map V.int):=by
 cases d<;>simp only[bq] at z
 case loc n=>split at z<;>first|(rename_i o _;cases o<;>simp[MO.d] at z)|cases z
 all_goals first|cases z|skip
 simp only[Rep] at h;obtain⟨a,h1,h2⟩:=h;exact⟨a,h1,k.base.seq h2⟩
def aI(C:Int->Int->Prop)(g:Int->Int->D):A2:=λx y S Q=>∃i j,x=.int i/\y=.int j/\C i j/\Q (.dat (g i j)) S
theorem P0{C:Int->Int->Prop}{g:Int->Int->D}{g':Int->Int->V}(h:∀w i j,Rep K w (g i j) (g' i j)):∀x y H Q,vz K (aI C g) x y H Q->rI C g' x y H Q:=by
 rintro x y H Q ⟨w,d,e,S,z,ok,l,a,⟨i,j,o,n,m,q⟩,bk⟩;exact⟨i,j,bD l o,bD a n,m,bk.dat .refl ok (h w i j) q⟩
theorem xr{g:Int->Int->V}:∀x y H Q,rI (λ_ _=>True) g x y H Q->Ds g x y H Q:=by
 rintro x y H Q ⟨i,j,h1,h2,_,q⟩;exact⟨i,j,h1,h2,q⟩
theorem OV:pL X (binaryOp .Sub) (aI (λ_ _=>True) λi j=>.int (i - j)):=⟨m2 L2.DG λx y H Q h=>xr x y H Q (P0 (g':=λi j=>.int (i - j)) (λ_ _ _=>.int) x y H Q h)⟩
theorem xD:pL X (binaryOp .FloorDiv) (aI F8 λi j=>.int (i / j)):=⟨m2 L2.zB (P0 λ_ _ _=>.int)⟩
theorem zE:pL X (binaryOp .Mod) (aI (λ_ j=>0<j) λi j=>.int (i % j)):=⟨m2 L2.gA (P0 λ_ _ _=>.int)⟩
theorem O1:pL X (yao .Gt) (aI (λ_ _=>True) λi j=>.bl (decide (j<i))):=⟨m2 L2.DH λx y H Q h=>xr x y H Q (P0 (g':=λi j=>.bl (decide (j<i))) (λ_ _ _=>.bl) x y H Q h)⟩
theorem Be:pL X (yao .GtE) (aI (λ_ _=>True) λi j=>.bl (decide (j<=i))):=⟨m2 L2.OT λx y H Q h=>xr x y H Q (P0 (g':=λi j=>.bl (decide (j<=i))) (λ_ _ _=>.bl) x y H Q h)⟩
def Q0:A2:=λx y S Q=>match x,y with
 |.int i,.int j=>Q (.dat (.bl (decide (i<j)))) S
 |.str i,.str j=>Q (.dat (.bl (decide (i.cps.toList<j.cps.toList)))) S
 |_,_=>False
def Qm:A2:=λx y S Q=>match x,y with
 |.int i,.int j=>Q (.dat (.bl (decide (i<=j)))) S
 |.str i,.str j=>Q (.dat (.bl (!decide (j.cps.toList<i.cps.toList)))) S
 |_,_=>False
theorem OX:pL X (yao .Lt) Q0:=⟨m2 (JM L2.JO L2.A9) λx y H Q h=>by
 obtain⟨w,d,e,S,j,ok,i,a,q,bk⟩:=h;cases d<;>cases e<;>first|exact q.elim|skip
 ·exact .inl ⟨_,_,bD i rfl,bD a rfl,bk.dat .refl ok .bl q⟩
 ·exact .inr ⟨_,_,c8 i rfl,c8 a rfl,bk.dat .refl ok .bl q⟩⟩
theorem Bd:pL X (yao .LtE) Qm:=⟨m2 (JM L2.OS L2.Ba) λx y H Q h=>by
 obtain⟨w,d,e,S,j,ok,i,a,q,bk⟩:=h;cases d<;>cases e<;>first|exact q.elim|skip
 ·exact .inl ⟨_,_,bD i rfl,bD a rfl,bk.dat .refl ok .bl q⟩
 ·exact .inr ⟨_,_,c8 i rfl,c8 a rfl,bk.dat .refl ok .bl q⟩⟩
def sV:A2:=λx y S Q=>match bq S x,bq S y with
 |.int i,.int j=>Q (.dat (.int (i+j))) S
 |.str i,.str j=>i.length+j.length<=yah/\Q (.dat (.str (i++j))) S
 |.lst xs,.lst ys=>xs.length+ys.length<=yah/\Q (.new (.lst (xs++ys))) S
 |.tup xs,.tup ys=>xs≠[]/\xs.length+ys.length<=yah/\Q (.dat (.tup (xs++ys))) S
 |_,_=>False
theorem aZ:pL X (binaryOp .Add) sV:=⟨m2 (JM L2.g8 (JM L2.xC (JM L2.kX L2.Hq))) λx y H Q h=>by
 obtain⟨w,d,e,S,Z,ok,E,F,q,bk⟩:=h;unfold sV at q;cases i:bq S d<;>cases m:bq S e<;>rw[i,m] at q<;>first|exact q.elim|skip
 ·exact .inl ⟨_,_,cG E i,cG F m,bk.dat .refl ok .int q⟩
 ·exact .inr (.inl ⟨_,_,bT E i,bT F m,q.1,bk.dat .refl ok .str q.2⟩)
 ·obtain⟨a,xs,rfl,h1,l⟩:=eg ok E i;obtain⟨b,ys,rfl,h2,j⟩:=eg ok F m;obtain⟨P,W,q⟩:=q;refine .inr (.inr (.inr ⟨a,b,xs,ys,rfl,rfl,h1,h2,?_,by rw[l.length,j.length];exact W,λU=>?_,λU p I=>?_⟩))
  ·intro z;subst z;have:=l.length;simp at this;exact P (zaa this.symm)
  ·subst U;have:_=[]:=zaa j.length.symm;rw[this,zbO] at q;cases d<;>simp only[bq] at i
   case tup=>cases i;exact bk.dat .refl ok E q
   case loc n=>split at i<;>first|(rename_i o _;cases o<;>simp[MO.d] at i)|cases i
   all_goals cases i
  ·obtain⟨Y,O,L,C⟩:=ok.kZ I (l.append j);exact bk.dat O L C q
 ·obtain⟨a,xs,rfl,h1,l⟩:=bC ok E i;obtain⟨b,ys,rfl,h2,j⟩:=bC ok F m;refine .inr (.inr (.inl ⟨a,b,xs,ys,rfl,rfl,h1,h2,by rw[l.length,j.length];exact q.1,λp I=>?_⟩));exact bk (.new (.lst _)) S _ w _ .refl (ok.alloc I) (ok.fresh I ⟨_,rfl,l.append j⟩) q.2⟩
end
end M
namespace M
open PySem PySem.Spec PyProof.Rows PySem.SeqAt L2
mutual
noncomputable def bY:D->Bool
 |.aY|.bl _|.int _|.str _=>true
 |.tup ds|.lst ds=>bQ ds
 |_=>false
noncomputable def bQ:List D->Bool
 |[]=>true
 |d::ds=>bY d&&bQ ds
end
mutual
noncomputable def py:D->yan
 |.aY=>.none
 |.bl b=>.bool b
 |.int i=>.int i
 |.str x=>.str x
 |.tup ds=>.tuple (dY ds)
 |.lst ds=>.list (dY ds)
 |_=>.none
noncomputable def dY:List D->List yan
 |[]=>[]
 |d::ds=>py d::dY ds
end
section
variable {w:Wd}
mutual
theorem EN(e:cJ w.B H):∀(d:D)(v:V),bY d=true->Rep K w d v->bM K H (py d) v
 |.aY,v,_,h=>by simpa[Rep,py,bM] using h
 |.bl _,v,_,h=>by simpa[Rep,py,bM] using h
 |.int _,v,_,h=>by simpa[Rep,py,bM] using h
 |.str _,v,_,h=>by simpa[Rep,py,bM] using h
 |.tup ds,v,hp,h=>by
  simp only[Rep,py,bM] at h⊢;obtain⟨a,xs,h1,h2,i⟩:=h;exact⟨a,xs,h1,ee.same e h2,mV e ds xs (by simpa[bY] using hp) i⟩
 |.lst ds,v,hp,h=>by
  simp only[Rep,py,bM] at h⊢;obtain⟨a,xs,h1,h2,i⟩:=h;exact⟨a,xs,h1,b9.of (e _ _ h2),mV e ds xs (by simpa[bY] using hp) i⟩
 |.dct _ _,_,hp,_=>by simp[bY] at hp
 |.loc _,_,hp,_=>by simp[bY] at hp
 |.ty _,_,hp,_=>by simp[bY] at hp
 |.kQ _,_,hp,_=>by simp[bY] at hp
 |.fd,_,hp,_=>by simp[bY] at hp
 |.fn _,_,hp,_=>by simp[bY] at hp
theorem mV(e:cJ w.B H):∀(ds:List D)(vs:List V),bQ ds=true->av K w ds vs->dB K H (dY ds) vs
 |[],vs,_,h=>by simpa[av,dY,dB] using h
 |d::ds,vs,hp,h=>by
  simp only[bQ,zbH] at hp;simp only[av,dY,dB] at h⊢;obtain⟨x,r,h1,h2,a⟩:=h;exact⟨x,r,h1,EN e d x hp.1 h2,mV e ds r hp.2 a⟩
end
theorem rK(k:Ok K w H S){d:D}(h:Rep K w d v)(e:bY (bq S d)=true):bM K H (py (bq S d)) v:=by
 cases d with
 |loc n=>
  cases z:bq S (.loc n) with
  |lst ds=>
   rw[z] at e;obtain⟨a,xs,rfl,h1,h2⟩:=bC k h z;simp only[py,bM];exact⟨a,xs,rfl,b9.of h1,mV k.base ds xs (by simpa[bY] using e) h2⟩
  |_=>
   rw[z] at e;simp only[bq] at z;split at z<;>first|(rename_i o _;cases o<;>simp[MO.d] at z)|(cases z;simp[bY] at e)|cases z
   all_goals simp[bY] at e
 |_=>exact EN k.base _ v (by simpa[bq] using e) h
end
noncomputable def fit(d:D):Bool:=bY d&&shaped (py d)
def BO:A2:=λx y S Q=>match bq S x,bq S y with
 |.str a,.str b=>Q (.dat (.bl (decide (a=b)))) S
 |.int a,.int b=>Q (.dat (.bl (decide (a=b)))) S
 |.bl a,.bl b=>Q (.dat (.bl (decide (a=b)))) S
 |x',y'=>fit x'=true/\fit y'=true/\Q (.dat (.bl (PyData.eqv (py x') (py y')))) S
def Kp:A2:=λx y S Q=>match bq S x,bq S y with
 |.str a,.str b=>Q (.dat (.bl (!decide (a=b)))) S
 |.int a,.int b=>Q (.dat (.bl (!decide (a=b)))) S
 |.bl a,.bl b=>Q (.dat (.bl (!decide (a=b)))) S
 |x',y'=>fit x'=true/\fit y'=true/\Q (.dat (.bl (!PyData.eqv (py x') (py y')))) S
def RM(K:yaM):R2:=λx y H Q=>∃a b,bM K H a x/\bM K H b y/\shaped a=true/\shaped b=true/\Q (.bl (PyData.eqv a b)) H
def RG(K:yaM):R2:=λx y H Q=>∃a b,bM K H a x/\bM K H b y/\shaped a=true/\shaped b=true/\Q (.bl (!PyData.eqv a b)) H
theorem L6{k:Nat}(n:aR k X.A):fk X (yao .Eq) (RM X.K):=by
 intro e s C H x y v u Q I j i h;obtain⟨a,b,h1,h2,z,o,q⟩:=h;obtain⟨E,m⟩:=I.reads a x v h1 j;obtain⟨bs,l⟩:=I.reads b y u h2 i;exact eq_dataH m l z o n.units ⟨.bl _,H,I,rfl,q⟩
theorem LY{k:Nat}(n:aR k X.A):fk X (yao .NotEq) (RG X.K):=by
 intro e s C H x y v u Q I j i h;obtain⟨a,b,h1,h2,z,o,q⟩:=h;obtain⟨E,m⟩:=I.reads a x v h1 j;obtain⟨bs,l⟩:=I.reads b y u h2 i;exact ne_dataH m l z o n.units ⟨.bl _,H,I,rfl,q⟩
theorem fF{w:Wd}{d:D}(k:Ok K w H S)(h:Rep K w d v)(a:fit (bq S d)=true):bM K H (py (bq S d)) v/\shaped (py (bq S d))=true:=by
 unfold fit at a;rw[zbH] at a;exact⟨rK k h a.1,a.2⟩
theorem gK{k:Nat}(n:aR k X.A):pL X (yao .Eq) BO:=⟨m2 (JM L2.DI (L6 n)) λx y H Q h=>by
 obtain⟨w,d,e,S,E,ok,j,i,q,bk⟩:=h;unfold BO at q;split at q
 next a b z1 z2=>
  refine .inl ⟨by rw[bT j z1,bT i z2];rfl,?_⟩;rw[bT j z1,bT i z2];exact bk.dat .refl ok (by rw[show decide (V.str a=V.str b)=decide (a=b) by simp];exact .bl) q
 next a b z1 z2=>
  refine .inl ⟨by rw[cG j z1,cG i z2];rfl,?_⟩;rw[cG j z1,cG i z2];exact bk.dat .refl ok (by rw[show decide (V.int a=V.int b)=decide (a=b) by simp];exact .bl) q
 next a b z1 z2=>
  refine .inl ⟨by rw[gp j z1,gp i z2];rfl,?_⟩;rw[gp j z1,gp i z2];exact bk.dat .refl ok (by rw[show decide (V.bl a=V.bl b)=decide (a=b) by simp];exact .bl) q
 next=>
  obtain⟨C,z,q⟩:=q;obtain⟨u,m⟩:=fF ok j C;obtain⟨o,l⟩:=fF ok i z;exact .inr ⟨_,_,u,o,m,l,bk.dat .refl ok .bl q⟩⟩
theorem Mb{k:Nat}(n:aR k X.A):pL X (yao .NotEq) Kp:=⟨m2 (JM L2.JN (LY n)) λx y H Q h=>by
 obtain⟨w,d,e,S,E,ok,j,i,q,bk⟩:=h;unfold Kp at q;split at q
 next a b z1 z2=>
  refine .inl ⟨by rw[bT j z1,bT i z2];rfl,?_⟩;rw[bT j z1,bT i z2];exact bk.dat .refl ok (by rw[show decide (V.str a=V.str b)=decide (a=b) by simp];exact .bl) q
 next a b z1 z2=>
  refine .inl ⟨by rw[cG j z1,cG i z2];rfl,?_⟩;rw[cG j z1,cG i z2];exact bk.dat .refl ok (by rw[show decide (V.int a=V.int b)=decide (a=b) by simp];exact .bl) q
 next a b z1 z2=>
  refine .inl ⟨by rw[gp j z1,gp i z2];rfl,?_⟩;rw[gp j z1,gp i z2];exact bk.dat .refl ok (by rw[show decide (V.bl a=V.bl b)=decide (a=b) by simp];exact .bl) q
 next=>
  obtain⟨C,z,q⟩:=q;obtain⟨u,m⟩:=fF ok j C;obtain⟨o,l⟩:=fF ok i z;exact .inr ⟨_,_,u,o,m,l,bk.dat .refl ok .bl q⟩⟩
noncomputable def inD(d:D)(ds:List D):Bool:=ds.any λy=>PyData.eqv (py y) (py d)
def Fw(a:Bool):A2:=λx y S Q=>match bq S y with
 |.tup ds=>fit (bq S x)=true/\fit (.tup ds)=true/\Q (.dat (.bl (a != inD (bq S x) ds))) S
 |.lst ds=>fit (bq S x)=true/\fit (.lst ds)=true/\Q (.dat (.bl (a != inD (bq S x) ds))) S
 |_=>False
def LP(K:yaM)(e:Bool):R2:=λx y H Q=>∃d a,bM K H d x/\(bM K H (.tuple a) y∨bM K H (.list a) y)/\shaped d=true/\PyData.canLayAll0 a=true/\Q (.bl (e != a.any λy=>PyData.eqv y d)) H
theorem L5{k:Nat}(o:aR k X.A):fk X (yao .In) (LP X.K false):=by
 intro l s z H x y v u Q I n i h;obtain⟨d,E,h1,h2,a,m,q⟩:=h;obtain⟨F,j⟩:=I.reads d x v h1 n;have C:=o.un;rcases h2 with h2|h2
 ·obtain⟨bs,e⟩:=I.reads _ y u h2 i;exact PySem.SeqAt.in_tuple_reads e j m (canLay_of_shaped a) (room_in_shaped a (by lia)) ⟨.bl _,H,I,by simp[L2.RelV],q⟩
 ·obtain⟨bs,e⟩:=I.reads _ y u h2 i;exact PySem.SeqAt.in_list_reads e j m (canLay_of_shaped a) (room_in_shaped a (by lia)) ⟨.bl _,H,I,by simp[L2.RelV],q⟩
theorem A8{k:Nat}(o:aR k X.A):fk X (yao .NotIn) (LP X.K true):=by
 intro l s z H x y v u Q I n i h;obtain⟨d,E,h1,h2,a,m,q⟩:=h;obtain⟨F,j⟩:=I.reads d x v h1 n;have C:=o.un;rcases h2 with h2|h2
 ·obtain⟨bs,e⟩:=I.reads _ y u h2 i;exact PySem.SeqAt.notIn_tuple_reads e j m (canLay_of_shaped a) (room_in_shaped a (by lia)) ⟨.bl _,H,I,by simp[L2.RelV],q⟩
 ·obtain⟨bs,e⟩:=I.reads _ y u h2 i;exact PySem.SeqAt.notIn_list_reads e j m (canLay_of_shaped a) (room_in_shaped a (by lia)) ⟨.bl _,H,I,by simp[L2.RelV],q⟩
theorem G5(ds:List D):dY ds=ds.map py:=by
 induction ds with
 |nil=>rfl
 |cons d ds ih=>simp[dY,ih]
theorem Al(ds:List D)(p:yan->Bool):(dY ds).any p=ds.any λy=>p (py y):=by
 rw[G5,zcC];rfl
theorem Ib(h:fit (.tup ds)=true):PyData.canLayAll0 (dY ds)=true:=by
 unfold fit at h;rw[zbH] at h;have:=canLay_of_shaped h.2;simpa[py,PyData.canLay0] using this
theorem EB(h:fit (.lst ds)=true):PyData.canLayAll0 (dY ds)=true:=by
 unfold fit at h;rw[zbH] at h;have:=canLay_of_shaped h.2;simpa[py,PyData.canLay0] using this
theorem PZ:∀x y H Q,vz K (Fw neg) x y H Q->LP K neg x y H Q:=by
 rintro x y H Q ⟨w,d,e,S,C,ok,o,n,q,bk⟩;unfold Fw at q;split at q
 next ds z=>
  obtain⟨m,i,q⟩:=q;obtain⟨l,j⟩:=fF ok o m;obtain⟨a,u⟩:=fF ok n (by rw[z];exact i);rw[z] at a;refine⟨_,dY ds,l,.inl (by simpa only[py] using a),j,Ib i,?_⟩;rw[Al];exact bk.dat .refl ok .bl q
 next ds z=>
  obtain⟨m,i,q⟩:=q;obtain⟨l,j⟩:=fF ok o m;obtain⟨a,u⟩:=fF ok n (by rw[z];exact i);rw[z] at a;refine⟨_,dY ds,l,.inr (by simpa only[py] using a),j,EB i,?_⟩;rw[Al];exact bk.dat .refl ok .bl q
 next=>exact q.elim
theorem DR{k:Nat}(a:aR k X.A):pL X (yao .In) (Fw false):=⟨m2 (L5 a) PZ⟩
theorem zD{k:Nat}(a:aR k X.A):pL X (yao .NotIn) (Fw true):=⟨m2 (A8 a) PZ⟩
section
variable {w:Wd}{d:D}
theorem uw{xs:List V}{i:Int}{e:D}(h:av K w ds xs)(q:ji ds i=some e):∃u,ji xs i=some u/\Rep K w e u:=by
 unfold ji at q⊢;rw[h.length];cases z:JW ds.length i with
 |none=>rw[z] at q;cases q
 |some j=>
  rw[z] at q;exact h.get q
def sU:A2:=λx y S Q=>match bq S x,y with
 |.lst ds,.int i=>∃e,ji ds i=some e/\Q (.dat e) S
 |.tup ds,.int i=>∃e,ji ds i=some e/\Q (.dat e) S
 |.str z,.int i=>z.length<=yah/\∃c,ji z.cps.toList i=some c/\Q (.dat (.str ⟨#[c]⟩)) S
 |.kQ ns,.int i=>∃n,ji ns i=some n/\Q (.dat (.int n)) S
 |_,_=>False
theorem IJ{e l:Type}{f:e->l}{xs:List e}{i:Int}{a:e}(h:ji xs i=some a):ji (xs.map f) i=some (f a):=by
 unfold ji at h⊢;rw[zbN];cases z:JW xs.length i with
 |none=>rw[z] at h;cases h
 |some j=>
  rw[z] at h;have h:xs[j]? =some a:=h;show(xs.map f)[j]? =some (f a);rw[zbe,h];rfl
theorem OY:Tg X sU:=⟨λj l m s P H x y v u Q I W U h Y=>by
 refine L2.Mu j l m s P H x y v u Q I W U ?_ Y;obtain⟨w,d,e,S,Qa,ok,C,o,q,bk⟩:=h;unfold sU at q;split at q
 next ds i z=>
  obtain⟨a,xs,rfl,h1,h2⟩:=bC ok C z;obtain⟨e',F,q⟩:=q;obtain⟨E,O,L⟩:=uw h2 F;exact .inl ⟨a,xs,i,E,rfl,bD o rfl,b9.of h1,O,bk.dat .refl ok L q⟩
 next ds i z=>
  obtain⟨a,xs,rfl,h1,h2⟩:=eg ok C z;obtain⟨e',F,q⟩:=q;obtain⟨E,O,L⟩:=uw h2 F;exact .inr (.inl ⟨a,xs,i,E,rfl,bD o rfl,h1,O,bk.dat .refl ok L q⟩)
 next y i z=>
  obtain⟨hl,c,hc,q⟩:=q;exact .inr (.inr ⟨y,i,c,bT C z,bD o rfl,hl,hc,bk.dat .refl ok .str q⟩)
 next ns i z=>
  obtain⟨a,rfl,h1⟩:=iJ ok C z;obtain⟨n,Z,q⟩:=q;exact .inl ⟨a,_,i,.int n,rfl,bD o rfl,h1,IJ Z,bk.dat .refl ok .int q⟩
 next=>exact q.elim⟩
noncomputable def cutD{a:Type}(xs:List a)(e i:Option Int):List a:=(xs.drop (HT.bX xs.length 0 e)).take (HT.bX xs.length xs.length i - HT.bX xs.length 0 e)
theorem nL{xs:List V}(h:av K w ds xs)(a e:Option Int):av K w (cutD ds a e) (vt xs a e):=by
 unfold cutD vt;rw[h.length];exact(h.drop _).take _
end
section
variable {w:yal}
theorem iU{t l:Addr}{y u:yaj}{a j:Option Int}(i:IsTup s.heap t items)(z:s.heap.IsSliceOf l y u .none)(pl:IsPart y a)(pu:IsPart u j)(hw:HT.bX items.size 0 a=0/\HT.bX items.size items.size j=items.size)(h:Q (.ref t) s):yas (model prog w) A (getItem (.ref t) (.ref l)) Q E s:=by
 obtain⟨os,n,o,C⟩:=id z;have q:s.TypeIs (.ref l) "slice":=⟨os,n,o⟩
 unfold getItem
 try with_reducible refine yad ?_
 first|refine yaa (yab ?_)|skip
 refine yaa (wpAny_sequenceKey i.typeIs (by decide) ?_);refine yaa (wpAny_callSpecial?_slot (name:=Str.ofString "__getitem__") i.typeIs PyProof.Rows.slot_tuple_getitem (wpAny_call_entry PyProof.Rows.slot_tuple_getitem i.typeIs PyProof.Rows.entry_tuple_getitem ?_ (PyProof.Rows.args_tuple_getitem _ _)));show yas _ _ (Builtin.Tuple.tupleItemsOf (.ref t) >>= _) _ _ s;refine yaa (PyProof.Rows.tupleItemsOf_ i ?_);refine yaa (wpAny_typeOf q ?_);rw[yIp (by decide)];refine yaa (HT.fQ z pl pu ?_);have e:(((HT.bX items.size 0 a:Nat):Int)==0&&(1:Int)==1&&(HT.bX items.size items.size j - HT.bX items.size 0 a)==items.size)=true:=by
  rw[hw.1,hw.2];simp
 show yas _ _ (if(((HT.bX items.size 0 a:Nat):Int)==0&&(1:Int)==1&&(HT.bX items.size items.size j - HT.bX items.size 0 a)==items.size)=true then _ else _) _ _ s;rw[yIp e];refine yaa (m:=Builtin.Tuple.tupleIsExact (.ref t)) ?_;unfold Builtin.Tuple.tupleIsExact;refine yaa (wpAny_typeOf i.typeIs (yab ?_));rw[yIp (by decide)];exact yaa (wpAny_rule (yab ⟨_,rfl,yab h⟩))
end
section
variable {w:Wd}{d:D}
def iY:D->Option Int->Option Int->aD->AK->Prop:=λx a e S Q=>match bq S x with
 |.lst ds=>Q (.new (.lst (cutD ds a e))) S
 |.tup ds=>Q (.dat (.tup (cutD ds a e))) S
 |.str z=>z.length<=yah/\Q (.dat (.str (Txt.slice z a e))) S
 |.kQ ns=>Q (.new (.lst ((cutD ns a e).map D.int))) S
 |_=>False
def RB(K:yaM):V->Option Int->Option Int->Hp->VK->Prop:=λx e i H Q=>∃a xs,x=.ref a/\ee K H a xs/\(HT.bX xs.length 0 e=0/\HT.bX xs.length xs.length i=xs.length)/\Q (.ref a) H
theorem CO:Gf X (RB X.K):=by
 intro j s u H x v z y E F C Q I m o pl pu h;obtain⟨a,xs,rfl,n,hw,q⟩:=h;cases m;obtain⟨i,r,l,hz⟩:=I.tuple n;have e:i.toArray.size=xs.length:=by rw[zbc];exact r.length.symm
 refine⟨"tuple",_,PyProof.Rows.slot_tuple_getitem.lookup,l.typeIs,?_⟩;exact iU l o pl pu (by rw[e];exact hw) ⟨.ref a,H,I,rfl,q⟩
theorem BC{i:Type}{xs:List i}{a e:Option Int}(h:HT.bX xs.length 0 a=0/\HT.bX xs.length xs.length e=xs.length):cutD xs a e=xs:=by
 unfold cutD;rw[h.1,h.2];simp
theorem IC{a j:Type}(f:a->j)(xs:List a)(e i:Option Int):cutD (xs.map f) e i=(cutD xs e i).map f:=by
 unfold cutD;rw[zbN,zcr,zcs]
theorem iM{w:Wd}:∀(ns:List Int),av K w (ns.map D.int) (ns.map V.int)
 |[]=>.nil
 |n::ns=>.cons .int (iM ns)
theorem bH:Tf X iY:=⟨by
 intro l s F H x v O L m u P Q I U W pl pu h;refine(L2.Gs.or (L2.Le.or (CO.or L2.Lf))) l s F H x v O L m u P Q I U W pl pu ?_;obtain⟨w,d,S,Z,ok,j,q,bk⟩:=h;unfold iY at q;split at q
 next ds z=>
  obtain⟨a,xs,rfl,h1,h2⟩:=bC ok j z;exact .inl ⟨a,xs,rfl,b9.of h1,λp e=>bk (.new (.lst _)) S _ w _ .refl (ok.alloc e) (ok.fresh e ⟨_,rfl,nL h2 m u⟩) q⟩
 next ds z=>
  obtain⟨a,xs,rfl,h1,h2⟩:=eg ok j z;by_cases hw:HT.bX xs.length 0 m=0/\HT.bX xs.length xs.length u=xs.length
  ·refine .inr (.inr (.inl ⟨a,xs,rfl,h1,hw,?_⟩));rw[h2.length] at hw;rw[BC hw] at q;cases d<;>simp only[bq] at z
   case tup=>cases z;exact bk.dat .refl ok j q
   case loc n=>split at z<;>first|(rename_i o _;cases o<;>simp[MO.d] at z)|cases z
   all_goals cases z
  ·refine .inr (.inl ⟨a,xs,rfl,h1,hw,λp e=>?_⟩);obtain⟨Y,E,C,i⟩:=ok.kZ e (nL h2 m u);exact bk.dat E C i q
 next y z=>exact .inr (.inr (.inr ⟨y,bT j z,q.1,bk.dat .refl ok .str q.2⟩))
 next ns z=>
  obtain⟨a,rfl,h1⟩:=iJ ok j z;refine .inl ⟨a,_,rfl,h1,λp e=>bk (.new (.lst _)) S _ w _ .refl (ok.alloc e) (ok.fresh e ⟨_,rfl,?_⟩) q⟩;have:=nL (iM (K:=X.K) (w:=w) ns) m u;rw[IC] at this;exact this
 next=>exact q.elim⟩
def Qi:A2:=λx y S Q=>match bq S x,y with
 |.int i,.int j=>B5 i j/\Q (.dat (.int (i*j))) S
 |.lst ds,.int k=>(-(2 ^ 63)<=k/\k<2 ^ 63)/\ds.length*k.toNat<=yah/\Q (.new (.lst (zce k.toNat ds).flatten)) S
 |_,_=>False
theorem uv{ds:List D}{xs:List V}(h:av K w ds xs):∀k:Nat,av K w (zce k ds).flatten (zce k xs).flatten
 |0=>.nil
 |k+1=>by
  rw[zaH,zaH,zbf,zbf];exact h.append (uv h k)
theorem JP:pL X (binaryOp .Mult) Qi:=⟨m2 (JM L2.gz L2.LW) λx y H Q h=>by
 obtain⟨w,d,e,S,E,ok,m,l,q,bk⟩:=h;unfold Qi at q;split at q
 next i j z=>exact .inl ⟨i,j,cG m z,bD l rfl,q.1,bk.dat .refl ok .int q.2⟩
 next ds k z=>
  obtain⟨a,xs,rfl,h1,h2⟩:=bC ok m z;obtain⟨⟨C,u⟩,o,q⟩:=q;refine .inr ⟨a,k,xs,rfl,bD l rfl,h1,C,u,by rw[h2.length];exact o,λp n=>?_⟩;exact bk (.new (.lst _)) S _ w _ .refl (ok.alloc n) (ok.fresh n ⟨_,rfl,uv h2 k.toNat⟩) q
 next=>exact q.elim⟩
end
mutual
noncomputable def jv(n:Nat):D->Bool
 |.loc m=>decide (m<n)
 |.tup ds|.lst ds|.dct _ ds=>kF n ds
 |_=>true
noncomputable def kF(n:Nat):List D->Bool
 |[]=>true
 |d::ds=>jv n d&&kF n ds
end
noncomputable def p9(n:Nat):MO->Bool
 |.lst ds=>kF n ds
 |.dct _ ds=>kF n ds
 |.feed _=>true
 |.ins _ _ ds=>kF n ds
 |.Ge _ ks=>kF n ks
mutual
theorem Ag(n:Nat):∀d:D,bY d=true->jv n d=true
 |.aY,_=>by simp[jv]
 |.bl _,_=>by simp[jv]
 |.int _,_=>by simp[jv]
 |.str _,_=>by simp[jv]
 |.tup ds,h=>by simp only[jv];exact fX n ds (by simpa[bY] using h)
 |.lst ds,h=>by simp only[jv];exact fX n ds (by simpa[bY] using h)
 |.dct _ _,h=>by simp[bY] at h
 |.loc _,h=>by simp[bY] at h
 |.ty _,h=>by simp[bY] at h
 |.kQ _,h=>by simp[bY] at h
 |.fd,h=>by simp[bY] at h
 |.fn _,h=>by simp[bY] at h
theorem fX(n:Nat):∀ds:List D,bQ ds=true->kF n ds=true
 |[],_=>by simp[kF]
 |d::ds,h=>by
  simp only[bQ,zbH] at h;simp only[kF,zbH];exact⟨Ag n d h.1,fX n ds h.2⟩
end
noncomputable def jJ(n:Nat)(w:Wd):Wd:=⟨w.B,λk=>if k<n then w.r k else none⟩
section
variable {w w1:Wd}{H1:Hp}{S1:aD}
mutual
theorem ql(n:Nat):∀(d:D)(v:V),jv n d=true->Rep K w d v->Rep K (jJ n w) d v
 |.aY,_,_,h=>by simpa[Rep] using h
 |.bl _,_,_,h=>by simpa[Rep] using h
 |.int _,_,_,h=>by simpa[Rep] using h
 |.str _,_,_,h=>by simpa[Rep] using h
 |.ty _,_,_,h=>by simpa[Rep] using h
 |.fd,_,_,h=>by simpa[Rep] using h
 |.fn _,_,_,h=>by simpa[Rep] using h
 |.kQ _,_,_,h=>by simpa[Rep,jJ] using h
 |.loc m,v,hb,h=>by
  simp only[jv,decide_eq_true_eq] at hb;simp only[Rep] at h⊢;obtain⟨a,h1,h2⟩:=h;exact⟨a,by show(if m<n then w.r m else none)=_;rw[yIp hb];exact h1,h2⟩
 |.tup ds,v,hb,h=>by
  simp only[Rep] at h⊢;obtain⟨a,xs,h1,h2,e⟩:=h;exact⟨a,xs,h1,h2,cA n ds xs (by simpa[jv] using hb) e⟩
 |.lst ds,v,hb,h=>by
  simp only[Rep] at h⊢;obtain⟨a,xs,h1,h2,e⟩:=h;exact⟨a,xs,h1,h2,cA n ds xs (by simpa[jv] using hb) e⟩
 |.dct ks ds,v,hb,h=>by
  simp only[Rep] at h⊢;obtain⟨a,xs,h1,h2,e,i⟩:=h;exact⟨a,xs,h1,h2,e,cA n ds _ (by simpa[jv] using hb) i⟩
theorem cA(n:Nat):∀(ds:List D)(vs:List V),kF n ds=true->av K w ds vs->av K (jJ n w) ds vs
 |[],_,_,h=>by simpa[av] using h
 |d::ds,vs,hb,h=>by
  simp only[kF,zbH] at hb;simp only[av] at h⊢;obtain⟨x,r,h1,h2,a⟩:=h;exact⟨x,r,h1,ql n d x hb.1 h2,cA n ds r hb.2 a⟩
end
mutual
theorem GX(n:Nat)(e:∀k,n<=k->w.r k=none):∀(d:D)(v:V),Rep K w d v->jv n d=true
 |.aY,_,_=>by simp[jv]
 |.bl _,_,_=>by simp[jv]
 |.int _,_,_=>by simp[jv]
 |.str _,_,_=>by simp[jv]
 |.ty _,_,_=>by simp[jv]
 |.fd,_,_=>by simp[jv]
 |.fn _,_,_=>by simp[jv]
 |.kQ _,_,_=>by simp[jv]
 |.loc m,v,h=>by
  simp only[Rep] at h;obtain⟨a,h1,h2⟩:=h;simp only[jv,decide_eq_true_eq];rcases zcJ m n with q|q
  ·exact q
  ·rw[e m q] at h1;cases h1
 |.tup ds,v,h=>by
  simp only[Rep] at h;obtain⟨a,xs,h1,h2,i⟩:=h;simp only[jv];exact dN n e ds xs i
 |.lst ds,v,h=>by
  simp only[Rep] at h;obtain⟨a,xs,h1,h2,i⟩:=h;simp only[jv];exact dN n e ds xs i
 |.dct ks ds,v,h=>by
  simp only[Rep] at h;obtain⟨a,xs,h1,h2,i,j⟩:=h;simp only[jv];exact dN n e ds _ j
theorem dN(n:Nat)(a:∀k,n<=k->w.r k=none):∀(ds:List D)(vs:List V),av K w ds vs->kF n ds=true
 |[],_,_=>by simp[kF]
 |d::ds,vs,h=>by
  simp only[av] at h;obtain⟨x,r,h1,h2,e⟩:=h;simp only[kF,zbH];exact⟨GX n a d x h2,dN n a ds r e⟩
end
theorem jn(n:Nat):∀{o:MO}{u:HO},p9 n o=true->jy K w o u->jy K (jJ n w) o u:=by
 intro o u e h;cases o with
 |lst ds=>obtain⟨xs,h1,h2⟩:=h;exact⟨xs,h1,cA n ds xs e h2⟩
 |dct ks ds=>obtain⟨xs,h1,h2,i⟩:=h;exact⟨xs,h1,h2,cA n ds _ e i⟩
 |feed _=>exact h
 |ins C ks ds=>obtain⟨j,fs,h1,h2,i⟩:=h;exact⟨j,fs,h1,h2,cA n ds _ e i⟩
 |Ge F ks=>obtain⟨a,bs,h1,h2⟩:=h;exact⟨a,bs,h1,cA n ks _ e h2⟩
theorem Dq(n:Nat)(e:∀k,n<=k->w.r k=none):∀{o:MO}{u:HO},jy K w o u->p9 n o=true:=by
 intro o u h;cases o with
 |lst ds=>obtain⟨xs,h1,h2⟩:=h;exact dN n e ds xs h2
 |dct ks ds=>obtain⟨xs,h1,h2,i⟩:=h;exact dN n e ds _ i
 |feed _=>rfl
 |ins C ks ds=>obtain⟨j,fs,h1,h2,i⟩:=h;exact dN n e ds _ i
 |Ge F ks=>obtain⟨a,bs,h1,h2⟩:=h;exact dN n e ks _ h2
noncomputable def out(n:Nat)(S1:aD):R->Option R
 |.dat (.loc m)=>if m<n then some (.dat (.loc m)) else match S1[m]? with
  |some (some o)=>if p9 n o=true then some (.new o) else none
  |_=>none
 |.dat d=>if jv n d=true then some (.dat d) else none
 |.new o=>if p9 n o=true then some (.new o) else none
def chg(a S1:aD):Prop:=∀k o,k<a.length->S1[k]? =some (some o)->a[k]? =some (some o)∨p9 a.length o=true
def ret(a S1:aD)(r:R)(Q:AK):Prop:=∃e,out a.length S1 r=some e/\chg a S1/\Q e (S1.take a.length)
theorem nJ{r:R}{Qa:AK}{Q:VK}(ok:Ok K w H S0)(le:w.le w1)(j:Ok K w1 H1 S1)(rep:yu K w1 H1 S1 r v)(h:ret S0 S1 r Qa)(bk:dX K w Qa Q):Q v H1:=by
 obtain⟨O,i,W,q⟩:=h;generalize U:S0.length=n at*;have lt:∀k a,w.r k=some a->k<n:=λk a e=>by
  rcases zcJ k n with z|z
  ·exact z
  ·rw[ok.top k (by lia)] at e;cases e
 have at_:∀k o,(S1.take n)[k]? =some (some o)->k<n/\S1[k]? =some (some o):=λk o e=>by
  rw[zaQ] at e;by_cases z:k<n
  ·rw[yIp z] at e;exact⟨z,e⟩
  ·rw[yIn z] at e;cases e
 have S:w.le (jJ n w1):=⟨le.b,λk a e=>by show(if k<n then w1.r k else none)=_;rw[yIp (lt k a e)];exact le.r k a e⟩
 have bl:∀k o,k<n->S1[k]? =some (some o)->p9 n o=true:=λk o l e=>by
  rcases W k o (by lia) e with z|z
  ·obtain⟨a,u,_,_,_,E⟩:=ok.live k o z;exact Dq n (λk l=>ok.top k (by lia)) E
  ·rw[U] at z;exact z
 have P:Ok K (jJ n w1) H1 (S1.take n):=⟨j.base,λk o e=>by
   obtain⟨l,e⟩:=at_ k o e;obtain⟨a,u,h1,h2,I,E⟩:=j.live k o e;exact⟨a,u,by show(if k<n then w1.r k else none)=_;rw[yIp l];exact h1,h2,I,jn n (bl k o l e) E⟩,
  λk m o y e F z=>by
   obtain⟨l,e⟩:=at_ k o e;obtain⟨C,F⟩:=at_ m y F;have z:(if k<n then w1.r k else none)=(if m<n then w1.r m else none):=z;rw[yIp l,yIp C] at z;exact j.inj k m o y e F z,
  λk l=>by
   show(if k<n then w1.r k else none)=none;by_cases z:k<n
   ·rw[yIp z];rw[zbv] at l;exact j.top k (by lia)
   ·rw[yIn z]⟩
 refine bk O (S1.take n) v (jJ n w1) H1 S P ?_ q;have fresh:∀m o a,n<=m->S1[m]? =some (some o)->w1.r m=some a->∀k y,(S1.take n)[k]? =some (some y)->(jJ n w1).r k≠some a:=λm o a C e L k y F z=>by
  obtain⟨l,F⟩:=at_ k y F;have z:(if k<n then w1.r k else none)=some a:=z;rw[yIp l] at z;have:=j.inj k m y o F e (z.trans L.symm);lia
 cases r with
 |new o=>
  simp only[out] at i;split at i
  next hb=>
   cases i;obtain⟨a,u,rfl,h1,h2,I,E⟩:=rep;refine⟨a,u,rfl,h1,h2,jn n hb I,λk y e z=>?_⟩;obtain⟨l,e⟩:=at_ k y e;have z:(if k<n then w1.r k else none)=some a:=z;rw[yIp l] at z;exact E k y e z
  next=>cases i
 |dat d=>
  have gen:(if jv n d=true then some (R.dat d) else none)=some O->yu K (jJ n w1) H1 (S1.take n) O v:=λi=>by
   split at i
   next hb=>cases i;exact ql n d v hb rep
   next=>cases i
  cases d with
  |loc m=>
   simp only[out] at i;split at i
   next C=>exact gen (by simp[jv,C,i])
   next C=>
    have C:n<=m:=by lia
    split at i
    next o e=>
     split at i
     next hb=>
      cases i;have rep:Rep K w1 (.loc m) v:=rep;simp only[Rep] at rep;obtain⟨a,L,rfl⟩:=rep;obtain⟨X,u,h1,h2,I,E⟩:=j.live m o e;rw[L] at h1;cases h1;exact⟨a,u,rfl,h2,I,jn n hb E,fresh m o a C e L⟩
     next=>cases i
    next=>cases i
  |_=>exact gen (by simpa only[out] using i)
end
noncomputable def aL(N:List Str)(ds:List D):bF:=ds.map some++zce (N.length - ds.length) none
theorem eO{w:Wd}(h:av K w ds vs):dU K w (aL N ds) (L2.start N vs):=by
 have j:=h.length;refine⟨by simp[aL,L2.start,j],λi d e=>?_⟩;unfold aL at e;by_cases a:i<ds.length
 ·rw[zaf (by simpa using a),zbe] at e;cases z:ds[i]? with
  |none=>rw[z] at e;cases e
  |some d'=>
   rw[z] at e;have e:d'=d:=by simpa using e
   subst e;obtain⟨v,h1,h2⟩:=h.get z;refine⟨v,?_,h2⟩;unfold L2.start;rw[zaf (by rw[zbN,j];exact a),zbe,h1];rfl
 ·rw[zab (by simpa using a),List.getElem?_replicate] at e;split at e<;>cases e
section
variable {w:yal}
theorem l5{k:Nat}{sp:AN}(F:Src K mg x ps st)(S:aE N ps (ah st))(len:∀ds S Q,sp ds S Q->ds.length=ps.length)(j:∀(f:Addr)(e:yaj)(A:yam)(outer:List Env)(s:yai)(H:Hp)(E:XK),aR k (A.deeper (envOfC x (ah st) s.heap.objs.size f e))->∃a,yC (d9 iF P w K mg base N x (ah st) f e A outer s H E).DS (aT st) a/\∀ds S Q,sp ds S Q->a {nx:=λ_ m=>ret S m (.dat .aY) Q,rt:=λr m=>ret S m r Q} (aL N ds) S):Def P w K mg base (k+1) x ps (aN K sp):=
 F.def S (λy H Q E h=>by
  obtain⟨w,ds,S,o,ok,rep,q,bk⟩:=h;rw[rep.length];exact len ds S o q) λf e A outer s H y Q E C h=>by
  obtain⟨a,I,hd⟩:=j f e A outer s H E C;obtain⟨w,ds,S,o,ok,rep,q,bk⟩:=h;refine⟨_,I.p,w,aL N ds,S,_,ok,eO rep,hd ds S o q,⟨λU m O u L le i env n=>?_,λr m v u L le i l n=>?_,λ_ _ _ _ _ _ _ _ z=>z.elim,λ_ _ _ _ _ _ _ _ z=>z.elim⟩⟩
  ·exact nJ (r:=.dat .aY) (v:=.aY) ok le i (show Rep K u .aY .aY from .aY) n bk
  ·exact nJ ok le i l n bk
end
section
variable {w:Wd}{d:D}
theorem dw(h:av K w [d] vs):∃v,vs=[v]/\Rep K w d v:=by
 simp only[av] at h;obtain⟨x,r,rfl,h1,rfl⟩:=h;exact⟨x,rfl,h1⟩
theorem zo{e:D}(h:av K w [d,e] vs):∃v u,vs=[v,u]/\Rep K w d v/\Rep K w e u:=by
 simp only[av] at h;obtain⟨x,r,rfl,h1,y,a,rfl,h2,rfl⟩:=h;exact⟨x,y,rfl,h1,h2⟩
noncomputable def gC:D->Option Nat
 |.lst ds=>some ds.length
 |.tup ds=>some ds.length
 |.kQ ns=>some ns.length
 |.dct ks _=>some ks.length
 |.str z=>if z.length<=yah then some z.length else none
 |_=>none
def Jb:AN:=λa S Q=>∃d n,a=[d]/\gC (bq S d)=some n/\Q (.dat (.int n)) S
theorem cO:tO X (.builtin "len") Jb:=⟨mC (RT L2.vJ L2.BK) λxs H Q h=>by
 obtain⟨w,j,S,m,ok,rep,⟨d,n,rfl,e,q⟩,bk⟩:=h;obtain⟨v,rfl,i⟩:=dw rep;cases z:bq S d with
 |lst j=>
  rw[z] at e;have e:j.length=n:=by simpa[gC] using e
  obtain⟨a,xs,rfl,h1,h2⟩:=bC ok i z;exact .inl ⟨_,n,rfl,.inl ⟨xs,b9.of h1,by rw[h2.length,e]⟩,bk.dat .refl ok .int q⟩
 |tup j=>
  rw[z] at e;have e:j.length=n:=by simpa[gC] using e
  obtain⟨a,xs,rfl,h1,h2⟩:=eg ok i z;exact .inl ⟨_,n,rfl,.inr ⟨xs,h1,by rw[h2.length,e]⟩,bk.dat .refl ok .int q⟩
 |kQ ns=>
  rw[z] at e;have e:ns.length=n:=by simpa[gC] using e
  obtain⟨a,rfl,h1⟩:=iJ ok i z;exact .inl ⟨_,n,rfl,.inl ⟨_,h1,by rw[zbN,e]⟩,bk.dat .refl ok .int q⟩
 |str y=>
  rw[z] at e;simp only[gC] at e;split at e
  next hl=>
   cases e;exact .inl ⟨_,_,rfl,(by rw[bT i z];exact⟨hl,rfl⟩),bk.dat .refl ok .int q⟩
  next=>cases e
 |dct ks j=>
  rw[z] at e;have e:ks.length=n:=by simpa[gC] using e
  obtain⟨a,l,rfl,h1,h2,_⟩:=gm ok i z;refine .inr ⟨a,l,rfl,h1,?_⟩;rw[<-zbN (f:=(·.1)),h2,e];exact bk.dat .refl ok .int q
 |_=>rw[z] at e;simp[gC] at e⟩
noncomputable def NS:D->Option String
 |.aY=>some "NoneType"
 |.bl _=>some "bool"
 |.int _=>some "int"
 |.str _=>some "str"
 |.tup _=>some "tuple"
 |.lst _=>some "list"
 |_=>none
noncomputable def HR(d:D)(T:String):Option Bool:=(NS d).bind λt=>if T=="str"||T=="int"||T=="bool"||T=="tuple"||T=="list" then some (t==T||(t=="bool"&&T=="int")) else none
def Qn:AN:=λa S Q=>∃d T b,a=[d,.ty T]/\HR (bq S d) T=some b/\Q (.dat (.bl b)) S
theorem KN(ok:Ok K w H S)(h:Rep K w d v){t:String}(e:NS (bq S d)=some t):kH K H v (.type t)∨t="tuple"/\∃a ys,v=.ref a/\ee K H a ys:=by
 cases z:bq S d with
 |lst ds=>
  rw[z] at e;cases e;obtain⟨a,xs,rfl,h1,h2⟩:=bC ok h z;exact .inl (.lst h1)
 |tup ds=>
  rw[z] at e;cases e;obtain⟨a,xs,rfl,h1,h2⟩:=eg ok h z;exact .inr ⟨rfl,a,xs,rfl,h1⟩
 |aY=>rw[z] at e;cases e;rw[Gw h z];exact .inl .aY
 |bl b=>rw[z] at e;cases e;rw[gp h z];exact .inl (.bl b)
 |int b=>rw[z] at e;cases e;rw[cG h z];exact .inl (.int b)
 |str b=>rw[z] at e;cases e;rw[bT h z];exact .inl (.str b)
 |_=>rw[z] at e;simp[NS] at e
theorem Mn{t T:String}(a:t="NoneType"∨t="bool"∨t="int"∨t="str"∨t="tuple"∨t="list")(e:(if T=="str"||T=="int"||T=="bool"||T=="tuple"||T=="list" then some (t==T||(t=="bool"&&T=="int")) else none)=some b):zck K (.type t) (.type T)=some b:=by
 split at e
 next hT=>
  simp only[Bool.or_eq_true,beq_iff_eq] at hT;cases e;rcases hT with(((rfl|rfl)|rfl)|rfl)|rfl<;>rcases a with rfl|rfl|rfl|rfl|rfl|rfl<;>rfl
 next=>cases e
theorem KO{t:String}(e:NS d=some t):t="NoneType"∨t="bool"∨t="int"∨t="str"∨t="tuple"∨t="list":=by
 cases d<;>simp[NS] at e<;>subst e<;>simp
theorem BL:bN X (.builtin "isinstance") (λxs H Q=>∃(a:Addr)(ys:List V)(T:String)(b:Bool),xs=[.ref a,.ty T]/\ee X.K H a ys/\zck X.K (.type "tuple") (.type T)=some b/\Q (.bl b) H):=by
 intro i s u H xs y Q I r h;obtain⟨a,ys,T,b,rfl,m,n,q⟩:=h;obtain⟨v,j,rfl,l,e⟩:=vals2 r;cases uz.2 j e;cases(show v=Value.ref a from l);obtain⟨_,_,⟨o,h1,h2,_⟩,_⟩:=I.tuple m;exact zcc (b:=b) PySem.W.kitx_tuple I.fE ⟨o,h1,h2⟩ n (λz=>nomatch z) λtk=>⟨.bl b,H,I.tok tk,rfl,q⟩
theorem OZ:tO X (.builtin "isinstance") Qn:=⟨mC (RT L2.E5 BL) λxs H Q h=>by
 obtain⟨w,m,S,n,ok,rep,⟨d,T,b,rfl,e,q⟩,bk⟩:=h;obtain⟨v,u,rfl,j,i⟩:=zo rep;unfold HR at e;cases z:NS (bq S d) with
 |none=>rw[z] at e;cases e
 |some t=>
  rw[z] at e;have kt:=Mn (K:=X.K) (KO z) e;rcases KN ok j z with ty|⟨rfl,a,ys,rfl,l⟩
  ·exact .inl ⟨v,.ty T,_,_,b,(by rw[Dk i rfl]),uz.1,uz.2,ty,kt,bk.dat .refl ok .bl q⟩
  ·exact .inr ⟨a,ys,T,b,(by rw[Dk i rfl]),l,kt,bk.dat .refl ok .bl q⟩⟩
def Ko:AN:=λa S Q=>∃d,a=[d]/\bY (bq S d)=true/\(py (bq S d)).showable=true/\(py (bq S d)).depth<=100/\(py (bq S d)).shown.length<=yah/\Q (.dat (.str (py (bq S d)).shown)) S
theorem DO{k:Nat}(e:aR k X.A):tO X (.builtin "repr") Ko:=⟨mC (L2.BF e) λxs H Q h=>by
 obtain⟨w,l,S,m,ok,rep,⟨d,rfl,h1,h2,j,i,q⟩,bk⟩:=h;obtain⟨v,rfl,a⟩:=dw rep;exact⟨v,_,rfl,rK ok a h1,h2,j,i,bk.dat .refl ok .str q⟩⟩
def Ja:AN:=λa S Q=>∃d,a=[d]/\match bq S d with
 |.lst es=>Q (.new (.lst es)) S
 |.tup es=>Q (.new (.lst es)) S
 |.kQ ns=>Q (.new (.lst (ns.map D.int))) S
 |_=>False
theorem uJ:tO X (.type "list") Ja:=⟨mC L2.sJ λxs H Q h=>by
 obtain⟨w,j,S,l,ok,rep,⟨d,rfl,q⟩,bk⟩:=h;obtain⟨v,rfl,i⟩:=dw rep;split at q
 next es z=>
  obtain⟨a,xs,rfl,h1,h2⟩:=bC ok i z;exact⟨a,xs,rfl,.inl (b9.of h1),λp e=>bk (.new (.lst _)) S _ w _ .refl (ok.alloc e) (ok.fresh e ⟨_,rfl,h2⟩) q⟩
 next es z=>
  obtain⟨a,xs,rfl,h1,h2⟩:=eg ok i z;exact⟨a,xs,rfl,.inr h1,λp e=>bk (.new (.lst _)) S _ w _ .refl (ok.alloc e) (ok.fresh e ⟨_,rfl,h2⟩) q⟩
 next ns z=>
  obtain⟨a,rfl,h1⟩:=iJ ok i z;exact⟨a,_,rfl,.inl h1,λp e=>bk (.new (.lst _)) S _ w _ .refl (ok.alloc e) (ok.fresh e ⟨_,rfl,iM ns⟩) q⟩
 next=>exact q.elim⟩
def vO:AN:=λa S Q=>∃d,a=[d]/\match bq S d with
 |.lst es=>Q (.dat (.tup es)) S
 |.tup es=>Q (.dat (.tup es)) S
 |_=>False
theorem cY:tO X (.type "tuple") vO:=⟨mC L2.p7 λxs H Q h=>by
 obtain⟨w,y,S,C,ok,rep,⟨d,rfl,q⟩,bk⟩:=h;obtain⟨v,rfl,i⟩:=dw rep;split at q
 next es z=>
  obtain⟨a,xs,rfl,h1,h2⟩:=bC ok i z;refine⟨a,xs,rfl,.inl ⟨b9.of h1,λp m=>?_⟩⟩;obtain⟨u,l,j,e⟩:=ok.kZ m h2;exact bk.dat l j e q
 next es z=>
  obtain⟨a,xs,rfl,h1,h2⟩:=eg ok i z;refine⟨a,xs,rfl,.inr ⟨h1,?_⟩⟩;cases d<;>simp only[bq] at z
  case tup=>cases z;exact bk.dat .refl ok i q
  case loc n=>split at z<;>first|(rename_i o _;cases o<;>simp[MO.d] at z)|cases z
  all_goals cases z
 next=>exact q.elim⟩
def Qk:AN:=λa S Q=>∃i j,a=[.int i,.int j]/\Q (.dat (.int (if j<i then j else i))) S
theorem Me(l:X.calm=true):tO X (.builtin "min") Qk:=⟨mC (L2.BH l) λxs H Q h=>by
 obtain⟨w,m,S,n,ok,rep,⟨i,j,rfl,q⟩,bk⟩:=h;obtain⟨v,u,rfl,e,a⟩:=zo rep;exact⟨i,j,by rw[bD e rfl,bD a rfl],bk.dat .refl ok .int q⟩⟩
theorem qE:∀{ns:List Int}{xs:List V},av K w (ns.map D.int) xs->xs=ns.map V.int
 |[],_,h=>by simpa[av] using h
 |n::ns,xs,h=>by
  simp only[zco,av,Rep] at h;obtain⟨x,r,rfl,rfl,h⟩:=h;rw[qE h];rfl
theorem vL:∀{ns:List Bool}{xs:List V},av K w (ns.map D.bl) xs->xs=ns.map V.bl
 |[],_,h=>by simpa[av] using h
 |n::ns,xs,h=>by
  simp only[zco,av,Rep] at h;obtain⟨x,r,rfl,rfl,h⟩:=h;rw[vL h];rfl
theorem qc:∀{ns:List Str}{xs:List V},av K w (ns.map D.str) xs->xs=ns.map V.str
 |[],_,h=>by simpa[av] using h
 |n::ns,xs,h=>by
  simp only[zco,av,Rep] at h;obtain⟨x,r,rfl,rfl,h⟩:=h;rw[qc h];rfl
def Qj:AN:=λa S Q=>∃(d:D)(ns:List Int),a=[d]/\bq S d=.lst (ns.map D.int)/\0<ns.length/\∀m,m∈ns->(∀n∈ns,m<=n)->Q (.dat (.int m)) S
theorem Mc(n:X.calm=true):tO X (.builtin "min") Qj:=⟨mC (L2.BG n) λxs H Q h=>by
 obtain⟨w,o,S,u,ok,rep,⟨d,ns,rfl,z,i,q⟩,bk⟩:=h;obtain⟨v,rfl,e⟩:=dw rep;obtain⟨a,xs,rfl,h1,h2⟩:=bC ok e z;rw[qE h2] at h1;exact⟨a,ns,rfl,b9.of h1,i,λm j l=>bk.dat .refl ok .int (q m j l)⟩⟩
def Sw:AN:=λa S Q=>∃(d:D)(bs:List Bool),a=[d]/\bq S d=.lst (bs.map D.bl)/\Q (.dat (.bl (bs.all id))) S
theorem JQ(i:X.calm=true):tO X (.builtin "all") Sw:=⟨mC (L2.E6 i) λxs H Q h=>by
 obtain⟨w,j,S,l,ok,rep,⟨d,bs,rfl,z,q⟩,bk⟩:=h;obtain⟨v,rfl,e⟩:=dw rep;obtain⟨a,xs,rfl,h1,h2⟩:=bC ok e z;rw[vL h2] at h1;exact⟨a,bs,rfl,b9.of h1,bk.dat .refl ok .bl q⟩⟩
end
abbrev AM:=D->List D->aD->AK->Prop
structure Qu(X:Cx)(id:String)(r:AM):Prop where
 p:FZ X id (PM X.K r)
def xS(T:String):D->Prop
 |.lst _=>T="list"
 |.str _=>T="str"
 |.kQ _=>T="list"
 |.dct _ _=>T="dict"
 |_=>False
def tN(T:String)(r:AM)(a:AE)(b:AA):AE:=λe S Q=>a e S λx i=>xS T (bq i x.d)/\b e i λj l=>r x.d j l Q
section
variable {w:Wd}{d:D}
theorem Of{T:String}(ok:Ok K w H S)(h:Rep K w d v)(t:xS T (bq S d)):Rb K T v H:=by
 cases z:bq S d with
 |lst ds=>
  rw[z] at t;cases t;obtain⟨a,xs,rfl,h1,h2⟩:=bC ok h z;exact .inl ⟨rfl,xs,b9.of h1⟩
 |str y=>rw[z] at t;cases t;rw[bT h z];exact rfl
 |kQ ns=>
  rw[z] at t;cases t;obtain⟨a,rfl,h1⟩:=iJ ok h z;exact .inl ⟨rfl,_,h1⟩
 |dct ks ds=>
  rw[z] at t;cases t;obtain⟨a,e,rfl,h1,_⟩:=gm ok h z;exact .inr (.inr (.inl ⟨rfl,.inl ⟨e,h1⟩⟩))
 |_=>rw[z] at t;exact t.elim
theorem Rt{T:String}{r:AM}{a:AE}{b:AA}:∀n H Q,bx K (tN T r a b) n H Q->QI K T (PM K r) (bx K a) (lq K b) n H Q:=by
 rintro n H Q ⟨w,u,S,O,ok,env,q,bk⟩;refine⟨w,u,S,_,ok,env,q,.go λC L U z X m j e ⟨ty,E⟩=>⟨Of j e ty,?_⟩⟩;refine⟨z,u,L,_,j,env.le m,E,λF I P y W l o i q2=>?_⟩;exact⟨y,C.d,F,I,O,o,e.le l,i,q2,bk.le (m.trans l)⟩
theorem dg{o:Expr}{m:AE}{name:Str}{T id:String}{r:AM}(n:PlainAttrs T)(slot:Slot T name id)(l:typeOf (.builtin id)=pure (.type "method_descriptor"))(y:Qu X id r)(u:GE X o m)(z:GA X (e::es) t)(i:autoParam (attributeBase o name X.env (eval o X.env)=eval o X.env) r0)(q:autoParam ((e::es).all notStar=true) r0)(j:autoParam (decide ((e::es).length+0+0<30)=true) r0)(a:autoParam ((apos.endLine==cpos.line)=true) r0):GE X (.Call (.Attribute o name apos) (e::es) [] cpos) (tN T r m t):=⟨mE (L2.om n slot l y.p u.p z.p i q j a) Rt⟩
theorem mM{id:String}{t u:V->List V->Hp->VK->Prop}(h:FZ X id t)(m:∀x xs H Q,u x xs H Q->t x xs H Q):FZ X id u:=λa s e H x xs v i Q I j l q=>h a s e H x xs v i Q I j l (m x xs H Q q)
theorem Mj(ok:Ok K w H S)(h:Rep K w (.loc n) v)(e:S[n]? =some (some (.lst ds))):∃a xs,v=.ref a/\w.r n=some a/\H a=some (.lst xs)/\av K w ds xs:=by
 simp only[Rep] at h;obtain⟨a,h1,rfl⟩:=h;obtain⟨o,u,i,m,l,xs,rfl,j⟩:=ok.live n _ e;rw[h1] at i;cases i;exact⟨a,xs,rfl,h1,l,j⟩
theorem Dp{xs:List V}(h:av K w ds xs):jy K w (.lst ds) (.lst xs):=⟨xs,rfl,h⟩
def Jc:AM:=λx i S Q=>∃n a e,x=.loc n/\i=[e]/\S[n]? =some (some (.lst a))/\a.length<yah/\Q (.dat .aY) (S.set n (some (.lst (a++[e]))))
theorem eZ:Qu X "list.append" Jc:=⟨mM (X:=X) (t:=zu) L2.Bk λx xs H Q h=>by
 obtain⟨w,d,E,S,F,ok,o,m,⟨n,C,e,rfl,rfl,j,u,q⟩,bk⟩:=h;obtain⟨a,ys,rfl,y,z,i⟩:=Mj ok o j;obtain⟨v,rfl,l⟩:=dw m;exact⟨a,ys,v,rfl,rfl,z,by rw[i.length];exact u,bk.dat .refl (ok.put j y (Dp (i.snoc l))) .aY q⟩⟩
def Qo:AM:=λx a S Q=>∃y z,x=.str y/\a=[.str z]/\Q (.dat (.int (Txt.find y z))) S
theorem m_find:Qu X "str.find" Qo:=⟨mM L2.HB λx xs H Q h=>by
 obtain⟨w,d,j,S,l,ok,i,e,⟨y,z,rfl,rfl,q⟩,bk⟩:=h;obtain⟨v,rfl,a⟩:=dw e;exact⟨y,z,c8 i rfl,by rw[c8 a rfl],bk.dat .refl ok .int q⟩⟩
def Kq:AM:=λx a S Q=>∃(y:Str)(e:D)(ys:List Str),x=.str y/\a=[e]/\bq S e=.lst (ys.map D.str)/\(ys.map (·.length)).sum+ys.length*y.length<=16777216/\Q (.dat (.str (Txt.join y ys))) S
theorem oH:Qu X "str.join" Kq:=⟨mM L2.HA λx xs H Q h=>by
 obtain⟨w,d,C,S,E,ok,m,l,⟨y,e,ys,rfl,rfl,z,n,q⟩,bk⟩:=h;obtain⟨v,rfl,j⟩:=dw l;obtain⟨a,u,rfl,i,o⟩:=bC ok j z;rw[qc o] at i;exact⟨y,a,ys,c8 m rfl,rfl,b9.of i,n,bk.dat .refl ok .str q⟩⟩
end
end M
namespace M
open PySem L2
theorem dJ{P:aD->Prop}{g:AG}{b:AS}{D:fL}(I:List M.D->bF->aD->Prop)(j:∀δ S,I [] δ S->P S/\D.nx δ S)(l:∀x xs δ S N,I (x::xs) δ S->(∀a e,I xs a e->N a e)->P S/\g x δ S λi n=>b {D with nx:=N,ct:=N,bk:=D.nx} i n):∀ds δ S,I ds δ S->j0 P g b ds D δ S
 |[],δ,S,h=>j δ S h
 |x::xs,δ,S,h=>l x xs δ S _ h λa e m=>dJ I j l xs a e m
theorem mZ{P:aD->Prop}{g:AG}{t:AT}{e:AE}{Q:List M.D->aD->Prop}(I:List M.D->List M.D->bF->aD->Prop)(n:∀a δ S,I [] a δ S->P S/\Q a S)(o:∀x xs a δ S (N:List M.D->bF->aD->Prop),I (x::xs) a δ S->(∀i j m,I xs i j m->N i j m)->P S/\g x δ S λl z=>t l z λb q=>if b=true then e l q λr y=>a.length<yah/\N (a++[r.d]) l y else N a l q):
  ∀ds a δ S,I ds a δ S->cK P g t e ds a δ S Q
 |[],a,δ,S,h=>n a δ S h
 |x::xs,a,δ,S,h=>o x xs a δ S (λi j m=>cK P g t e xs i j m Q) h λi j m u=>mZ I n o xs i j m u
theorem comp_map{P:aD->Prop}{e:AE}{Q:List M.D->aD->Prop}{δ:bF}{S:aD}(f:M.D->M.D)(j:P S):∀(xs i:List M.D)(a:bF),a.set 0 none=δ.set 0 none->(∀x∈xs,∀Q:AK,Q (.dat (f x)) S->e (δ.set 0 (some x)) S Q)->i.length+xs.length<=yah->Q (i++xs.map f) S->
  cK P (bg 0) gM e xs i a S Q
 |[],i,a,_,_,_,q=>⟨j,by simpa using q⟩
 |x::xs,i,a,hd,h,hl,q=>by
  refine⟨j,?_⟩;have n:a.set 0 (some x)=δ.set 0 (some x):=by
   have:=congrArg (λl=>l.set 0 (some x)) hd;simpa[zcD] using this
  simp only[bg,gM,if_true];rw[n];refine h x (by simp) _ ⟨by simp at hl;lia,?_⟩;refine comp_map f j xs _ _ (by simp[zcD]) (λy m=>h y (by simp[m])) (by simp at hl⊢;lia) ?_;simpa[R.d,zbg] using q
theorem zc{d:D}(h:bY d=true):bq S d=d:=by
 cases d<;>first|rfl|simp[bY] at h
theorem CU{i:Int}:bq S (.int i)=.int i:=rfl
theorem ue{i:Str}:bq S (.str i)=.str i:=rfl
theorem rL{i:Bool}:bq S (.bl i)=.bl i:=rfl
theorem CT:bq S .aY=.aY:=rfl
theorem ud{i:List D}:bq S (.tup i)=.tup i:=rfl
theorem c6{i:List D}:bq S (.lst i)=.lst i:=rfl
theorem uf{i:List Int}:bq S (.kQ i)=.kQ i:=rfl
theorem cB{d:D}:(R.dat d).d=d:=rfl
theorem nS{o:MO}:(R.new o).d=o.d:=rfl
theorem jZ:(MO.lst ds).d=.lst ds:=rfl
theorem HJ{i j:Int}{Q:AK}:Qm (.int i) (.int j) S Q=Q (.dat (.bl (decide (i<=j)))) S:=rfl
theorem HE{i j:Int}{Q:AK}:Q0 (.int i) (.int j) S Q=Q (.dat (.bl (decide (i<j)))) S:=rfl
theorem HH{i j:Str}{Q:AK}:Qm (.str i) (.str j) S Q=Q (.dat (.bl (!decide (j.cps.toList<i.cps.toList)))) S:=rfl
theorem Fx{C:Int->Int->Prop}{g:Int->Int->D}{i j:Int}{Q:AK}:aI C g (.int i) (.int j) S Q=(C i j/\Q (.dat (g i j)) S):=by
 refine propext ⟨λe=>?_,λh=>⟨i,j,rfl,rfl,h⟩⟩;obtain⟨a,b,m,l,h⟩:=e;cases m;cases l;exact h
theorem Fo{i j:Int}{Q:AK}:sV (.int i) (.int j) S Q=Q (.dat (.int (i+j))) S:=rfl
theorem Fl{i j:List D}{Q:AK}:sV (.lst i) (.lst j) S Q=(i.length+j.length<=yah/\Q (.new (.lst (i++j))) S):=rfl
theorem Ie{i j:Int}{Q:AK}:BO (.int i) (.int j) S Q=Q (.dat (.bl (decide (i=j)))) S:=rfl
theorem gE{i j:Str}{Q:AK}:BO (.str i) (.str j) S Q=Q (.dat (.bl (decide (i=j)))) S:=rfl
theorem KQ:fG (.bl b)=some b:=rfl
theorem Gm:fG (.lst ds)=some (!ds.isEmpty):=rfl
theorem Gj:fG (.tup ds)=some (!ds.isEmpty):=rfl
theorem mH{d:D}(h:bY d=true):out n S (.dat d)=some (.dat d):=by
 have b:=Ag n d h;cases d<;>first|(simp[bY] at h;done)|(simp only[out];rw[yIp b])
theorem vE:chg S S:=λ_ _ _ e=>.inl e
theorem zm{d:D}{Q:AK}(h:bY d=true)(q:Q (.dat d) S):ret S S (.dat d) Q:=⟨_,mH h,vE,by rw[zbA];exact q⟩
theorem eX{Q:AK}:ret S S (.dat (.bl b)) Q=Q (.dat (.bl b)) S:=by
 refine propext ⟨λ⟨r,h1,_,h2⟩=>?_,zm rfl⟩;simp[out,jv] at h1;subst h1;rw[zbA] at h2;exact h2
theorem GU{b:Int}{Q:AK}:ret S S (.dat (.int b)) Q=Q (.dat (.int b)) S:=by
 refine propext ⟨λ⟨r,h1,_,h2⟩=>?_,zm rfl⟩;simp[out,jv] at h1;subst h1;rw[zbA] at h2;exact h2
theorem GQ{Q:AK}(h:bQ ds=true)(q:Q (.new (.lst ds)) S):ret S S (.new (.lst ds)) Q:=
 ⟨_,by simp only[out];rw[yIp (show p9 _ (.lst ds)=true from fX _ ds h)],vE,by rw[zbA];exact q⟩
theorem GR{Q:AK}{a:aD}(l:S.length<=n)(h:bQ ds=true)(e:a[n]? =some (some (.lst ds)))(i:a.take S.length=S)(q:Q (.new (.lst ds)) S):ret S a (.dat (.loc n)) Q:=by
 refine⟨.new (.lst ds),?_,λk o j e=>.inl ?_,by rw[i];exact q⟩
 ·simp only[out];rw[yIn (by lia),e];show(if p9 S.length (.lst ds)=true then some (R.new (.lst ds)) else none)=_;rw[yIp (show p9 _ (.lst ds)=true from fX _ ds h)]
 ·rw[<-i,zaQ,yIp j];exact e
noncomputable def gf(x:Str):Bool:=x.cps.toList.all (λc=>decide (c<128))&&decide (x.length<=100)
noncomputable def tL:Nat->D->Bool
 |_,.aY=>true
 |_,.bl _=>true
 |_,.int _=>true
 |_,.str x=>gf x
 |n+1,.tup ds=>decide (ds.length<=100)&&ds.all (tL n)
 |n+1,.lst ds=>decide (ds.length<=100)&&ds.all (tL n)
 |_,_=>false
theorem ou(h:gf x=true):PyData.strOk x=true:=by
 unfold gf at h;rw[zbH] at h;unfold PyData.strOk;rw[<-Array.all_toList];refine zby.mpr λc a=>?_;have:=of_decide_eq_true (zby.mp h.1 c a);exact yDt (by lia)
theorem Cp:∀(n:Nat)(d:D),tL n d=true->bY d=true/\(py d).canLay0=true/\(py d).depth<=n:=by
 intro n
 induction n with
 |zero=>
  intro d h;cases d<;>first|(simp[tL] at h;done)|skip
  ·simp[bY,py,PyData.canLay0,PyData.depth]
  ·simp[bY,py,PyData.canLay0,PyData.depth]
  ·simp[bY,py,PyData.canLay0,PyData.depth]
  ·simp only[tL] at h;simp[bY,py,PyData.canLay0,PyData.depth,ou h]
 |succ n ih=>
  have all:∀a:List D,(a.all (tL n))=true->bQ a=true/\PyData.canLayAll0 (dY a)=true/\PyData.depthAll (dY a)<=n:=by
   intro a
   induction a with
   |nil=>intro _;simp[bQ,dY,PyData.canLayAll0,PyData.depthAll]
   |cons d a ih2=>
    intro h;rw[zcq,zbH] at h;obtain⟨i,e,j⟩:=ih d h.1;obtain⟨m,l,o⟩:=ih2 h.2;refine⟨by simp[bQ,i,m],by simp[dY,PyData.canLayAll0,e,l],?_⟩;simp only[dY,PyData.depthAll];lia
  intro d h;cases d<;>first|(simp[tL] at h;done)|skip
  ·simp[bY,py,PyData.canLay0,PyData.depth]
  ·simp[bY,py,PyData.canLay0,PyData.depth]
  ·simp[bY,py,PyData.canLay0,PyData.depth]
  ·simp only[tL] at h;simp[bY,py,PyData.canLay0,PyData.depth,ou h]
  ·simp only[tL,zbH] at h;obtain⟨i,e,j⟩:=all _ h.2;exact⟨by simpa[bY] using i,by simpa[py,PyData.canLay0] using e,by simp only[py,PyData.depth];lia⟩
  ·simp only[tL,zbH] at h;obtain⟨i,e,j⟩:=all _ h.2;exact⟨by simpa[bY] using i,by simpa[py,PyData.canLay0] using e,by simp only[py,PyData.depth];lia⟩
theorem rA{d:D}(h:tL n d=true)(e:n<=64):fit d=true:=by
 obtain⟨a,b,c⟩:=Cp n d h;unfold fit PySem.SeqAt.shaped;rw[a,b,yDt (by lia)];rfl
end M
namespace M
open PySem PySem.Spec PyProof.Rows L2
theorem kO:∀{vs:List yaj}{ss:List Str},StrsAre vs ss->Vals (ss.map V.str) vs
 |_,_,.nil=>.nil
 |_,_,.cons y t h=>.cons ⟨t,rfl⟩ (kO h)
def LJ(K:yaM):List V->Hp->VK->Prop:=λxs H Q=>∃(a:Addr)(i:List Str),xs=[.ref a]/\b9 K H a (i.map V.str)/\i.length<64/\∀(p:Addr)(e:List Str),H p=none->e.Perm i->sortedS e=true->Q (.ref p) (upd H p (.lst (e.map V.str)))
theorem yb:bN X (.builtin "sorted") (LJ X.K):=by
 intro y s W H xs Y Q I r h;obtain⟨a,E,rfl,O,hl,q⟩:=h;obtain⟨u,rfl,ru⟩:=vals1 r;cases ru;obtain⟨j,m,⟨o,n,e,L,hd,l⟩,_⟩:=I.list O;have z:j.length=E.length:=by have:=m.length;rw[zbN] at this;exact this.symm
 refine sorted_strs ⟨o,e,L,n,l⟩ (jE m) (by lia) λout i U C S=>?_;obtain⟨P,F⟩:=sortedAll_at s.heap j out;have hz:(i.map V.str).length<=yah:=by rw[zbN,C.length_eq,yag];lia
 refine⟨.ref (s.heap.objs.size+1),_,I.laid (t':=s.toks) (o:=.lst (i.map V.str)) (λb Z q=>sortedAll_old q) (zcU _) ⟨hz,out.toList,P,kO U,F⟩,rfl,q _ i (I.hok.fresh (zcU _)) C S⟩
def LK(K:yaM):List V->Hp->VK->Prop:=λxs H Q=>∃(a:Addr)(ns:List Int),xs=[.ref a]/\b9 K H a (ns.map V.int)/\ns.length<64/\∀(p:Addr)(e:List Int),H p=none->e.Perm ns->e.Pairwise (· <=·)->Q (.ref p) (upd H p (.lst (e.map V.int)))
theorem yc:bN X (.builtin "sorted") (LK X.K):=by
 intro y s U H xs W Q I r h;obtain⟨a,ns,rfl,L,Z,q⟩:=h;obtain⟨u,rfl,ru⟩:=vals1 r;cases ru;obtain⟨j,m,⟨o,n,e,F,hd,l⟩,_⟩:=I.list L;have z:j.length=ns.length:=by have:=m.length;rw[zbN] at this;exact this.symm
 refine sorted_ints ⟨o,e,F,n,l⟩ (intsAre_of m) (by lia) λout i S C P=>?_;obtain⟨O,E⟩:=sortedAll_at s.heap j out;have hz:(i.map V.int).length<=yah:=by rw[zbN,C.length_eq,yag];lia
 refine⟨.ref (s.heap.objs.size+1),_,I.laid (t':=s.toks) (o:=.lst (i.map V.int)) (λb Y q=>sortedAll_old q) (zcU _) ⟨hz,out.toList,O,qb S,E⟩,rfl,q _ i (I.hok.fresh (zcU _)) C P⟩
def IQ:AN:=λj S Q=>∃d,j=[d]/\
 ((∃i:List Str,bq S d=.lst (i.map D.str)/\i.length<64/\∀a:List Str,a.Perm i->sortedS a=true->Q (.new (.lst (a.map D.str))) S)∨(∃ns:List Int,bq S d=.lst (ns.map D.int)/\ns.length<64/\∀e:List Int,e.Perm ns->e.Pairwise (· <=·)->Q (.new (.lst (e.map D.int))) S))
theorem jm{K:yaM}{w:Wd}:∀{ss:List Str}{xs:List V},av K w (ss.map D.str) xs->xs=ss.map V.str
 |[],xs,h=>by simpa[av] using h
 |s::ss,xs,h=>by
  simp only[zco,av] at h;obtain⟨x,r,rfl,h1,h2⟩:=h;rw[c8 h1 rfl,jm h2];rfl
theorem nK{K:yaM}{w:Wd}:∀{ns:List Int}{xs:List V},av K w (ns.map D.int) xs->xs=ns.map V.int
 |[],xs,h=>by simpa[av] using h
 |s::ss,xs,h=>by
  simp only[zco,av] at h;obtain⟨x,r,rfl,h1,h2⟩:=h;rw[bD h1 rfl,nK h2];rfl
theorem eE{K:yaM}{w:Wd}:∀ss:List Str,av K w (ss.map D.str) (ss.map V.str)
 |[]=>by simp[av]
 |s::ss=>by
  simp only[zco,av];exact⟨_,_,rfl,by simp[Rep],eE ss⟩
theorem DL:tO X (.builtin "sorted") IQ:=⟨mC (RT yb yc) λxs H Q h=>by
 obtain⟨w,y,S,C,ok,rep,⟨d,rfl,q⟩,bk⟩:=h;obtain⟨v,rfl,o⟩:=dw rep;rcases q with⟨u,z,l,q⟩|⟨ns,z,l,q⟩
 ·obtain⟨a,xs,rfl,h1,h2⟩:=bC ok o z;have:=jm h2;subst this;exact .inl ⟨a,u,rfl,b9.of h1,l,λp e j n m=>bk (.new (.lst _)) S _ w _ .refl (ok.alloc j) (ok.fresh j ⟨_,rfl,eE e⟩) (q e n m)⟩
 ·obtain⟨a,xs,rfl,h1,h2⟩:=bC ok o z;have:=nK h2;subst this;exact .inr ⟨a,ns,rfl,b9.of h1,l,λp i j n m=>bk (.new (.lst _)) S _ w _ .refl (ok.alloc j) (ok.fresh j ⟨_,rfl,iM i⟩) (q i n m)⟩⟩
section
variable {o:Expr}{tpos:Pos}
noncomputable def putD(f:Str)(d:D):List Str->List D->List Str×List D
 |k::ks,e::ds=>if k=f then(k::ks,d::ds) else(k::(putD f d ks ds).1,e::(putD f d ks ds).2)
 |_,_=>([f],[d])
theorem zv{K:yaM}{w:Wd}{f:Str}{d:D}{v:V}(g:Rep K w d v):∀(fs:List (Str×V))(ds:List D),av K w ds (fs.map (·.2))->(fN f v fs).map (·.1)=(putD f d (fs.map (·.1)) ds).1/\av K w (putD f d (fs.map (·.1)) ds).2 ((fN f v fs).map (·.2))
 |[],ds,h=>by
  cases ds with
  |nil=>exact⟨rfl,.cons g .nil⟩
  |cons _ _=>exact⟨rfl,.cons g .nil⟩
 |(k,x)::fs,ds,h=>by
  cases ds with
  |nil=>simp[av] at h
  |cons e ds=>
   simp only[zco,av] at h;obtain⟨y,r,h1,h2,i⟩:=h;have n:=(List.cons.inj h1).1;have m:=(List.cons.inj h1).2;subst n;subst m;obtain⟨l,j⟩:=zv g fs ds i;simp only[fN,zco,putD];by_cases a:k=f
   ·rw[yIp a,yIp a];exact⟨rfl,.cons g i⟩
   ·rw[yIn a,yIn a];exact⟨by rw[zco,l],.cons h2 j⟩
theorem uS{K:yaM}{w:Wd}{f:Str}{d:D}:∀(fs:List (Str×V))(ds:List D),av K w ds (fs.map (·.2))->((fs.map (·.1)).zip ds).lookup f=some d->∃v,fs.lookup f=some v/\Rep K w d v
 |[],ds,h,q=>by simp at q
 |(k,x)::fs,ds,h,q=>by
  cases ds with
  |nil=>simp at q
  |cons e ds=>
   simp only[zco,av] at h;obtain⟨y,r,h1,h2,i⟩:=h;have l:=(List.cons.inj h1).1;have j:=(List.cons.inj h1).2;subst l;subst j;rw[zco,zaR,zbx] at q;rw[zbx];split at q
   ·rename_i a;have:e=d:=by simpa using q
    subst this;exact⟨x,by rw[a],h2⟩
   ·rename_i a;obtain⟨v,e,r⟩:=uS fs ds i q;exact⟨v,by rw[a];exact e,r⟩
theorem fT{f:Str}:∀(fs:List (Str×V)),f ∉ fs.map (·.1)->fs.lookup f=none
 |[],_=>rfl
 |(k,x)::fs,h=>by
  rw[zbx];have:(f==k)=false:=by
   rw[beq_eq_false_iff_ne];intro z;exact h (by simp[z])
  rw[this];exact fT fs λz=>h (by simp only[zco,zcn];exact .inr z)
theorem k7{w:Wd}{ks:List Str}(ok:Ok K w H S)(h:Rep K w (.loc n) v)(e:S[n]? =some (some (.ins C ks ds))):
  ∃a i fs,v=.ref a/\w.r n=some a/\H a=some (.ins C i fs)/\fs.map (·.1)=ks/\av K w ds (fs.map (·.2)):=by
 simp only[Rep] at h;obtain⟨a,h1,rfl⟩:=h;obtain⟨z,u,j,y,q,i,fs,rfl,m,l⟩:=ok.live n _ e;rw[h1] at j;cases j;exact⟨a,i,fs,rfl,h1,q,m,l⟩
def Fy(C:Addr)(a:AE)(f:Str):AE:=λl S Q=>a l S λr j=>∃n e i d,r=.dat (.loc n)/\j[n]? =some (some (.ins C e i))/\(e.zip i).lookup f=some d/\Q (.dat d) j
theorem b7{f:Str}(L:GE X e ta)(c:wz X.K C)(nf:fh X.K C f)(O:autoParam (attributeBase e f X.env (eval e X.env)=eval e X.env) r0):GE X (.Attribute e f pos) (Fy C ta f):=
 ⟨mE (L2.b7 L.p O) λσ H Q h=>by
  obtain⟨w,y,S,Qa,ok,env,q,bk⟩:=h;refine⟨w,y,S,_,ok,env,q,λr S1 v w1 H1 u j i m=>?_⟩;obtain⟨n,ks,Z,d,W,U,F,E⟩:=m;subst W;obtain⟨a,Y,fs,rfl,_,P,I,hd⟩:=k7 j i U;subst I;obtain⟨v,l,z⟩:=uS fs Z hd F;exact⟨a,C,Y,fs,v,rfl,P,c,nf,l,bk.dat u j z E⟩⟩
def JH(C:Addr)(a v:AE)(f:Str):AS:=λD i S=>v i S λy m=>a i m λr l=>∃n e j,r=.dat (.loc n)/\l[n]? =some (some (.ins C e j))/\e.length<1000/\D.nx i (l.set n (some (.ins C (putD f y.d e j).1 (putD f y.d e j).2)))
theorem nX{f:Str}{L:AE}(E:GE X o ta)(hv:GE X value L)(c:wz X.K C)(nf:fh X.K C f)(hs:autoParam (yau value (some (.Attribute o f pos2)) pos.line X.env=pure false) r0):
  GS X (.Assign [.Attribute o f pos2] value pos) (JH C ta L f):=
 ⟨mS (L2.nX E.p hv.p hs) λDx σ H h=>by
  obtain⟨w,I,S,Da,ok,env,q,bk⟩:=h;refine⟨w,I,S,_,ok,env,q,.go λy S1 v1 U H1 i z l W=>?_⟩;refine⟨U,I,S1,_,z,env.le i,W,λr S2 v2 Q H2 e m j u=>?_⟩;obtain⟨n,ks,F,er,O,hl,q2⟩:=u;subst er;obtain⟨a,P,fs,rfl,hr,E,hk,hd⟩:=k7 m j O;subst hk;obtain⟨Z,Y⟩:=zv (f:=f) (l.le e) fs F hd;refine⟨a,C,P,fs,rfl,E,c,nf,by simpa using hl,?_⟩;exact bk.nx _ _ _ Q _ (i.trans e) (m.put O hr (o':=.ins C (putD f y.d (fs.map (·.1)) F).1 (putD f y.d (fs.map (·.1)) F).2) ⟨P,_,rfl,Z,Y⟩) (env.le (i.trans e)) q2⟩
end
structure iZ(K:yaM)(C:Addr)(m qual:Str)(ps:List Str)(st:Stmt):Prop where
 ex:∃f fd,rg K m qual st f fd/\Meth K C m f/\Binds K fd ps []
structure cX(P:yak)(w:yal)(K:yaM)(mg:Str->Option yaj)(base:Heap)(k:Nat)(C:Addr)(m:Str)(ps:List Str)(sp:AN):Prop where
 ex:∃f fd,bL P w K mg base iF k f fd ps (aN K sp)/\Meth K C m f/\Binds K fd ps []
section
variable {o:Expr}{k:Nat}{m:Str}{sp:AN}
def Am(C:Addr)(m:Str)(sp:AN)(a:AE)(t:AA):AE:=λe S Q=>a e S λr j=>∃n i q,r=.dat (.loc n)/\j[n]? =some (some (.ins C i q))/\m ∉ i/\t e j λl u=>sp (.loc n::l) u Q
theorem Lp{E:XK}{a:AE}:∀y H Q,bx K (Am C m sp a t) y H Q->Cu C m (aN K sp) [] E (bx K a) (lq K t) y H Q:=by
 rintro y H Q ⟨w,I,S,Qa,ok,env,q,bk⟩;refine⟨w,I,S,_,ok,env,q,λr S1 v O H1 u j i z=>?_⟩;obtain⟨n,ks,ds,er,Z,W,P⟩:=z;subst er;obtain⟨a,dx,fs,rfl,U,Y,X,hd⟩:=k7 j i Z;subst X;refine⟨a,dx,fs,rfl,Y,fT fs W,O,I,S1,_,j,env.le u,P,λes S2 vs L H2 l F e q2=>?_⟩;refine⟨L,.loc n::es,S2,Qa,F,?_,q2,bk.le (u.trans l)⟩;rw[zbO];exact .cons (by simp only[Rep];exact⟨a,l.r _ _ U,rfl⟩) e
theorem cj{pl:Sem Bool}(q:GE X o ta)(c:wz X.K C)(D:cX X.prog X.w X.K X.mg X.base k C m ps sp)(l:aR k X.A)(y:GA X (e::es) t)(a:autoParam (yap (e::es) X.env=(false,eval e X.env)::yap es X.env) r0)(i:autoParam ((yav pos (yap es X.env)).any (·.1)=false) r0)(j:autoParam (eval (.Call (.Attribute o m apos) (e::es) [] pos) X.env=(do
   let ov <-eval o X.env
   standAt apos.atName
   let(f,first) <-holding [ov] (yaF ov m pl)
   yaB pos f first (yav pos (yap (e::es) X.env)) (yaH pos (yaG [] X.env)))) r0):
  GE X (.Call (.Attribute o m apos) (e::es) [] pos) (Am C m sp ta t):=by
 obtain⟨f,fd,F,n,u⟩:=D.ex;exact⟨mE (L2.cj q.p c n F l u .nil qx y.p a i j) Lp⟩
theorem jS{pl:Sem Bool}(P:GE X o ta)(c:wz X.K C)(D:cX X.prog X.w X.K X.mg X.base k C m ps sp)(y:aR k X.A)(L:autoParam (eval (.Call (.Attribute o m apos) [] [] pos) X.env=(do
   let ov <-eval o X.env
   standAt apos.atName
   let(f,first) <-holding [ov] (yaF ov m pl)
   yaB pos f first (yav pos (yap [] X.env)) (yaH pos (yaG [] X.env)))) r0):
  GE X (.Call (.Attribute o m apos) [] [] pos) (Am C m sp ta jx):=by
 obtain⟨f,fd,F,u,U⟩:=D.ex;exact⟨mE (L2.jS P.p c u F y U .nil qx L) λσ H Q h=>by
  obtain⟨w,z,S,Qa,ok,env,q,bk⟩:=h;refine⟨w,z,S,_,ok,env,q,λr S1 v E H1 l i e j=>?_⟩;obtain⟨n,ks,ds,Z,Y,u,I⟩:=j;subst Z;obtain⟨a,dx,fs,rfl,y,W,O,hd⟩:=k7 i e Y;subst O;refine⟨a,dx,fs,rfl,W,fT fs u,E,[.loc n],S1,Qa,i,?_,I,bk.le l⟩;rw[zbT];exact .cons e .nil⟩
def Fv(C:Addr)(sp:AN)(t:AA):AE:=λe S Q=>t e S λi a=>sp (.loc a.length::i) (a++[some (.ins C [] [])]) λr j=>r=.dat .aY/\Q (.dat (.loc a.length)) j
def Nq:AS:=λ_ _ _=>False
theorem dO:GS X st Nq:=⟨mS L2.dO λD a H h=>by obtain⟨_,_,_,_,_,_,z,_⟩:=h;exact z.elim⟩
end
end M
namespace L2
open PySem PySem.Spec PyProof.Rows
open Builtin Builtin.Str
section
variable {w:yal}{t:Tok}
theorem CD{u:Tok}(e:(y.length==0)=false)(h:∀l k,l.map (·.1)=Txt.split x y->Q (.ref s.heap.objs.size) {s with heap:=s.heap.push {cls:=.type "list",data:=.seq (strValues l).toArray},toks:=k})(hsz:x.length+2<=yah):
  yas (model prog w) A (call (.builtin "str.split") [.str x t,.str y u]) Q E s:=by
 have i:(partsBetween x (occurrences x y 0 x.length (x.length+1)) y.length).length<=yah:=by
  have j:=StrLaws.occ_length_le x y 0 x.length (x.length+1);rw[length_partsBetween];lia
 cases h1:(decide (x.length<y.length)||decide (strKind x<strKind y))
 ·cases a:(occurrences x y 0 x.length (x.length+1)).isEmpty
  ·refine call_meets PySem.F.slot_str_split (typeIs_str _ _ _) PySem.F.entry_str_split (PySem.F.args_str_split_2 _ _) (meets_str_split_sep x y t u h1 e a (by lia) i) ?_;show wants Q E _ {s with toks:=_,heap:=s.heap.push {cls:=.type "list",data:=.seq (strsFrom s.toks (partsBetween x (occurrences x y 0 x.length (x.length+1)) y.length)).toArray}};rw[strsFrom_eq];exact h (numbered s.toks _) _ ((numbered_texts _ _).trans ((yIn (ne_true_of_eq_false h1)).trans (yIn (ne_true_of_eq_false a))).symm)
  ·exact call_meets PySem.F.slot_str_split (typeIs_str _ _ _) PySem.F.entry_str_split (PySem.F.args_str_split_2 _ _) (meets_str_split_not_found x y t u h1 e a)
    (h [(x,t)] s.toks ((yIn (ne_true_of_eq_false h1)).trans (yIp a)).symm)
 ·exact call_meets PySem.F.slot_str_split (typeIs_str _ _ _) PySem.F.entry_str_split (PySem.F.args_str_split_2 _ _) (meets_str_split_cannot_occur x y t u h1)
   (h [(x,t)] s.toks (yIp h1).symm)
end
theorem i8:∀l:List (Str×Tok),Vals ((l.map (·.1)).map V.str) (strValues l)
 |[]=>.nil
 |p::r=>.cons ⟨p.2,rfl⟩ (i8 r)
theorem DW:FZ X "str.split" (λx vs H Q=>∃y z,x=.str y/\vs=[.str z]/\(z.length==0)=false/\y.length+2<=yah/\∀p,H p=none->Q (.ref p) (upd H p (.lst ((Txt.split y z).map V.str)))):=by
 intro a s n H x vs v C Q I i j h;obtain⟨y,z,rfl,rfl,hz,m,q⟩:=h;obtain⟨t,rfl⟩:=i;obtain⟨u,rfl,ru⟩:=vals1 j;obtain⟨E,rfl⟩:=ru;refine CD hz (λl k e=>?_) m;refine⟨.ref s.heap.objs.size,_,I.laid (t':=k) (o:=.lst ((Txt.split y z).map V.str)) (λb o e=>zar _ e) (zcS _) ⟨?_,strValues l,_,by rw[<-e];exact i8 l,zaM _ rfl⟩,rfl,q _ (I.hok.fresh (zcS _))⟩;rw[zbN];have:=split_le y z;lia
theorem EV{c:Nat}:∀{a b r e:List Nat},c ∉ a->c ∉ b->a++c::r=b++c::e->a=b/\r=e
 |[],[],_,_,_,_,h=>by simpa using h
 |[],y::b,_,_,_,hb,h=>by
  simp at h;exact absurd h.1 (λz=>hb (by simp[z]))
 |x::a,[],_,_,ha,_,h=>by
  simp at h;exact absurd h.1 (λz=>ha (by simp[z]))
 |x::a,y::b,_,_,ha,hb,h=>by
  simp at h;obtain⟨h1,h2⟩:=EV (λz=>ha (by simp[z])) (λz=>hb (by simp[z])) h.2;exact⟨by rw[h.1,h1],h2⟩
theorem ck(x y:Str):(x++y).cps.toList=x.cps.toList++y.cps.toList:=by
 show(x.cps++y.cps).toList=_;simp
theorem u5{c:Nat}:∀{xs ys:List Str},xs≠[]->ys≠[]->(∀x∈xs,c ∉ x.cps.toList)->(∀x∈ys,c ∉ x.cps.toList)->(Str.join ⟨#[c]⟩ xs).cps.toList=(Str.join ⟨#[c]⟩ ys).cps.toList->xs=ys
 |[],_,h,_,_,_,_=>absurd rfl h
 |_,[],_,h,_,_,_=>absurd rfl h
 |[x],[y],_,_,_,_,h=>by
  have h:x.cps.toList=y.cps.toList:=h;rw[Str.ext' (zbI.mp h)]
 |[x],y::z::r,_,_,hx,_,h=>by
  have h:x.cps.toList=(y++⟨#[c]⟩++Str.join ⟨#[c]⟩ (z::r)).cps.toList:=h;rw[ck,ck] at h;exact absurd (by rw[h];simp) (hx x (by simp))
 |x::z::r,[y],_,_,_,hy,h=>by
  have h:(x++⟨#[c]⟩++Str.join ⟨#[c]⟩ (z::r)).cps.toList=y.cps.toList:=h;rw[ck,ck] at h;exact absurd (by rw[<-h];simp) (hy y (by simp))
 |x::z::r,y::a::r',_,_,hx,hy,h=>by
  have h:(x++⟨#[c]⟩++Str.join ⟨#[c]⟩ (z::r)).cps.toList=(y++⟨#[c]⟩++Str.join ⟨#[c]⟩ (a::r')).cps.toList:=h;rw[ck,ck,ck,ck] at h;have h:x.cps.toList++c::(Str.join ⟨#[c]⟩ (z::r)).cps.toList=y.cps.toList++c::(Str.join ⟨#[c]⟩ (a::r')).cps.toList:=by simpa using h
  obtain⟨h1,h2⟩:=EV (hx x (by simp)) (hy y (by simp)) h;rw[Str.ext' (zbI.mp h1),u5 (by simp) (by simp) (λw hw=>hx w (by simp only[zcn] at hw⊢;exact .inr hw)) (λw hw=>hy w (by simp only[zcn] at hw⊢;exact .inr hw)) h2]
theorem nv(i:ws≠[])(h:∀x∈ws,(32:Nat) ∉ x.cps.toList):Txt.split (Txt.join " " ws) " "=ws:=by
 have e:(" ":Str)=⟨#[32]⟩:=by decide+kernel
 have j:Txt.join " " ws=Str.join ⟨#[32]⟩ ws:=by rw[e];exact PySem.StrLaws.glued_eq_join _ _
 rw[j,e];refine u5 (c:=32) (λz=>?_) i (λx a=>PySem.StrLaws.split_free _ 32 x a) h ?_
 ·have:=split_pos (Str.join ⟨#[32]⟩ ws) ⟨#[32]⟩;rw[z] at this;simp at this
 ·rw[PySem.StrLaws.join_split]
end L2
namespace M
open PySem PySem.Spec PyProof.Rows L2
def Nl:AM:=λx a S Q=>∃y z:Str,x=.str y/\a=[.str z]/\(z.length==0)=false/\y.length+2<=yah/\Q (.new (.lst ((Txt.split y z).map D.str))) S
theorem m_split:Qu X "str.split" Nl:=⟨mM L2.DW λx xs H Q h=>by
 obtain⟨w,d,m,S,n,ok,j,i,⟨y,z,rfl,rfl,hz,l,q⟩,bk⟩:=h;obtain⟨v,rfl,e⟩:=dw i;refine⟨y,z,c8 j rfl,by rw[c8 e rfl],hz,l,λp a=>?_⟩;exact bk (.new (.lst _)) S _ w _ .refl (ok.alloc a) (ok.fresh a ⟨_,rfl,eE _⟩) q⟩
end M
namespace Srt
open PySem PySem.W PyProof.Rows
structure Ord(α:Type) where
 lt:α->α->Bool
 irr:∀a,lt a a=false
 tr:∀a b c,lt a b=true->lt b c=true->lt a c=true
 nt:∀a b c,lt a c=true->lt a b=true∨lt b c=true
noncomputable def run{e:Type}(f:Nat->Nat->Bool):KasT e->e
 |.ret a=>a
 |.ask i j k=>run f (k (f i j))
section
variable {α:Type}(O:Ord α)
def le(a b:α):Prop:=O.lt b a=false
variable {O}
end
section
variable {α:Type}{O:Ord α}{k:Nat->α}{p:Array Nat}
noncomputable def val(k:Nat->α)(p:Array Nat)(i:Nat):α:=k (p.getD i 0)
variable (O k)
def Up(p:Array Nat)(m:Nat):Prop:=∀i j,i<=j->j<m->le O (val k p i) (val k p j)
noncomputable abbrev ask(i j:Nat):Bool:=O.lt (k i) (k j)
variable {O k}
end
end Srt
namespace M5
open PySem PySem.Spec PyProof.Rows
theorem uX(t:SetTable)(es:Array (Int×yaj))(h:Int)(x:yaj):(layNew t es h x).2.1.led=t.led/\((layNew t es h x).2.1.plain=true->t.plain=true):=by
 unfold layNew;split
 ·unfold SetTable.orStandIn;dsimp only;split
  ·exact⟨rfl,λz=>z⟩
  ·exact⟨rfl,λz=>by cases z⟩
 ·exact⟨rfl,λz=>by cases z⟩
theorem lI{t t':SetTable}{a:Array Int}{o:Array Nat}(h:t.relaid a n=some (t',o)):t'.led=t.led/\t'.plain=t.plain:=by
 unfold SetTable.relaid SetTable.laid at h;cases e:SetTable.layClean (SetTable.sizeAbove n - 1) a with
 |none=>rw[e] at h;cases h
 |some ow=>
  rw[e] at h;have h:some _=some _:=h;injection h with h;injection h with h1 h2;subst h1;exact⟨rfl,rfl⟩
theorem pW(t:SetTable)(es:Array (Int×yaj))(n:Nat):(relayAll t es n).2.1.led=t.led/\((relayAll t es n).2.1.plain=true->t.plain=true):=by
 unfold relayAll;split
 ·rename_i i a e;dsimp only;split
  ·exact⟨(lI e).1,λz=>by rw[<-(lI e).2];exact z⟩
  ·exact⟨rfl,λz=>by cases z⟩
 ·exact⟨rfl,λz=>by cases z⟩
def SA(prog:yak)(w:yal)(o:Obj)(S:List Str):Prop:=
 ∃a i t,o.ExactSet/\o.data=.set a i t/\ElemsOf (PySem.strKind prog w) a.toList/\(a.toList.map λe=>strOf e.2).Perm S/\t.fits a.size=true/\t.led=(!w.params.followText "set-order")/\(a.size≠0->t.plain=false)
def Cd(prog:yak)(w:yal)(h:Heap)(a:Addr)(S:List Str):Prop:=∃o,h.get? a=some o/\SA prog w o S
noncomputable def l6(S:List Str)(x:Str):List Str:=if x∈S then S else S++[x]
section
variable {w:yal}
theorem R3(x:Str)(t:Tok):(PySem.strKind prog w).is x (.str x t)=true:=by
 show Value.isStrOf x (.str x t)=true;simp[Value.isStrOf]
theorem CC{v:yaj}(h:(PySem.strKind prog w).is x v=true):strOf v=x:=by
 obtain⟨t,rfl⟩:=Value.isStrOf_shape h;rfl
theorem yH{h:Heap}{o:Obj}{es:Array (Int×yaj)}{t:SetTable}(i:Array (Int×yaj))(t':SetTable)(j:h.get? a=some o)(hd:o.data=.set es ep t):
  (h.update a (Obj.putSet i t')).get? a=some {o with data:=.set i (ep+1) t'}:=by
 have e:=zaz (Obj.putSet i t') j;rw[putSet_of i t' hd] at e;exact e rfl
theorem add_str{S:List Str}{tk:Tok}{Q:Bool->yai->Prop}(hS:Cd prog w s.heap a S)(hn:S.length+1<4096)(h:∀b h',Heap.SameBut a s.heap h'->Cd prog w h' a (l6 S x)->Q b {s with heap:=h'}):
  yas (model prog w) A (setAddHashed a (.str x tk) ((PySem.strKind prog w).hash x)) Q E s:=by
 obtain⟨o,ho,H,ep,t,W,hd,y,hp,hf,u,hpl⟩:=hS;have ac:H.size=S.length:=by rw[<-hp.length_eq,zbN,zaK]
 have hb:H.size<scanBound:=by show H.size<4096;lia
 unfold setAddHashed;unfold setAddHashedIn;refine yad (yaa (wpAny_setState_of ho hd hf ?_));dsimp only;rw[byScan_of (x:=.str x tk) rfl hb y,yIp rfl];unfold setAddByScan;refine yaa (yaa (wpAny_rule (yaa (wpAny_setScan_of (k:=x) (R3 x tk) ho hd hf y ?_))));cases hr:List.findIdx? (λe=>(PySem.strKind prog w).is x e.2) H.toList with
 |some j=>
  obtain⟨hj,hpj,_⟩:=List.findIdx?_eq_some_iff_getElem.mp hr;have Y:x∈S:=hp.mem_iff.mp (zcE.mpr ⟨_,zbB hj,CC hpj⟩);dsimp only;refine yab (yab ?_);have q:=h false s.heap (Heap.SameBut.refl a s.heap) (by
   unfold l6;rw[yIp Y];exact⟨o,ho,H,ep,t,W,hd,y,hp,hf,u,hpl⟩)
  exact q
 |none=>
  have Y:x ∉ S:=λY=>by
   obtain⟨e,he,z⟩:=zcE.mp (hp.mem_iff.mpr Y);obtain⟨⟨k,hk,_⟩,_⟩:=y e he;rw[CC hk] at z;subst z;have:=List.findIdx?_eq_none_iff.mp hr e he;rw[hk] at this;cases this
  dsimp only;have n:=layNew_perm t H ((PySem.strKind prog w).hash x) (.str x tk);have F:=layNew_fits t H ((PySem.strKind prog w).hash x) (.str x tk);have C:=uX t H ((PySem.strKind prog w).hash x) (.str x tk);generalize layNew t H ((PySem.strKind prog w).hash x) (.str x tk)=L at n F C⊢;obtain⟨i,t1,wd,gv⟩:=L;dsimp only at n F C⊢;rw[zbo] at n;have O:ElemsOf (PySem.strKind prog w) i.toList:=(y.push (R3 x tk) rfl).perm n;have P:(i.toList.map λe=>strOf e.2).Perm (S++[x]):=by
   refine(n.map _).trans ?_;rw[zbU];exact hp.append_right [x]
  have I:i.size=S.length+1:=by rw[<-zaK,<-zbN (f:=λe:Int×yaj=>strOf e.2),P.length_eq,zaO];rfl
  have gw:∀(b:Bool){m:yai}{Q':Unit->yai->Prop},Q' () m->yas (model prog w) A (match b with|true=>rule "set.scan.the-table-gave-way"|false=>pure ()) Q' E m:=by
   intro b m Q' q;cases b
   ·exact yab q
   ·exact wpAny_rule q
  refine yaa (gw _ ?_);have fin:∀(l:SetTable),l.fits i.size=true->l.led=t.led->l.plain=false->yas (model prog w) A (do
    storeSet a i l
    if(!wd&&l.tooFull)=true then do
      (match(relayAll l i (SetTable.grown i.size)).2.2 with|true=>rule "set.scan.the-table-gave-way"|false=>pure ())
      storeSet a (relayAll l i (SetTable.grown i.size)).1 (relayAll l i (SetTable.grown i.size)).2.1
      pure (some true)
     else pure (some true)) (λr s'=>r=some true/\Q true s') E s:=by
   intro l f2 l2 p2;refine yaa (wpAny_storeSet_of ho hd ?_ (by rw[I,yag];lia));have U:=yH i l ho hd;have Z:=Heap.SameBut.update s.heap a (Obj.putSet i l);split
   ·have rp:=relayAll_perm l i (SetTable.grown i.size);have rf:=relayAll_fits l i (SetTable.grown i.size);have rk:=pW l i (SetTable.grown i.size);generalize relayAll l i (SetTable.grown i.size)=Rl at rp rf rk⊢;obtain⟨X,t3,g2⟩:=Rl;dsimp only at rp rf rk⊢;have ab:X.size=i.size:=by rw[<-zaK,rp.length_eq,zaK]
    refine yaa (gw _ ?_);refine yaa (wpAny_storeSet_of U rfl ?_ (by rw[ab,I,yag];lia));refine yab ⟨rfl,h true _ (Z.trans (Heap.SameBut.update _ a _)) ⟨_,yH X t3 U rfl,X,_,t3,W,rfl,O.perm rp,?_,rf,rk.1.trans (l2.trans u),λ_=>?_⟩⟩
    ·unfold l6;rw[yIn Y];exact(rp.map _).trans P
    ·cases hh:t3.plain with
     |false=>rfl
     |true=>rw[rk.2 hh] at p2;cases p2
   ·refine yab ⟨rfl,h true _ Z ⟨_,U,i,_,l,W,rfl,O,?_,f2,l2.trans u,λ_=>p2⟩⟩;unfold l6;rw[yIn Y];exact P
  cases hpt:t1.plain with
  |true=>
   rw[yIp rfl];refine yaa ?_;rw[hashByValue_scannable 8 (x:=.str x tk) rfl];refine yab ?_;refine yac (fin _ ?_ ?_ ?_) ?_ (λ_ _ z=>z)
   ·rw[yIn (by simp[plainKind])];exact SetTable.fits_plain_off F
   ·rw[yIn (by simp[plainKind])];exact C.1
   ·rw[yIn (by simp[plainKind])]
   ·rintro r s' ⟨rfl,q⟩;exact yab q
  |false=>
   rw[yIn (by decide)];refine yaa (yab ?_);refine yac (fin _ ?_ ?_ ?_) ?_ (λ_ _ z=>z)
   ·rw[yIp rfl];exact F
   ·rw[yIp rfl];exact C.1
   ·rw[yIp rfl];exact hpt
   ·rintro r s' ⟨rfl,q⟩;exact yab q
end
noncomputable def all1(val:Nat->Str):Nat->List Str
 |0=>[]
 |i+1=>l6 (all1 val i) (val i)
theorem Fp(S:List Str)(x:Str):(l6 S x).length<=S.length+1:=by
 unfold l6;split
 ·simp
 ·rw[zaO];exact zcS _
theorem pH(val:Nat->Str):∀i,(all1 val i).length<=i
 |0=>zcS _
 |i+1=>zcH (Fp ..) (Nat.succ_le_succ (pH val i))
theorem Cd.keep{w:yal}{h:Heap}{S:List Str}(x:Cd prog w h a S)(e:∀o,h.get? a=some o->h'.get? a=some o):Cd prog w h' a S:=
 by obtain⟨o,i,r⟩:=x;exact⟨o,e o i,r⟩
section
variable {w:yal}{R:Result->yai->Prop}{I:Addr}{wr:List Addr}{G:Array yax->Array yax->Prop}{P:Nat->yaj->Prop}{St:Nat->yai->Prop}
theorem Ed(W:WalksS prog w A.in1 I fp wr G n P St)(a:Addr)(Y:a ∉ fp)(val:Nat->Str)(l:∀i v,P i v->∃t,v=.str (val i) t)(hn:n<4000):
  ∀(k i:Nat)(s:yai),n - i=k->i<=n->St i s->Cd prog w s.heap a (all1 val i)->
   (∀s',Moved (a::wr) G s s'->Cd prog w s'.heap a (all1 val n)->R (.ok (.ret .none)) s')->
   codeAny (model prog w) A (.builtin "set.update.loop" ⟨[.ref a,.ref I],[]⟩) R s:=by
 have E:a ∉ wr:=λz=>Y (W.sub _ z);have sub:∀b∈wr,b∈a::wr:=λb z=>zaA _ z;intro k
 induction k with
 |zero=>
  intro i s Z hi j U X;obtain rfl:i=n:=by lia
  refine codeAny_builtin PyProof.Rows.F.entry_set_update_loop ?_;rw[Around.under_plainId PyProof.Rows.F.plain_set_update_loop _];show yas _ A.in1 (pyNext (.ref I) >>= _) _ _ s;refine yaa (W.done s _ _ j λs' y=>?_);exact yab (X s' (y.mono sub) (U.keep λo e=>y.heap a o E e))
 |succ k ih=>
  intro i s Z hi j U X;have C:i<n:=by lia
  refine codeAny_builtin PyProof.Rows.F.entry_set_update_loop ?_;rw[Around.under_plainId PyProof.Rows.F.plain_set_update_loop _];show yas _ A.in1 (pyNext (.ref I) >>= _) _ _ s;refine yaa (W.item i s _ _ C j λv s' hP m y=>?_);obtain⟨t,rfl⟩:=l i v hP;have S:Cd prog w s'.heap a (all1 val i):=U.keep λo e=>y.heap a o E e;show yas _ A.in1 (holding [Value.str (val i) t] (setAdd a (.str (val i) t)) >>= _) _ _ s';refine yaa (yad ?_);unfold setAdd;refine yad (yaa ((PySem.strKind prog w).pyHash (k:=val i) (R3 _ _) ?_));have:=pH val i;refine add_str (s:={s' with toks:=s'.toks+1}) S (by lia) λb h' q Q=>?_;refine yab ⟨plainId_quiet PyProof.Rows.F.plain_set_update_loop _,ih (i+1) _ (by (try clear hn hi;lia)) C (W.frame _ s' _ _ m (zcU _) λb O o e=>?_) Q λL u H=>?_⟩
  ·rw[q.2 b λz:b=a=>Y (z▸O)];exact e
  ·refine X L (Moved.trans W.gtrans ((y.mono sub).then_heap (zcU _) λb o O e=>?_) u) H;rw[q.2 b λz:b=a=>O (z▸zaN)];exact e
end
noncomputable def b8(a:Bool):Obj:={cls:=.type "set",dict:=none,data:=.set #[] 0 (.fresh 0 0 a)}
section
variable {w:yal}
theorem jF(a:yaj){Q₁:yaj->yai->Prop}(h:Q₁ (.ref s.heap.objs.size) {s with heap:=s.heap.push (b8 (!w.params.followText "set-order"))}):
  codeAny (model prog w) A (.call (.builtin "set.__new__") ⟨[.type "set",a],[]⟩) (wants Q₁ E) s:=by
 refine codeAny_of_tree ?_;show yas _ A.in1 (do checkBuiltinCall "set.__new__" ⟨[.type "set",a],[]⟩;again (.builtin "set.__new__" ⟨[.type "set",a],[]⟩)) _ _ s;refine yaa (wpAny_of_eq (PySem.F.newCall_set_1 a) (yab ⟨plainId_quiet PySem.F.plain_set_new _,codeAny_builtin PySem.F.entry_set_new ?_⟩));rw[Around.under_plainId PySem.F.plain_set_new _];unfold Builtin.«set.__new__» Builtin.Frozenset.newClass;have e:=sub_set_self;obtain⟨i,g,d,tk,os⟩:=s;dsimp only
 wp_walk
 refine wpAny_askSetting (yab ?_);dsimp only;simp only[newObj];refine yaa (wpAny_alloc (yab ?_));exact yab h
theorem BP{h:Heap}(e:h.get? a=some (b8 (!w.params.followText "set-order"))):Cd prog w h a []:=
 ⟨_,e,#[],0,_,⟨rfl,rfl,rfl⟩,rfl,λe i=>by simp at i,.nil,rfl,rfl,λz=>absurd rfl z⟩
theorem E4{l:Addr}{T:String}{ob:Obj}{P:Nat->yaj->Prop}{St:Addr->Nat->Heap->Prop}{val:Nat->Str}(hh:A.handled=none)(hT:s.TypeIs (.ref l) T)(h1:isSubtype (.type T) (.type "set")=pure false)(h2:isSubtype (.type T) (.type "frozenset")=pure false)(h3:(Value.type T==Value.type "dict")=false)(it:∀{A':yam}{s':yai}{Q':yaj->yai->Prop}{E':yaj->yai->Prop},(∀b o,s.heap.get? b=some o->s'.heap.get? b=some o)->Q' (.ref s'.heap.objs.size) {s' with heap:=s'.heap.push ob}->yas (model prog w) A' (pyIter (.ref l)) Q' E' s')(hob:ob.isFreed=false)(W:∀{A':yam}(I:Addr),A'.handled=none->l≠I->Walks prog w A' I [I,l] [I] n P (St I))(X:∀I h',(∀b o,s.heap.get? b=some o->h'.get? b=some o)->h'.get? I=some ob->St I 0 h')(O:∀i v,P i v->∃t,v=.str (val i) t)(hn:n<4000)(h:∀(h':Heap)(tk:Nat),Cd prog w h' s.heap.objs.size (all1 val n)->(∀b o,b<s.heap.objs.size->s.heap.get? b=some o->h'.get? b=some o)->Q (.ref s.heap.objs.size) {s with heap:=h',toks:=tk}):
  yas (model prog w) A (call (.type "set") [.ref l]) Q E s:=by
 obtain⟨c,tl,ad⟩:=PySem.F.called_set.mro;have ab:=PySem.F.called_set.made;have ac:=PySem.F.called_set.sub;have g1:=PySem.F.called_set.notType;have g2:=PySem.F.called_set.canCreate;have hct:=PySem.F.typeCall_set_1 (.ref l);refine yaL (codeAny_of_tree ?_);show yas _ _ (callAny (.type "set") _) _ _ _;refine yab ⟨Code.quiet_builtin _ (by decide+kernel),codeAny_builtin PySem.F.entry_type_call ?_⟩;rw[Around.under_plain (weight_type_call_type "set" [.ref l] []) rfl]
 repeat (any_goals (first|assumption|wp_step))
 generalize q:(!w.params.followText "set-order")=led;refine yay (jF (.ref l) (E:=E) (Q₁:=λu m=>u=.ref s.heap.objs.size/\m={s with heap:=s.heap.push (b8 led)}) ⟨rfl,by rw[q]⟩) λr m Z=>?_;cases r with
 |error e=>exact Z
 |ok fl=>
  cases fl with
  |ret u=>
   obtain⟨rfl,rfl⟩:=Z;have gS:(s.heap.push (b8 led)).get? s.heap.objs.size=some (b8 led):=zaM _ rfl;have tS:Shared.TypeIs {s with heap:=s.heap.push (b8 led)} (.ref s.heap.objs.size) "set":=⟨_,gS,rfl⟩
   have hli:=PySem.F.called_set.init.lookup;have hbi:=PySem.F.called_set.init.bind (.ref s.heap.objs.size)
   repeat (any_goals (first|assumption|wp_step))
   refine yay (codeAny_call_builtin (R:=wants (λr j=>r=.none/\∃h' tk,j={s with heap:=h',toks:=tk}/\Cd prog w h' s.heap.objs.size (all1 val n)/\(∀b o,b<s.heap.objs.size->s.heap.get? b=some o->h'.get? b=some o)) E) PySem.F.called_set.init.plain PySem.F.entry_set_init (check_set_init_1 tS ?_)) λH j a=>?_
   ·have y:l<s.heap.objs.size:=by obtain⟨o,ho,_⟩:=hT;exact zcP ho
    have kp:∀b o,s.heap.get? b=some o->(s.heap.push (b8 led)).get? b=some o:=λb o e=>zar _ e;have tl1:Shared.TypeIs {s with heap:=s.heap.push (b8 led)} (.ref l) T:=by obtain⟨o,ho,z⟩:=hT;exact⟨o,kp _ _ ho,z⟩
    unfold Builtin.«set.__init__» noKeywords Builtin.Frozenset.updateFrom;generalize hPI:pyIter=PI
    wp_walk
    subst hPI;refine it kp ?_;have sz:(s.heap.push (b8 led)).objs.size=s.heap.objs.size+1:=zcm ..;have L:∀b o,s.heap.get? b=some o->((s.heap.push (b8 led)).push ob).get? b=some o:=λb o e=>zar _ (kp b o e);have hne:l≠(s.heap.push (b8 led)).objs.size:=by rw[sz];exact zcG (zbn y)
    have hSf:s.heap.objs.size ∉ [(s.heap.push (b8 led)).objs.size,l]:=by
     rw[sz];simp only[zcn,zbC,or_false];rintro(z|z)
     ·exact absurd z (by simp)
     ·rw[z] at y;exact zct _ y
    refine yaa (wpAny_runValue ?_);refine Ed (W (A':=A.in1.in1.in1) _ hh hne).toS s.heap.objs.size hSf val O hn (n - 0) 0 _ rfl (zcT _) ?_ ?_ ?_
    ·exact X _ _ L (zaM _ hob)
    ·exact BP (by rw[q];exact zar _ gS)
    ·intro s' S C;obtain⟨h',g',d',U,Y⟩:=s';obtain rfl:g'=s.gens:=S.gens;obtain rfl:d'=s.drawn:=S.drawn;obtain rfl:Y=s.os:=S.os;refine yab (yab ⟨rfl,h',U,rfl,C,λb o hb e=>S.heap b o ?_ (L b o e)⟩);rw[sz];simp only[zcn,zbC,or_false];rintro(z|z)
     ·exact zcG hb z
     ·exact zcG (zbn hb) z
   ·cases H with
    |error e=>exact a
    |ok fl₂=>
     cases fl₂ with
     |ret r=>
      obtain⟨rfl,h',tk,rfl,C,hk'⟩:=a
      repeat (any_goals (first|assumption|wp_step))
      exact h _ _ C hk'
     |_=>exact a.elim
  |_=>exact Z.elim
theorem set_list{l:Addr}(y:A.handled=none)(j:s.heap.IsList l its)(m:StrsAre its.toList ss)(u:ss.length<4000)(h:∀(h':Heap)(tk:Nat),Cd prog w h' s.heap.objs.size (all1 (λi=>ss.getD i ⟨#[]⟩) ss.length)->(∀b o,b<s.heap.objs.size->s.heap.get? b=some o->h'.get? b=some o)->Q (.ref s.heap.objs.size) {s with heap:=h',toks:=tk}):
  yas (model prog w) A (call (.type "set") [.ref l]) Q E s:=by
 have el:its.size=ss.length:=by rw[<-zaK,m.length]
 rw[<-el] at h;refine E4 (T:="list") (St:=λI i h=>h.IsListIter I l i/\h.IsList l its) (ob:={cls:=.type "list_iterator",data:=.fields #[.ref l,.int 0 0]}) (P:=λi v=>its[i]? =some v) y j.typeIs PySem.F.sub_list_set PySem.F.sub_list_frozenset (by decide) (λkp q=>wpAny_pyIter_list (j.at (kp l)) q) rfl (λI h1 h2=>Walks.list h1 I l h2 its)
  (λI h' kp e=>⟨⟨_,e,rfl,rfl⟩,j.at (kp l)⟩) ?_ (by lia) h
 intro i v a;rw[<-zax] at a;clear h;revert i;generalize its.toList=vs at m;clear el u
 induction m with
 |nil=>intro i a;simp at a
 |cons x t r ih=>
  intro i a;cases i with
  |zero=>simp at a;exact⟨t,by rw[<-a];rfl⟩
  |succ i=>
   rw[zam] at a;obtain⟨n,e⟩:=ih i a;exact⟨n,e⟩
end
theorem D4{S:List Str}:y∈l6 S x↔y∈S∨y=x:=by
 unfold l6;split
 ·exact⟨.inl,λz=>z.elim id λe=>e▸‹_›⟩
 ·simp
theorem xF{S:List Str}(h:S.Nodup):(l6 S x).Nodup:=by
 unfold l6;split
 ·exact h
 ·rw[zbi];refine⟨h,by simp,λa j b i=>?_⟩;simp only[zaS] at i;subst i;intro e;subst e;exact absurd j ‹_›
theorem oB(val:Nat->Str):∀n,(all1 val n).Nodup
 |0=>List.nodup_nil
 |n+1=>xF (oB val n)
theorem uP(val:Nat->Str)(y:Str):∀n,y∈all1 val n↔∃i,i<n/\val i=y
 |0=>by simp[all1]
 |n+1=>by
  show y∈l6 _ _↔_;rw[D4,uP val y n];constructor
  ·rintro(⟨i,h,e⟩|e)
   ·exact⟨i,by lia,e⟩
   ·exact⟨n,by simp,e.symm⟩
  ·rintro⟨i,h,e⟩;rcases zcJ i n with z|z
   ·exact .inl ⟨i,z,e⟩
   ·obtain rfl:i=n:=by lia
    exact .inr e.symm
theorem Bm(ss:List Str)(y:Str):y∈all1 (λi=>ss.getD i ⟨#[]⟩) ss.length↔y∈ss:=by
 rw[uP];constructor
 ·rintro⟨i,h,e⟩;have:ss.getD i ⟨#[]⟩=ss[i]:=by simp[h]
  rw[this] at e;exact e▸zbB h
 ·intro h;obtain⟨i,h1,e⟩:=zaI h;exact⟨i,h1,by simp[h1,e]⟩
end M5
namespace M
open PySem PySem.Spec PyProof.Rows L2
noncomputable def pA(ks:List Key)(ds:List D)(k:Key):Option D:=((ks.zip ds).find? λp=>decide (p.1=k)).map (·.2)
noncomputable def kq(ks:List Key)(ds:List D)(k:Key)(d:D):MO:=if(ks.any λj=>decide (j=k))=true then .dct ks ((ks.zip ds).map λp=>if p.1=k then d else p.2) else .dct (ks++[k]) (ds++[d])
theorem zV{w:Wd}{k:Key}{d:D}:∀{kvs:List (Key×V)}{ds:List D},av K w ds (kvs.map (·.2))->pA (kvs.map (·.1)) ds k=some d->∃v,gQ kvs k=some v/\Rep K w d v
 |[],ds,h,e=>by simp[pA] at e
 |(j,u)::r,ds,h,e=>by
  cases ds with
  |nil=>simp[pA] at e
  |cons x ds=>
   simp only[zco,av] at h;obtain⟨l,m,i,h1,h2⟩:=h;injection i with e1 e2;subst e1;subst e2;unfold pA at e;unfold gQ;by_cases a:j=k
   ·rw[zco,zaR,List.find?_cons_of_pos (by simpa using a)] at e;rw[List.find?_cons_of_pos (by simpa using a)];cases e;exact⟨u,rfl,h1⟩
   ·rw[zco,zaR,List.find?_cons_of_neg (by simpa using a)] at e;rw[List.find?_cons_of_neg (by simpa using a)];exact zV (kvs:=r) h2 e
theorem uy{w:Wd}{k:Key}{d:D}{v:V}(g:Rep K w d v):∀{kvs:List (Key×V)}{ds:List D},av K w ds (kvs.map (·.2))->
  av K w (((kvs.map (·.1)).zip ds).map λp=>if p.1=k then d else p.2) ((kvs.map λe=>if e.1=k then(e.1,v) else e).map (·.2))
 |[],ds,h=>by
  cases ds with
  |nil=>exact .nil
  |cons x ds=>simp only[zcB,av] at h;obtain⟨_,_,z,_⟩:=h;cases z
 |(j,u)::r,ds,h=>by
  cases ds with
  |nil=>simp only[zco,av] at h;cases h
  |cons x ds=>
   simp only[zco,av] at h;obtain⟨l,m,i,h1,h2⟩:=h;injection i with e1 e2;subst e1;subst e2;simp only[zco,zaR];refine .cons ?_ (uy g h2);by_cases a:j=k
   ·rw[yIp a,yIp a];exact g
   ·rw[yIn a,yIn a];exact h1
theorem uE{w:Wd}{k:Key}{d:D}{kvs:List (Key×V)}(g:Rep K w d v)(h:av K w ds (kvs.map (·.2))):jy K w (kq (kvs.map (·.1)) ds k d) (.dK (putK kvs k v)):=by
 unfold kq putK;have e:((kvs.map (·.1)).any λj=>decide (j=k))=(kvs.any λa=>decide (a.1=k)):=by
  rw[zcC];rfl
 rw[e];by_cases i:(kvs.any λa=>decide (a.1=k))=true
 ·rw[yIp i,yIp i];refine⟨_,rfl,?_,uy g h⟩;rw[zcF];refine zaJ λa _=>?_;show(if a.1=k then(a.1,v) else a).1=a.1;split<;>rfl
 ·rw[yIn i,yIn i];refine⟨_,rfl,by simp,?_⟩;rw[zbU];exact h.snoc g
theorem ML{w:Wd}{p:Nat}{ks:List Key}(ok:Ok K w H S)(h:Rep K w (.loc p) v)(e:S[p]? =some (some (.dct ks ds))):
  ∃a kvs,v=.ref a/\w.r p=some a/\H a=some (.dK kvs)/\kvs.map (·.1)=ks/\av K w ds (kvs.map (·.2)):=by
 simp only[Rep] at h;obtain⟨a,h1,rfl⟩:=h;obtain⟨o,u,i,n,m,kvs,rfl,l,j⟩:=ok.live p _ e;rw[h1] at i;cases i;exact⟨a,kvs,rfl,h1,m,l,j⟩
section
variable {o i:Expr}{pc pu:Pos}
theorem OW:Th X (unaryOp .USub) (λx S Q=>∃i,x=.int i/\Q (.dat (.int (-i))) S):=⟨m1 KL λx H Q h=>by
 obtain⟨w,d,S,e,ok,a,⟨i,rfl,q⟩,bk⟩:=h;exact⟨i,bD a rfl,bk.dat .refl ok .int q⟩⟩
end
noncomputable def rq(K:yaM):List Str->List AE->List (TE×TE)
 |k::ks,a::as=>(tC (.str k),bx K a)::rq K ks as
 |_,_=>[]
theorem R8{w:Wd}(k:Ok K w H S)(e:S[m]? =some (some (.lst ds))):∃C,w.le C/\Ok K C H (S.set m none)/\∀v,Rep K w (.loc m) v->Rep K C (.lst ds) v:=by
 obtain⟨a,u,h1,h2,X,xs,rfl,W⟩:=k.live m _ e;have le:w.le ⟨upd w.B a (.lst xs),w.r⟩:=⟨al h2,λ_ _ e=>e⟩
 have at_:∀n o,(S.set m none)[n]? =some (some o)->n≠m/\S[n]? =some (some o):=λn o z=>by
  by_cases F:m=n
  ·subst F;rw[zbh] at z;simp at z
  ·rw[zaC F] at z;exact⟨λy=>F y.symm,z⟩
 refine⟨⟨upd w.B a (.lst xs),w.r⟩,le,⟨λb o z=>?_,λn o z=>?_,λn j o I Q P z=>?_,λn l=>k.top n (by rw[zbV] at l;exact l)⟩,λv L=>?_⟩
 ·by_cases O:b=a
  ·subst O;have z:upd w.B b (.lst xs) b=some o:=z;rw[aq] at z;rw[X];exact z
  ·have z:upd w.B a (.lst xs) b=some o:=z;rw[au O] at z;exact k.base b o z
 ·obtain⟨l,z⟩:=at_ n o z;obtain⟨q,U,i,g2,Z,Y⟩:=k.live n o z;have E:q≠a:=λy=>l (k.inj n m _ _ z e (by rw[i,h1,y]));exact⟨q,U,i,by show upd w.B a _ q=none;rw[au E];exact g2,Z,Y.le le⟩
 ·exact k.inj n j o I (at_ n o Q).2 (at_ j I P).2 z
 ·simp only[Rep] at L⊢;obtain⟨q,i,rfl⟩:=L;rw[h1] at i;cases i;exact⟨a,xs,rfl,aq,W.le le⟩
noncomputable def sb(m:Nat)(e:D):D->D
 |.loc n=>if n=m then e else .loc n
 |d=>d
theorem C2{w a:Wd}{m:Nat}{ds:List D}(le:w.le a)(f:∀v,Rep K w (.loc m) v->Rep K a (.lst ds) v):∀{es:List D}{xs:List V},av K w es xs->av K a (es.map (sb m (.lst ds))) xs
 |[],xs,h=>by simp only[av] at h;subst h;exact .nil
 |d::es,xs,h=>by
  simp only[av] at h;obtain⟨x,r,rfl,h1,h2⟩:=h;refine .cons ?_ (C2 le f h2);cases d with
  |loc n=>
   show Rep K a (if n=m then _ else _) x;by_cases e:n=m
   ·rw[yIp e];subst e;exact f x h1
   ·rw[yIn e];exact h1.le le
  |_=>exact h1.le le
def Nt(a:AE):AE:=λl S Q=>a l S λr j=>∃m i e,r=.dat (.tup e)/\j[m]? =some (some (.lst i))/\Q (.dat (.tup (e.map (sb m (.lst i))))) (j.set m none)
theorem OH{a:AE}:∀j H Q,bx K (Nt a) j H Q->bx K a j H Q:=by
 rintro j H Q ⟨w,y,S,X,ok,env,q,bk⟩;refine⟨w,y,S,_,ok,env,q,λr W v z Y u o e l=>?_⟩;obtain⟨m,U,L,O,F,C⟩:=l;subst O;have e:Rep K z (.tup L) v:=e;simp only[Rep] at e;obtain⟨t,xs,rfl,I,E⟩:=e;obtain⟨P,i,n,f⟩:=R8 o F;refine bk.dat (u.trans i) n ?_ C;simp only[Rep];exact⟨t,xs,rfl,ee.same i.b I,C2 i f E⟩
theorem S7{t:AE}(h:GE X e t):GE X e (Nt t):=⟨mE h.p OH⟩
end M
namespace M6
open PySem PySem.Spec PyProof.Rows
mutual
noncomputable def cy:yan->Bool
 |.int _=>true
 |.str x=>(PyData.str x).canLay0
 |.tuple xs=>eF xs
 |_=>false
noncomputable def eF:List yan->Bool
 |[]=>true
 |x::xs=>cy x&&eF xs
end
mutual
noncomputable def zS(w:yal):yan->Int
 |.int i=>hashInt i
 |.str x=>hashStr w x
 |.tuple xs=>reduceHash (Builtin.Tuple.tupleHashOf (iu w xs))
 |_=>0
noncomputable def iu(w:yal):List yan->List Int
 |[]=>[]
 |x::xs=>zS w x::iu w xs
end
mutual
noncomputable def Sd:yan->Nat
 |.int _=>1
 |.str _=>1
 |.tuple xs=>oZ xs+1
 |_=>0
noncomputable def oZ:List yan->Nat
 |[]=>0
 |x::xs=>Sd x+oZ xs
end
theorem jf(w:yal):∀a b,iu w (a++b)=iu w a++iu w b
 |[],b=>rfl
 |x::a,b=>by simp only[List.cons_append,iu,jf w a b]
theorem lQ:∀a b,oZ (a++b)=oZ a+oZ b
 |[],b=>by simp[oZ]
 |x::a,b=>by simp only[List.cons_append,oZ,lQ a b];lia
theorem g9:∀{xs:List yan},eF xs=true->∀x∈xs,cy x=true
 |[],_,x,a=>by simp at a
 |y::xs,h,x,a=>by
  simp only[eF,zbH] at h;rcases zcn.mp a with rfl|a
  ·exact h.1
  ·exact g9 h.2 x a
theorem dD:∀{xs:List yan}{x:yan},x∈xs->x.depth<=PyData.depthAll xs
 |y::xs,x,a=>by
  simp only[PyData.depthAll];rcases zcn.mp a with rfl|a
  ·lia
  ·have:=dD a;lia
theorem cD(xs:List yan):(PyData.tuple xs).depth=PyData.depthAll xs+1:=by
 simp only[PyData.depth]
section
variable {w:yal}
theorem iI{o:Obj}(e:s.heap.get? a=some o)(i:o.cls=Value.type "tuple"):s.TypeIs (.ref a) "tuple":=⟨o,e,i⟩
theorem uD:∀(n:Nat)(d:yan){v:yaj}{as:List Addr}{A:yam}{E:yaj->yai->Prop}{s:yai}{Q:Int->yai->Prop},d.depth<=n->cy d=true->Reads s.heap v d as->A.units+n<cLine->
  Q (zS w d) {s with toks:=s.toks+Sd d}->yas (model prog w) A (pyHash v) Q E s:=by
 intro n
 induction n with
 |zero=>
  intro d v as A E s Q hd j y L h;cases y with
  |int i t=>exact wpAny_pyHash_int h
  |str x t=>exact wpAny_pyHash_str h
  |tuple ho hc hd' hall=>rw[cD] at hd;lia
  |none=>simp[cy] at j
  |bool b=>simp[cy] at j
  |list _ _ _ _=>simp[cy] at j
  |dict _ _ _ _ _=>simp[cy] at j
 |succ n ih=>
  intro d v as A E s Q hd j y L h;cases y with
  |int i t=>exact wpAny_pyHash_int h
  |str x t=>exact wpAny_pyHash_str h
  |none=>simp[cy] at j
  |bool b=>simp[cy] at j
  |list _ _ _ _=>simp[cy] at j
  |dict _ _ _ _ _=>simp[cy] at j
  |@tuple a o vs m xs as ho hc hdat hall=>
   have O:=iI ho hc;have j:eF xs=true:=j;rw[cD] at hd;show yas (model prog w) A (pyHashByItsType (.ref a)) Q E s;refine W.pyHash_slot (T:="tuple") O F.slot_tuple_hash F.entry_tuple_hash (F.args_tuple_hash_1 (.ref a)) (by decide) (.inr (by lia)) ?_;show yas (model prog w) A.in1 (do
    let __do_lift <-Builtin.Tuple.tupleItemsOf (.ref a);let __s <-forIn __do_lift (#[]:Array Int) λx __s=>do
       let __do_lift <-pyHash x
       pure (ForInStep.yield (__s.push __do_lift))
    retInt (Builtin.Tuple.tupleHashOf __s.toList)) _ E s
   refine yaa (wpAny_tupleItemsOf ho hdat (yaa ?_));rw[<-Array.forIn_toList];refine wpAny_forIn_list _ (λrest b u=>∃e left l,xs=e++left/\ReadsAll s.heap rest left l/\b.toList=iu w e/\u={s with toks:=s.toks+oZ e}) _ ?_ ?_ vs.toList #[] ⟨[],xs,_,rfl,hall,rfl,rfl⟩
   ·rintro x rest b u ⟨e,left,l,rfl,C,H,rfl⟩;cases C with
    |@cons _ _ d' ds as1 bs hx hrest=>
     have I:d'∈e++d'::ds:=by simp
     refine yaa (ih d' (as:=as1) (s:={s with toks:=s.toks+oZ e}) (by have:=dD I;lia) (g9 j d' I) hx (by show A.units+1+n<cLine;lia) ?_);refine yab ⟨e++[d'],ds,bs,by simp,hrest,?_,?_⟩
     ·rw[zbo,H,jf];rfl
     ·rw[lQ];simp only[oZ,Nat.add_zero,Nat.add_assoc]
   ·rintro b u ⟨e,left,l,rfl,C,H,rfl⟩;cases C;rw[zbO] at h;rw[H];refine yac (wpAny_ret_mkInt (Q:=λv u=>∃n t,v=Value.int n t/\Q (reduceHash n) u) ⟨_,_,rfl,?_⟩) (λfin u=>?_) (λ_ _ z=>z)
    ·have h:Q (reduceHash (Builtin.Tuple.tupleHashOf (iu w e))) {s with toks:=s.toks+(oZ e+1)}:=h;exact h
    ·rintro⟨v,rfl,n,t,rfl,q⟩;exact⟨n,t,rfl,q⟩
theorem xu:∀(n:Nat)(d:yan){v:yaj}{as:List Addr}{A:yam}{E:yaj->yai->Prop}{s:yai}{Q:Bool->yai->Prop},d.depth<=n->cy d=true->Reads s.heap v d as->Q true s->yas (model prog w) A (eqIsQuiet n v) Q E s:=by
 intro n
 induction n with
 |zero=>
  intro d v as A E s Q hd e l h;cases l with
  |int i t=>rw[eqIsQuiet_byValue 0 rfl];exact yab h
  |str x t=>rw[eqIsQuiet_byValue 0 rfl];exact yab h
  |tuple ho hc hd' hall=>rw[cD] at hd;lia
  |none=>simp[cy] at e
  |bool b=>simp[cy] at e
  |list _ _ _ _=>simp[cy] at e
  |dict _ _ _ _ _=>simp[cy] at e
 |succ n ih=>
  intro d v as A E s Q hd e l h;cases l with
  |int i t=>rw[eqIsQuiet_byValue _ rfl];exact yab h
  |str x t=>rw[eqIsQuiet_byValue _ rfl];exact yab h
  |none=>simp[cy] at e
  |bool b=>simp[cy] at e
  |list _ _ _ _=>simp[cy] at e
  |dict _ _ _ _ _=>simp[cy] at e
  |@tuple a o vs m xs as ho hc hdat hall=>
   have I:=iI ho hc;have e:eF xs=true:=e;rw[cD] at hd;rw[eqIsQuiet.eq_def];refine yaa (wpAny_specialOf I F.slot_tuple_eq.lookup ?_);refine yaa (wpAny_isInstance I isSubtype_tuple_tuple ?_);rw[yIn (by decide)];refine yaa (wpAny_seqItems ho hdat (yaa ?_));show yas (model prog w) A (forIn vs _ _) _ E s;rw[<-Array.forIn_toList];refine wpAny_forIn_list _ (λrest r z=>r.1=none/\z=s/\∃left u,ReadsAll s.heap rest left u/\∀x∈left,x∈xs) _ ?_ ?_ vs.toList (none,()) ⟨rfl,rfl,xs,_,hall,λ_ q=>q⟩
   ·rintro y rest ⟨C,L⟩ z ⟨l,rfl,left,u,O,j⟩;cases O with
    |@cons _ _ d' ds as1 bs q hrest=>
     have H:d'∈xs:=j d' (by simp);refine yaa (ih d' (as:=as1) (by have:=dD H;lia) (g9 e d' H) q ?_);exact yab ⟨rfl,rfl,ds,bs,hrest,λx q=>j x (zaA _ q)⟩
   ·rintro⟨C,L⟩ z ⟨l,rfl,_⟩;have l:C=none:=l;subst l;exact yab h
end
noncomputable instance:DecidableEq yan:=λ_ _=>Classical.propDecidable _
mutual
theorem iQ:∀x y:yan,cy x=true->cy y=true->PyData.eqv x y=decide (x=y)
 |.int i,.int j,_,_=>by
  simp only[PyData.eqv];by_cases h:i=j
  ·subst h;simp
  ·have:¬PyData.int i=.int j:=λe=>h (by injection e);rw[yDf this];simpa using h
 |.str i,.str j,_,_=>by
  simp only[PyData.eqv];by_cases h:i=j
  ·subst h;simp
  ·have:¬PyData.str i=.str j:=λe=>h (by injection e);rw[yDf this];simpa using h
 |.tuple xs,.tuple ys,hx,hy=>by
  simp only[PyData.eqv];rw[vh xs ys hx hy];by_cases h:xs=ys
  ·subst h;simp
  ·have:¬PyData.tuple xs=.tuple ys:=λe=>h (by injection e);rw[yDf this,yDf h]
 |.int i,.str j,_,_=>by rw[yDf (λe=>nomatch e)];rfl
 |.int i,.tuple j,_,_=>by rw[yDf (λe=>nomatch e)];rfl
 |.str i,.int j,_,_=>by rw[yDf (λe=>nomatch e)];rfl
 |.str i,.tuple j,_,_=>by rw[yDf (λe=>nomatch e)];rfl
 |.tuple i,.int j,_,_=>by rw[yDf (λe=>nomatch e)];rfl
 |.tuple i,.str j,_,_=>by rw[yDf (λe=>nomatch e)];rfl
 |.none,_,h,_=>by simp[cy] at h
 |.bool _,_,h,_=>by simp[cy] at h
 |.list _,_,h,_=>by simp[cy] at h
 |.dict _,_,h,_=>by simp[cy] at h
 |_,.none,_,h=>by simp[cy] at h
 |_,.bool _,_,h=>by simp[cy] at h
 |_,.list _,_,h=>by simp[cy] at h
 |_,.dict _,_,h=>by simp[cy] at h
theorem vh:∀x y:List yan,eF x=true->eF y=true->PyData.eqvAll x y=decide (x=y)
 |[],[],_,_=>by simp[PyData.eqvAll]
 |[],y::ys,_,_=>by simp[PyData.eqvAll]
 |x::xs,[],_,_=>by simp[PyData.eqvAll]
 |x::xs,y::ys,hx,hy=>by
  simp only[eF,zbH] at hx hy;simp only[PyData.eqvAll];rw[iQ x y hx.1 hy.1,vh xs ys hx.2 hy.2];by_cases h:x=y<;>by_cases g:xs=ys<;>simp[h,g]
end
mutual
theorem jo:∀x:yan,cy x=true->x.canLay0=true
 |.int i,_=>rfl
 |.str i,h=>h
 |.tuple xs,h=>by simp only[PyData.canLay0];exact zK xs h
 |.none,h=>by simp[cy] at h
 |.bool _,h=>by simp[cy] at h
 |.list _,h=>by simp[cy] at h
 |.dict _,h=>by simp[cy] at h
theorem zK:∀x:List yan,eF x=true->PyData.canLayAll0 x=true
 |[],_=>rfl
 |x::xs,h=>by
  simp only[eF,zbH] at h;simp only[PyData.canLayAll0,jo x h.1,zK xs h.2,zcw]
end
def isKey(h:Heap)(d:yan)(a:Addr):Prop:=cy d=true/\d.depth<=6/\∃e,Reads h (.ref a) d e
mutual
theorem qu{h h':Heap}{b:Addr}{ob:Obj}{es:Array yaw}{ep:Nat}(n:h.get? b=some ob)(hd:ob.data=Data.dict es ep)(l:Heap.SameBut b h h'):∀(d:yan){v:yaj}{as:List Addr},cy d=true->Reads h v d as->Reads h' v d as
 |.int i,v,as,hk,hr=>by cases hr;exact .int ..
 |.str i,v,as,hk,hr=>by cases hr;exact .str ..
 |.tuple xs,v,as,hk,hr=>by
  cases hr with
  |@tuple a o vs m _ _ ho hc hdat hall=>
   have j:a≠b:=λe=>by
    subst e;rw[n] at ho;cases ho;rw[hd] at hdat;cases hdat
   exact .tuple (by rw[l.2 a j];exact ho) hc hdat (nR n hd l xs hk hall)
 |.none,_,_,h,_=>by simp[cy] at h
 |.bool _,_,_,h,_=>by simp[cy] at h
 |.list _,_,_,h,_=>by simp[cy] at h
 |.dict _,_,_,h,_=>by simp[cy] at h
theorem nR{h h':Heap}{b:Addr}{ob:Obj}{es:Array yaw}{ep:Nat}(e:h.get? b=some ob)(hd:ob.data=Data.dict es ep)(a:Heap.SameBut b h h'):∀(ds:List yan){vs:List yaj}{as:List Addr},eF ds=true->ReadsAll h vs ds as->ReadsAll h' vs ds as
 |[],vs,as,hk,hr=>by cases hr;exact .nil
 |d::ds,vs,as,hk,hr=>by
  simp only[eF,zbH] at hk;cases hr with
  |cons hx hr=>exact .cons (qu e hd a d hk.1 hx) (nR e hd a ds hk.2 hr)
end
noncomputable def kj(prog:yak)(w:yal):HeapKind prog w yan where
 is:=isKey
 hash:=zS w
 draws:=Sd
 room:=λA=>A.units+10<cLine
 inj:=λ⟨_,_,i,n⟩ ⟨_,_,bs,m⟩=>(Reads.unique n _ _ m).1
 keeps:=λ⟨h1,h2,i,e⟩ q hd l=>⟨h1,h2,i,qu q hd l _ h1 e⟩
 pyHash:=λo ⟨h1,h2,i,e⟩ h=>uD 6 _ h2 h1 e (by lia) h
 eqBool:=λ{A E s x y a b Q} o ⟨h1,h2,i,e⟩ ⟨j,z,bs,u⟩ h=>SeqAt.eqBoolOverData prog w A E s _ _ _ _ _ _ Q e u (jo _ h1) (jo _ j) (by lia) (by
  rw[iQ _ _ h1 j];exact h)
 quiet:=λ⟨h1,h2,i,e⟩ h=>xu 8 _ (by lia) h1 e h
def jz(h:Heap)(d:Addr)(es:Array yaw)(ep:Nat):Prop:=∃o,h.get? d=some o/\o.ExactDict/\o.data=Data.dict es ep
theorem jz.at{h:Heap}{d:Addr}{es:Array yaw}(x:jz h d es ep)(e:∀o,h.get? d=some o->h'.get? d=some o):jz h' d es ep:=by obtain⟨o,a,r⟩:=x;exact⟨o,e o a,r⟩
section
variable {w:yal}
theorem jz.typeIs{d:Addr}{es:Array yaw}(x:jz s.heap d es ep):s.TypeIs (.ref d) "dict":=by obtain⟨o,a,e,_⟩:=x;exact⟨o,a,e.1⟩
theorem nextK{it d:Addr}{es:Array yaw}{e:yaw}{Q:Option yaj->yai->Prop}(m:s.heap.IsKeyIter it d i es.size ep)(O:jz s.heap d es ep)(z:es[i]? =some e)(L:∀h',h'.IsKeyIter it d (i+1) es.size ep->Heap.SameBut it s.heap h'->Q (some e.key) {s with heap:=h'}):yas (model prog w) A (pyNext (.ref it)) Q E s:=by
 obtain⟨o,y,H,hd⟩:=id m;obtain⟨S,j,C,n⟩:=id O;have u:=Heap.IsKeyIter.typeIs m;unfold pyNext;refine yaa (wpAny_attempt (wpAny_callSpecial?_slot (name:=Str.ofString "__next__") u F.slot_dict_keyiterator_next (wpAny_call_entry F.slot_dict_keyiterator_next u F.entry_dict_keyiterator_next ?_ (F.args_dict_keyiterator_next_1 _))));unfold Builtin.«dict_keyiterator.__next__»;refine yaa (yab ?_);refine yaa ?_;refine yaa ?_;refine yaa (wpAny_typeNameOfWhole_keyiter u (yab ?_));have a:Builtin.Dict_items.ownsTuple "dict_keyiterator"=false:=by decide+kernel
 refine yaa (wpAny_fieldsOf y hd ?_);simp only[a,zaY,if_false,zcf];show yas (model prog w) A.in1 (if(Value.ref d==Value.none)=true then _ else _) _ _ s;rw[yIn (by exact zaX)];refine yaa (yab ?_);refine yaa (wpAny_dictEntries j n ?_);rw[yIn (by simp)];refine yaa (yab ?_);refine yaa (wpAny_dictEpoch j n ?_);rw[yIn (by simp)];refine yab ?_;dsimp only;rw[yIn (by lia),show((i:Int)).toNat=i from Int.toNat_natCast i,z];dsimp only;refine yaa (?_);refine yaa (wpAny_typeNameOfWhole_keyiter u (yab ?_));simp only[a,zaY,if_false];refine yaa (wpAny_isOneOf_keyiter u ?_);refine yaa (wpAny_setField y hd (by simp) ?_);have P:∀b:Bool,b=false->(if b=true then(i:Int) - 1 else(i:Int)+1)=((i+1:Nat):Int):=λb I=>by subst I;simp
 rw[P _ (by decide+kernel)];refine yaa (yad ?_);have l:=zaz (Obj.mapFields (·.setIfInBounds (0+1) (rawInt ((i+1:Nat):Int)))) y (Obj.isFreed_of_fields (Obj.data_mapFields hd _));have q:=(Obj.cls_mapFields o (·.setIfInBounds (0+1) (rawInt ((i+1:Nat):Int)))).trans H;refine yaa (wpAny_isOneOf_keyiter ⟨_,l,q⟩ ?_);rw[yIp (by decide+kernel)];refine yab (yab ⟨e.key,rfl,yab (L _ ?_ (Heap.SameBut.update ..))⟩);exact⟨_,l,q,by rw[Obj.data_mapFields hd];simp[rawInt]⟩
theorem Sb{it d:Addr}{es:Array yaw}{Q:Option yaj->yai->Prop}(y:A.handled=none)(l:s.heap.IsKeyIter it d es.size es.size ep)(I:jz s.heap d es ep)(H:∀h',Heap.ExtBut it s.heap h'->Q none {s with heap:=h'}):yas (model prog w) A (pyNext (.ref it)) Q E s:=by
 obtain⟨o,u,P,hd⟩:=id l;obtain⟨L,j,z,n⟩:=id I;have q:=Heap.IsKeyIter.typeIs l;unfold pyNext;refine yaa (wpAny_attempt (wpAny_callSpecial?_slot (name:=Str.ofString "__next__") q F.slot_dict_keyiterator_next (wpAny_call_entry F.slot_dict_keyiterator_next q F.entry_dict_keyiterator_next ?_ (F.args_dict_keyiterator_next_1 _))));unfold Builtin.«dict_keyiterator.__next__»;refine yaa (yab ?_);refine yaa ?_;refine yaa ?_;refine yaa (wpAny_typeNameOfWhole_keyiter q (yab ?_));have i:Builtin.Dict_items.ownsTuple "dict_keyiterator"=false:=by decide+kernel
 refine yaa (wpAny_fieldsOf u hd ?_);simp only[i,zaY,if_false,zcf];show yas (model prog w) A.in1 (if(Value.ref d==Value.none)=true then _ else _) _ _ s;rw[yIn (by exact zaX)];refine yaa (yab ?_);refine yaa (wpAny_dictEntries j n ?_);rw[yIn (by simp)];refine yaa (yab ?_);refine yaa (wpAny_dictEpoch j n ?_);rw[yIn (by simp)];refine yab ?_;dsimp only;rw[yIn (by simp),show((es.size:Int)).toNat=es.size from Int.toNat_natCast _,Array.getElem?_eq_none (zcS _)];dsimp only;refine yaa ?_;refine yaa (wpAny_typeNameOfWhole_keyiter q (yab ?_));simp only[i,zaY,if_false];refine yaa (wpAny_setField u hd (by simp) ?_);refine yaa ?_;simp only[newExc,newTuple];refine yaa (yaf ?_ (by size_fits));refine yaa (m:=firstArgMember _ _) (wpAny_of_eq (a:=Value.none) (by first|rfl|(simp only[firstArgMember];rfl)) ?_);refine yaf ?_ (by size_fits);simp only[raiseNew];refine yaa (wpAny_handled ?_)
 first|rw[show A.in1.handled=none from y]|rw[y]
 refine yaa (yab (wpAny_throw ?_));refine yaa (wpAny_isInstance (T:="StopIteration") (b:=true) ⟨_,zaM _ rfl,rfl⟩ isSubtype_stop ?_);refine yab (H _ (Heap.ExtBut.push (Heap.ExtBut.push ?_ _) _));exact λb O C e=>(zas _ _ (Ne.symm C)).trans e
theorem Pk{d:Addr}{es:Array yaw}(hd:(d==yat)=false)(j:jz s.heap d es ep)(m:Q (.ref s.heap.objs.size) {s with heap:=s.heap.push {cls:=.type "dict_keyiterator",data:=.fields #[.ref d,.int 0 0,.int es.size 0,.int ep 0]}}):yas (model prog w) A (pyIter (.ref d)) Q E s:=by
 obtain⟨n,a,l,e⟩:=id j;have i:=j.typeIs;refine wpAny_pyIter_slot i F.slot_dict_iter (wpAny_call_entry F.slot_dict_iter i F.entry_dict_iter ?_ (F.args_dict_iter_1 _));unfold Builtin.«dict.__iter__»;refine yaa (yaa (wpAny_notOrdered_dict i (yab ?_)));refine yaa (yab ?_);unfold Builtin.Dict.showsAll;rw[yIn (by rw[hd];exact zaX)];refine yaa (yab ?_);refine yaa (wpAny_dictEntries a e ?_);refine yaa (wpAny_dictEpoch a e ?_);refine yaa (yaf ?_ (by size_fits));exact yab ⟨_,rfl,"dict_keyiterator",_,⟨_,zaM _ rfl,rfl⟩,F.slot_dict_keyiterator_next.lookup,m⟩
theorem KJ(F:A.handled=none)(I d:Addr)(q:d≠I)(es:Array yaw)(ep:Nat):
  Walks prog w A I [I,d] [I] es.size (λi v=>∃e,es[i]? =some e/\v=e.key) (λi h=>h.IsKeyIter I d i es.size ep/\jz h d es ep) where
 sub:=λb a=>by simp only[zaS] at a;simp[a]
 frame:=λi h n st y=>⟨Heap.IsKeyIter.at st.1 λo e=>y I (by simp) o e,st.2.at λo e=>y d (by simp) o e⟩
 item:=λi s Q E C st m=>by
  have u:es[i]? =some es[i]:=Array.getElem?_eq_getElem C;refine nextK st.1 st.2 u λn l j=>m es[i].key n s.toks ⟨es[i],u,rfl⟩ ⟨l,st.2.at λo e=>by rw[j.2 d q];exact e⟩ λb o a e=>?_;rw[j.2 b (λz=>a (by simp[z]))];exact e
 done:=λs Q E st m=>Sb F st.1 st.2 λn H=>m n s.toks λb o a e=>H b o (λz=>a (by simp[z])) e
 self:=λi s Q E st m=>wpAny_pyIter_keyiter st.1 m
theorem Ri{d:Addr}{es:Array yaw}(n:(d==yat)=false):W.KdlSrc prog w "dict" d d es.size (λi v=>∃e,es[i]? =some e/\v=e.key) (λh=>jz h d es ep) where
 type:=λs a=>a.typeIs
 there:=λh a=>by obtain⟨o,j,_⟩:=a;exact⟨zcP j,zcP j⟩
 keep:=λh y a q=>a.at λo e=>q d (.inl rfl) o e
 notList:=by decide
 notTuple:=by decide
 hint:=λA E s Q a l=>W.kdl_hint_dict a.typeIs l
 iter:=λA s u a=>by
  have m:d<s.heap.objs.size:=by obtain⟨o,j,_⟩:=a;exact zcP j
  exact⟨_,_,λE Q l=>Pk n a l,KJ u s.heap.objs.size d (zcG m) es ep,⟨_,zaM _ rfl,rfl,rfl⟩,a.at λo e=>zar _ e⟩
theorem vC{d:Addr}{es:Array yaw}{R:List yaj->yai->Prop}(l:(d==yat)=false)(n:A.handled=none)(u:jz s.heap d es ep)(m:es.size<=yah)(h:∀(h':Heap)(tk:Nat),(∀b o,s.heap.get? b=some o->h'.get? b=some o)->R (es.toList.map (·.key)) {s with heap:=h',toks:=tk}):yas (model prog w) A (collect (.ref d)) R E s:=by
 refine W.kdu_collect (Ri l) n u m λh' tk j kp a=>?_;have:j.toList=es.toList.map (·.key):=by
  refine List.ext_getElem? λi=>?_;rw[zax,zbe,zax];cases z:j[i]? with
  |some v=>
   obtain⟨e,q,rfl⟩:=a.2 i v z;rw[q];rfl
  |none=>
   have:es.size<=i:=by rw[<-a.1];exact Array.getElem?_eq_none_iff.mp z
   rw[Array.getElem?_eq_none this];rfl
 rw[this];exact h h' tk kp
end
mutual
noncomputable def gJ:yan->yan->Bool
 |.int i,.int j=>decide (i<j)
 |.str i,.str j=>decide (i.cps.toList<j.cps.toList)
 |.tuple xs,.tuple ys=>cM xs ys
 |_,_=>false
noncomputable def cM:List yan->List yan->Bool
 |[],[]=>false
 |[],_::_=>true
 |_::_,[]=>false
 |x::xs,y::ys=>if x=y then cM xs ys else gJ x y
end
mutual
noncomputable def cz:yan->yan->Bool
 |.int _,.int _=>true
 |.str _,.str _=>true
 |.tuple xs,.tuple ys=>ff xs ys
 |_,_=>false
noncomputable def ff:List yan->List yan->Bool
 |x::xs,y::ys=>cz x y&&ff xs ys
 |_,_=>true
end
theorem fR{h:Heap}:∀{ds:List yan}{vs:List yaj}{as:List Addr},ReadsAll h vs ds as->vs.length=ds.length
 |[],_,_,h=>by cases h;rfl
 |_::_,_,_,h=>by cases h with|cons _ r=>simp[fR r]
section
variable {w:yal}
theorem HF:∀(n:Nat)(x y:yan){u v:yaj}{as bs:List Addr}{A:yam}{E:yaj->yai->Prop}{s:yai}{Q:yaj->yai->Prop},x.depth<=n->y.depth<=n->cy x=true->cy y=true->cz x y=true->Reads s.heap u x as->Reads s.heap v y bs->A.units+n<cLine->
  Q (.bool (gJ x y)) s->yas (model prog w) A (yao .Lt u v) Q E s:=by
 intro n
 induction n with
 |zero=>
  intro x y u v as bs A E s Q hx hy e ky C L U hu h;cases L with
  |int i t=>
   cases U with
   |int j t'=>exact wpAny_lt_int h
   |_=>simp[cz] at C
  |str i t=>
   cases U with
   |str j t'=>exact lt_str h
   |_=>simp[cz] at C
  |tuple ho C hd' hall=>rw[cD] at hx;lia
  |none=>simp[cy] at e
  |bool b=>simp[cy] at e
  |list _ _ _ _=>simp[cy] at e
  |dict _ _ _ _ _=>simp[cy] at e
 |succ n ih=>
  intro x y u v as bs A E s Q hx hy e ky C L U hu h;cases L with
  |int i t=>
   cases U with
   |int j t'=>exact wpAny_lt_int h
   |_=>simp[cz] at C
  |str i t=>
   cases U with
   |str j t'=>exact lt_str h
   |_=>simp[cz] at C
  |none=>simp[cy] at e
  |bool b=>simp[cy] at e
  |list _ _ _ _=>simp[cy] at e
  |dict _ _ _ _ _=>simp[cy] at e
  |@tuple a o us m xs as ho hcl hdat hall=>
   cases U with
   |@tuple b o2 vs m2 ys bs ho2 hcl2 hdat2 hall2=>
    have hT:=iI ho hcl;have W:=iI ho2 hcl2;rw[cD] at hx hy;have e:eF xs=true:=e;have ky:eF ys=true:=ky;have C:ff xs ys=true:=C;show yas (model prog w) A (richCompare .Lt (.ref a) (.ref b)) Q E s;refine wpAny_richCompare_same_room hT W F.slot_tuple_lt ?_ (by lia);refine wpAny_call_entry F.slot_tuple_lt hT F.entry_tuple_lt ?_ (F.args_tuple_lt_2 _ _);unfold Builtin.«tuple.__lt__»;refine yaa (yab ?_);refine yaa (wpAny_isInstance W isSubtype_tuple_tuple ?_);rw[yIn (by decide)];refine yaa (wpAny_tupleItemsOf ho hdat (yaa (wpAny_tupleItemsOf ho2 hdat2 (yaa ?_))));refine wpAny_forIn_list _ (λrest r X=>r.1=none/\X=s/\∃O I Z Y S P,rest=Z.zip Y/\ReadsAll s.heap Z O S/\ReadsAll s.heap Y I P/\cM xs ys=cM O I/\(∀z∈O,z∈xs)/\(∀z∈I,z∈ys)/\ff O I=true/\us.size+I.length=vs.size+O.length) _ ?_ ?_ (us.toList.zip vs.toList) (none,())
     ⟨rfl,rfl,xs,ys,us.toList,vs.toList,_,_,rfl,hall,hall2,rfl,λ_ z=>z,λ_ z=>z,C,by
      have h1:=fR hall;have h2:=fR hall2;rw[zaK] at h1 h2;lia⟩
    ·rintro⟨p,q⟩ rest ⟨r1,r2⟩ X ⟨L,rfl,O,I,Z,Y,S,P,hz,h1,h2,hl,m1,m2,H,l⟩;cases h1 with
     |nil=>simp at hz
     |@cons _ _ d1 ds1 a1 b1 g1 t1=>
      cases h2 with
      |nil=>simp at hz
      |@cons _ _ d2 ds2 a2 b2 g2 t2=>
       rw[zaR] at hz;injection hz with e1 e2;injection e1 with e3 e4;subst e3;subst e4;subst e2;have n1:=m1 d1 (by simp);have n2:=m2 d2 (by simp);have k1:=g9 e d1 n1;have k2:=g9 ky d2 n2;have dd1:=dD n1;have dd2:=dD n2;simp only[ff,zbH] at H;dsimp only;refine yaa (SeqAt.eqBoolOverData prog w _ _ _ _ _ _ _ _ _ _ g1 g2 (jo _ k1) (jo _ k2) (by show A.units+1+_<cLine;lia) ?_);rw[iQ _ _ k1 k2];by_cases he:d1=d2
       ·rw[yDt he];refine yab ⟨rfl,rfl,ds1,ds2,_,_,_,_,rfl,t1,t2,?_,λz hz=>m1 z (zaA _ hz),λz hz=>m2 z (zaA _ hz),H.2,by simp only[zbu] at l;lia⟩;rw[hl];simp only[cM];rw[yIp he]
       ·rw[yDf he];have hl2:cM xs ys=gJ d1 d2:=by
         rw[hl];simp only[cM];rw[yIn he]
        refine yaa (wpAny_rule ?_);refine yaa (ih d1 d2 (u:=p) (v:=q) (A:=A.in1) (by lia) (by lia) k1 k2 H.1 g1 g2 (by show A.units+1+n<cLine;lia) ?_);refine yaa (yab (yab ?_));refine yab ⟨_,rfl,(λz=>by cases z),?_⟩;rw[<-hl2];exact h
    ·rintro⟨r1,r2⟩ X ⟨L,rfl,O,I,Z,Y,S,P,hz,h1,h2,hl,m1,m2,H,l⟩;have L:r1=none:=L;subst L;refine yab ⟨_,rfl,(λz=>by cases z),?_⟩;have R6:decide (us.size<vs.size)=cM xs ys:=by
      rw[hl];cases h1 with
      |nil=>
       cases I with
       |nil=>simp only[cM,zbS] at l⊢;exact yDf (by lia)
       |cons _ _=>simp only[cM,zbu,zbS] at l⊢;exact yDt (by lia)
      |cons g1 t1=>
       cases h2 with
       |nil=>simp only[cM,zbu,zbS] at l⊢;exact yDf (by lia)
       |cons g2 t2=>simp at hz
     show Q (.bool (decide (us.size<vs.size))) X;rw[R6];exact h
   |_=>simp[cz] at C
def Fs(b:Bool)(z:yan):Prop:=(b=false/\∃i,z=.int i)∨(b=true/\∃i,z=.str i)
theorem DJ{x y:yan}{v:yaj}{as bs:List Addr}{Q:Bool->yai->Prop}(n:Nat)(j:x.depth<=n)(i:y.depth<=n)(e:cy x=true)(a:cy y=true)(o:cz x y=true)(m:Reads s.heap u x as)(q:Reads s.heap v y bs)(l:A.units+n<cLine)(h:Q (gJ x y) s):yas (model prog w) A (PyProof.Rows.oneLt' false u v) Q E s:=W.kat_one u v (HF n x y j i e a o m q l h)
theorem uW{A:yam}{Q:Bool->yai->Prop}{s:yai}{m1 m2:Nat}:∀(e a:List yan){l j:List yaj}{as bs:List Addr}(i:Nat),(∀z∈e,z.depth<=6)->(∀z∈a,z.depth<=6)->eF e=true->eF a=true->ff e a=true->ReadsAll s.heap l e as->ReadsAll s.heap j a bs->A.units+6<cLine->
  (i=0->∃b,Fs b (e.headD .none)/\Fs b (a.headD .none))->m1+a.length=m2+e.length->Q (cM e a) s->W.KatLex prog w A true (decide (m1<m2)) Q (l.zip j) i s
 |[],a,l,j,as,bs,i,d1,d2,k1,k2,hc,h1,h2,hu,h0,hm,h=>by
  cases h1;show Q (decide (m1<m2)) s;cases a with
  |nil=>simp only[cM,zbS] at hm h;rw[yDf (by lia)];exact h
  |cons _ _=>simp only[cM,zbS,zbu] at hm h;rw[yDt (by lia)];exact h
 |x::e,[],l,j,as,bs,i,d1,d2,k1,k2,hc,h1,h2,hu,h0,hm,h=>by
  cases h2;rw[List.zip_nil_right];show Q (decide (m1<m2)) s;simp only[cM,zbS,zbu] at hm h;rw[yDf (by lia)];exact h
 |x::e,y::a,l,j,as,bs,i,d1,d2,k1,k2,hc,h1,h2,hu,h0,hm,h=>by
  simp only[eF,zbH] at k1 k2;simp only[ff,zbH] at hc;have I:=d1 x (by simp);have H:=d2 y (by simp);cases h1 with
  |@cons u us _ _ a1 b1 g1 t1=>
   cases h2 with
   |@cons v vs _ _ a2 b2 g2 t2=>
    rw[zaR,W.KatLex.eq_2];refine SeqAt.eqBoolOverData prog w _ _ _ _ _ _ _ _ _ _ g1 g2 (jo _ k1.1) (jo _ k2.1) (by lia) ?_;rw[iQ _ _ k1.1 k2.1];simp only[cM] at h;by_cases m:x=y
    ·rw[yDt m,yIp rfl];rw[yIp m] at h;exact uW e a (i+1) (λz hz=>d1 z (zaA _ hz)) (λz hz=>d2 z (zaA _ hz)) k1.2 k2.2 hc.2 t1 t2 hu (λz=>by lia) (by simp only[zbu] at hm;lia) h
    ·rw[yDf m,yIn (by decide)];rw[yIn m] at h;by_cases n:i=0
     ·obtain⟨b,F,E⟩:=h0 n;subst n;rcases F with⟨rfl,p,C⟩|⟨rfl,p,C⟩<;>rcases E with⟨z,q,o⟩|⟨z,q,o⟩<;>cases z
      ·cases(show x=_ from C);cases(show y=_ from o);cases g1;cases g2;exact W.kat_lt_int h
      ·cases(show x=_ from C);cases(show y=_ from o);cases g1;cases g2;exact PyProof.Rows.oneLt_str h
     ·have:(true&&i==0)=false:=by simp[n]
      rw[this];exact DJ 6 I H k1.1 k2.1 hc.1 g1 g2 hu h
noncomputable def dH(h:Heap)(a:Addr)(vs:List yaj):Heap:=((h.update a (Obj.mapSeq λ_=>#[])).push (seqObj "tuple" vs.toArray 0)).push (seqObj "list" #[] 0)
mutual
theorem qp{h h':Heap}{b:Addr}{ob:Obj}(l:h.get? b=some ob)(hd:ob.cls≠ .type "tuple")(kp:∀c o,c≠b->h.get? c=some o->h'.get? c=some o):∀(d:yan){v:yaj}{as:List Addr},cy d=true->Reads h v d as->Reads h' v d as
 |.int i,v,as,hk,hr=>by cases hr;exact .int ..
 |.str i,v,as,hk,hr=>by cases hr;exact .str ..
 |.tuple xs,v,as,hk,hr=>by
  cases hr with
  |@tuple a o vs m _ _ ho hc hdat hall=>
   have j:a≠b:=λe=>by
    subst e;rw[l] at ho;cases ho;exact hd hc
   exact .tuple (kp a o j ho) hc hdat (nP l hd kp xs hk hall)
 |.none,_,_,h,_=>by simp[cy] at h
 |.bool _,_,_,h,_=>by simp[cy] at h
 |.list _,_,_,h,_=>by simp[cy] at h
 |.dict _,_,_,h,_=>by simp[cy] at h
theorem nP{h h':Heap}{b:Addr}{ob:Obj}(a:h.get? b=some ob)(hd:ob.cls≠ .type "tuple")(kp:∀c o,c≠b->h.get? c=some o->h'.get? c=some o):∀(ds:List yan){vs:List yaj}{as:List Addr},eF ds=true->ReadsAll h vs ds as->ReadsAll h' vs ds as
 |[],vs,as,hk,hr=>by cases hr;exact .nil
 |d::ds,vs,as,hk,hr=>by
  simp only[eF,zbH] at hk;cases hr with
  |cons hx hr=>exact .cons (qp a hd kp d hk.1 hx) (nP a hd kp ds hk.2 hr)
end
theorem dR{a e:Type}{f:a->e}:∀{ks:List a}{out:List e},out.Perm (ks.map f)->∃o':List a,o'.Perm ks/\out=o'.map f
 |[],out,h=>⟨[],.refl _,by simpa using h⟩
 |k::ks,out,h=>by
  have q:f k∈out:=h.mem_iff.mpr (by simp);obtain⟨o,n,rfl⟩:=List.append_of_mem q;have h2:(o++n).Perm (ks.map f):=by
   have:=List.perm_middle.symm.trans h;rw[zco] at this;exact this.cons_inv
  obtain⟨o',j,i⟩:=dR h2;obtain⟨m,l,z,y,u⟩:=List.map_eq_append_iff.mp i.symm;subst z;refine⟨m++k::l,List.perm_middle.trans (j.cons k),?_⟩;rw[zbU,zco,y,u]
mutual
theorem Ea:∀x:yan,gJ x x=false
 |.int i=>by simp only[gJ];exact yDf (Int.lt_irrefl i)
 |.str i=>by simp only[gJ];exact yDf (List.lt_irrefl _)
 |.tuple xs=>by simp only[gJ];exact zI xs
 |.none=>by simp only[gJ]
 |.bool _=>by simp only[gJ]
 |.list _=>by simp only[gJ]
 |.dict _=>by simp only[gJ]
theorem zI:∀x:List yan,cM x x=false
 |[]=>by simp only[cM]
 |x::xs=>by simp only[cM];rw[yIp trivial];exact zI xs
end
theorem sI{i:Int}{y:yan}(h:cz (.int i) y=true):∃j,y=.int j:=by
 cases y<;>first|exact⟨_,rfl⟩|simp[cz] at h
theorem sH{i:Str}{y:yan}(h:cz (.str i) y=true):∃j,y=.str j:=by
 cases y<;>first|exact⟨_,rfl⟩|simp[cz] at h
theorem sG{xs:List yan}{y:yan}(h:cz (.tuple xs) y=true):∃ys,y=.tuple ys/\ff xs ys=true:=by
 cases y<;>first|exact⟨_,rfl,h⟩|simp[cz] at h
mutual
theorem D9:∀x y z:yan,cz x y=true->cz y z=true->cz x z=true->gJ x y=true->gJ y z=true->gJ x z=true
 |.int i,y,z,a,b,_,h,g=>by
  obtain⟨j,rfl⟩:=sI a;obtain⟨k,rfl⟩:=sI b;simp only[gJ,decide_eq_true_eq] at h g⊢;lia
 |.str i,y,z,a,b,_,h,g=>by
  obtain⟨j,rfl⟩:=sH a;obtain⟨k,rfl⟩:=sH b;simp only[gJ,decide_eq_true_eq] at h g⊢;exact List.lt_trans h g
 |.tuple xs,y,z,a,b,c,h,g=>by
  obtain⟨ys,rfl,a⟩:=sG a;obtain⟨e,rfl,b⟩:=sG b;simp only[gJ] at h g⊢;exact D8 xs ys e a b c h g
 |.none,_,_,a,_,_,_,_=>by simp[cz] at a
 |.bool _,_,_,a,_,_,_,_=>by simp[cz] at a
 |.list _,_,_,a,_,_,_,_=>by simp[cz] at a
 |.dict _,_,_,a,_,_,_,_=>by simp[cz] at a
theorem D8:∀x y z:List yan,ff x y=true->ff y z=true->ff x z=true->cM x y=true->cM y z=true->cM x z=true
 |[],[],z,_,_,_,h,_=>by simp[cM] at h
 |[],y::ys,[],_,_,_,_,g=>by simp[cM] at g
 |[],y::ys,z::zs,_,_,_,_,_=>by simp only[cM]
 |x::xs,[],z,_,_,_,h,_=>by simp[cM] at h
 |x::xs,y::ys,[],_,_,_,_,g=>by simp[cM] at g
 |x::xs,y::ys,z::zs,a,b,c,h,g=>by
  simp only[ff,zbH] at a b c;simp only[cM] at h g⊢;by_cases i:x=y
  ·rw[yIp i] at h;subst i;by_cases e:x=z
   ·rw[yIp e] at g⊢;exact D8 xs ys zs a.2 b.2 c.2 h g
   ·rw[yIn e] at g⊢;exact g
  ·rw[yIn i] at h;by_cases e:y=z
   ·subst e;rw[yIn i];exact h
   ·rw[yIn e] at g;have t:=D9 x y z a.1 b.1 c.1 h g;rw[yIn (λj=>by subst j;rw[Ea] at t;cases t)];exact t
end
mutual
theorem xO:∀x y:yan,cz x y=true->x≠y->gJ x y=true∨gJ y x=true
 |.int i,y,a,n=>by
  obtain⟨j,rfl⟩:=sI a;have:i≠j:=λe=>n (by rw[e]);simp only[gJ,decide_eq_true_eq];lia
 |.str i,y,a,n=>by
  obtain⟨j,rfl⟩:=sH a;simp only[gJ,decide_eq_true_eq];by_cases h:i.cps.toList<j.cps.toList
  ·exact .inl h
  ·by_cases g:j.cps.toList<i.cps.toList
   ·exact .inr g
   ·refine absurd ?_ n;have e:i.cps.toList=j.cps.toList:=List.le_antisymm g h;obtain⟨i⟩:=i;obtain⟨j⟩:=j;have e:i.toList=j.toList:=e;rw[show i=j from zbI.mp e]
 |.tuple xs,y,a,n=>by
  obtain⟨ys,rfl,a⟩:=sG a;simp only[gJ];exact zH xs ys a λe=>n (by rw[e])
 |.none,_,a,_=>by simp[cz] at a
 |.bool _,_,a,_=>by simp[cz] at a
 |.list _,_,a,_=>by simp[cz] at a
 |.dict _,_,a,_=>by simp[cz] at a
theorem zH:∀x y:List yan,ff x y=true->x≠y->cM x y=true∨cM y x=true
 |[],[],_,n=>absurd rfl n
 |[],y::ys,_,_=>.inl (by simp only[cM])
 |x::xs,[],_,_=>.inr (by simp only[cM])
 |x::xs,y::ys,a,n=>by
  simp only[ff,zbH] at a;simp only[cM];by_cases e:x=y
  ·subst e;rw[yIp rfl,yIp rfl];exact zH xs ys a.2 λe=>n (by rw[e])
  ·rw[yIn e,yIn (Ne.symm e)];exact xO x y a.1 e
end
def NN(b:Bool)(h:Heap)(k:yan×Addr):Prop:=isKey h k.1 k.2/\∃p r,Fs b p/\k.1=.tuple (p::r)
def kN(h:Heap)(k:yan×Addr):Prop:=isKey h k.1 k.2/\∃p r,k.1=.tuple (.str p::r)
theorem kN.g{h:Heap}{k:yan×Addr}(i:kN h k):NN true h k:=by obtain⟨a,p,r,e⟩:=i;exact⟨a,_,r,.inr ⟨rfl,p,rfl⟩,e⟩
noncomputable def tyB(b:Bool):String:=if b then "str" else "int"
theorem Py{z:yan}{h:Heap}{v:yaj}{as:List Addr}(f:Fs b z)(g:Reads h v z as)(s:yai):s.TypeIs v (tyB b):=by
 rcases f with⟨rfl,p,rfl⟩|⟨rfl,p,rfl⟩
 ·cases g;exact typeIs_int s _ _
 ·cases g;exact typeIs_str s _ _
theorem uY{b:Bool}{h:Heap}:∀{ks:List (yan×Addr)},(∀k∈ks,NN b h k)->∃fs,W.KatTups h (ks.map λk=>.ref k.2) fs/\fs.length=ks.length/\∀f∈fs,∀s:yai,s.TypeIs f (tyB b)
 |[],_=>⟨[],.nil,rfl,by simp⟩
 |(d,a)::ks,hk=>by
  obtain⟨fs,h1,h2,y⟩:=uY λk n=>hk k (zaA _ n);obtain⟨⟨C,z,E,q⟩,p,r,u,e⟩:=hk (d,a) (by simp);have e:d=.tuple (p::r):=e;subst e;cases q with
  |@tuple _ o vs m _ _ ho hc hdat hall=>
   generalize j:vs.toList=l at hall;cases hall with
   |@cons v l' _ _ a1 b1 g1 t1=>
    refine⟨v::fs,.cons ho hc hdat ?_ h1,by simp[h2],λf i=>?_⟩
    ·rw[<-zax,j];rfl
    ·rcases zcn.mp i with rfl|i
     ·exact Py u g1
     ·exact y f i
theorem IK(S:∀k∈ks,NN b s.heap k)(hc:∀k∈ks,∀l∈ks,cz k.1 l.1=true)(Y:A.units+6<cLine)(i j:Nat)(C:Bool->yai->Prop)(H:i<ks.length)(F:j<ks.length)(h:C (gJ ks[i].1 ks[j].1) s):
  W.kas_ask prog w A (tuples' true) (ks.map λk=>.ref k.2) i j C s:=by
 have P:=S ks[i] (zbB H);have O:=S ks[j] (zbB F);have a:=hc ks[i] (zbB H) ks[j] (zbB F);have e:∀n (Q:n<ks.length),(ks.map λk=>Value.ref k.2).getD n Value.none=.ref ks[n].2:=λn Q=>by simp[zcY,Q]
 unfold W.kas_ask;rw[e i H,e j F];generalize ks[i]=x at P a h;generalize ks[j]=y at O a h;obtain⟨⟨X,E,as,Z⟩,p,r,f1,L⟩:=P;obtain⟨⟨U,u,bs,gr⟩,q,t,f2,I⟩:=O;obtain⟨dx,ax⟩:=x;obtain⟨dy,ay⟩:=y;have L:dx=.tuple (p::r):=L;have I:dy=.tuple (q::t):=I;subst L;subst I;have E:(PyData.tuple (p::r)).depth<=6:=E;have u:(PyData.tuple (q::t)).depth<=6:=u;rw[cD] at E u;cases Z with
 |@tuple _ o us m _ _ ho hcl hdat hall=>
  cases gr with
  |@tuple _ o2 vs m2 _ _ ho2 hcl2 hdat2 hall2=>
   have n1:=fR hall;have n2:=fR hall2;rw[zaK] at n1 n2;exact W.kat_lt ho hdat ho2 hdat2 (uW _ _ 0 (λz hz=>by have:=dD hz;lia) (λz hz=>by have:=dD hz;lia) X U a hall hall2 Y (λ_=>⟨b,f1,f2⟩) (by lia) h)
theorem qB{h:Heap}{vs:List yaj}{b:Addr}{o:Obj}(i:b≠a)(e:h.get? b=some o):(dH h a vs).get? b=some o:=
 zar _ (zar _ ((zas _ _ (Ne.symm i)).trans e))
end
end M6
namespace L2
open PySem PySem.Spec PyProof.Rows M6
def lY(W:yal)(a:Addr)(xs:List (yan×Addr)):Heap->Prop:=λh=>(a==yat)=false/\∃o e i,h.get? a=some o/\o.ExactDict/\o.data=Data.dict e i/\
 e.toList=xs.map (λx=>({hash:=zS W x.1,key:=.ref x.2,val:=.bool true}:yaw))/\(xs.map (·.1)).Nodup
theorem lY.at{W:yal}{xs:List (yan×Addr)}{h:Heap}(x:lY W a xs h)(e:∀o,h.get? a=some o->h'.get? a=some o):lY W a xs h':=by
 obtain⟨z,o,i,j,h1,r⟩:=x;exact⟨z,o,i,j,e o h1,r⟩
theorem lY.ok{w W:yal}{h:Heap}{xs:List (yan×Addr)}(x:lY W a xs h):aW P w H h a (.ext (lY W a xs)):=by
 obtain⟨z,o,i,j,h1,r⟩:=id x;exact⟨x,⟨o,h1⟩,λh1 h2 y e=>y.at e⟩
theorem mQ{w W:yal}{h:Heap}{b:Addr}{xs:List (yan×Addr)}(x:aW P w H h a (.ext (lY W b xs))):b=a:=by
 obtain⟨y,⟨o,e⟩,st⟩:=x;apply Classical.byContradiction;intro i;obtain⟨z,E,Q,S,h1,h2,O,r⟩:=id y;have q:(h.update b λ_=>{cls:=.none}).get? a=some o:=(zas _ _ i).trans e;have n:(h.update b λ_=>{cls:=.none}).get? b=some {cls:=.none}:=zaz (λ_=>{cls:=.none}) h1 rfl;obtain⟨_,F,u,C,j,L,m,_⟩:=st h (h.update b λ_=>{cls:=.none}) y λI l=>by rw[e] at l;cases l;exact q
 rw[n] at j;cases j;cases m
noncomputable def xx(xs:List (yan×Addr))(d:yan)(b:Addr):List (yan×Addr):=if(xs.any λx=>decide (x.1=d))=true then xs else xs++[(d,b)]
theorem uF(xs:List (yan×Addr))(d:yan)(b:Addr):storedH (xs.map λx=>(x.1,x.2,Value.bool true)) d b (.bool true)=(xx xs d b).map λx=>(x.1,x.2,Value.bool true):=by
 have e:(atKey (xs.map λx=>(x.1,x.2,Value.bool true)) d).isSome=(xs.any λx=>decide (x.1=d)):=by
  unfold atKey;rw[zbs]
  induction xs with
  |nil=>rfl
  |cons x xs ih=>
   rw[zco,zbR,zcp];by_cases h:x.1=d
   ·simp[h]
   ·simp only[h,decide_false,zcu];exact ih
 unfold storedH xx;rw[e];by_cases h:(xs.any λx=>decide (x.1=d))=true
 ·rw[yIp h,yIp h,zcF];refine zaJ λx _=>?_;simp only[Function.comp,putAt];split<;>rfl
 ·rw[yIn h,yIn h,zbU];rfl
def q9(K:yaM)(H:Hp)(xs:List (yan×Addr)):Prop:=∀x∈xs,cy x.1=true/\x.1.depth<=6/\bM K H x.1 (.ref x.2)
theorem Inv.key(I:Inv X pins σ H s){d:yan}{b:Addr}(h1:cy d=true)(h2:d.depth<=6)(a:bM X.K H d (.ref b)):isKey s.heap d b:=
 ⟨h1,h2,I.reads d (.ref b) (.ref b) a rfl⟩
theorem Bg{b:Addr}{xs:List (yan×Addr)}{d:yan}{Q:Unit->yai->Prop}(hu:A.units+20<cLine)(I:Inv X pins σ H s)(e:H a=some (.ext (lY X.w a xs)))(hk:q9 X.K H xs)(h1:cy d=true)(h2:d.depth<=6)(h3:bM X.K H d (.ref b))(hl:xs.length<1000)(h:∀s',Inv X pins σ (upd H a (.ext (lY X.w a (xx xs d b)))) s'->Q () s'):yas (model X.prog X.w) A (setItem (.ref a) (.ref b) (.bool true)) Q E s:=by
 obtain⟨⟨z,o,es,ep,Z,W,hd,l,hn⟩,_,_⟩:=(show aW X.prog X.w H s.heap a (.ext (lY X.w a xs)) from I.hok a _ e)
 have dd:Heap.DictOfH (kj X.prog X.w) s.heap a (xs.map λx=>(x.1,x.2,Value.bool true)):=by
  refine⟨o,es,ep,Z,W,hd,?_,λx j=>?_,?_⟩
  ·rw[l,zcF];rfl
  ·obtain⟨y,U,rfl⟩:=zcE.mp j;obtain⟨S,P,O⟩:=hk y U;exact I.key S P O
  ·rw[zcF];exact hn
 refine wpAny_setItem_heap (knd:=kj X.prog X.w) (hsz:=by rw[zbN,yag];lia) (show A.units+1+10<cLine by lia) (I.key h1 h2 h3) dd λh' i Y=>h _ ?_;rw[uF] at i;obtain⟨q,m,n,C,x1,L,F,_,u⟩:=i;have nn:lY X.w a (xx xs d b) h':=⟨z,q,m,n,C,x1,L,by rw[F,zcF];rfl,by rw[zcF] at u;exact u⟩
 exact mY I (by rw[e];exact True.intro) Y ⟨q,C⟩ nn.ok
def Cv(W:yal):TE:=λ_ H Q=>∀p,H p=none->Q (.ref p) (upd H p (.ext (lY W p [])))
def JG(K:yaM)(W:yal)(m ty l:TE):TS:=λD e H=>l e H λv o=>m e o λx n=>ty e n λy i=>∃(a j b:Addr)(xs:List (yan×Addr))(d:yan),v=.bl true/\x=.ref a/\y=.ref b/\i a=some (.ext (lY W j xs))/\
 q9 K i xs/\cy d=true/\d.depth<=6/\bM K i d (.ref b)/\xs.length<1000/\(j=a->D.nx e (upd i a (.ext (lY W a (xx xs d b)))))
theorem iH{a:Type}(f:a->Addr):∀l:List a,Vals (l.map λx=>V.ref (f x)) (l.map λx=>Value.ref (f x))
 |[]=>.nil
 |x::l=>.cons rfl (iH f l)
section
variable {o i:Expr}{td ty tv:TE}
theorem jV:PE X (.Dict [] [] pos) (Cv X.w):=λe s j H Q I h=>
 wpAny_Dict_empty ⟨.ref s.heap.objs.size,_,I.laid (a:=s.heap.objs.size) (o:=.ext (lY X.w s.heap.objs.size [])) (t':=s.toks) (λ_ _ q=>zar _ q) (zcS _) (lY.ok ⟨beq_eq_false_iff_ne.mpr (Ne.symm (zcG I.big)),_,#[],0,zaM _ rfl,⟨rfl,rfl,rfl⟩,rfl,rfl,List.nodup_nil⟩),rfl,h _ (I.hok.fresh (zcS _))⟩
theorem jN(hu:X.A.units+20<cLine)(ho:PE X o td)(hi:PE X i ty)(hv:PE X value tv)(hs:yau value (some (.Subscript o i pos')) pos.line X.env=pure false):
  PS X (.Assign [.Subscript o i pos'] value pos) (JG X.K X.w td ty tv):=by
 intro j s l H D I h;refine wpAny_Assign_Subscript (bS (hv j s l H _ I h) λr F q=>?_) hs;obtain⟨v,H1,I1,P,Q⟩:=q;refine bS (ho j F l H1 _ I1 Q) λu E n=>?_;obtain⟨x,H2,I2,O,q2⟩:=n;refine bS (hi j E l H2 _ I2 q2) λiv C m=>?_;obtain⟨y,H3,z,L,a,a',b,xs,d,ev,ex,ey,e,Z,Y,W,U,S,q3⟩:=m;subst ev ex ey;obtain rfl:u=Value.ref a:=O;obtain rfl:iv=Value.ref b:=L;obtain rfl:r=Value.bool true:=P;obtain rfl:=mQ (show aW X.prog X.w H3 C.heap a (.ext (lY X.w a' xs)) from z.hok a _ e);exact Bg hu z e Z Y W U S λs4 I4=>⟨l,_,I4,q3 rfl⟩
end
theorem xP{k:Key}(h:oO k u=true):RelV (kV k) u:=by
 rcases bK h with⟨i,t,rfl,rfl⟩|⟨x,t,rfl,rfl⟩
 ·exact⟨t,rfl⟩
 ·exact⟨t,rfl⟩
theorem uZ{prog:yak}{w:yal}:∀{kvs:List (Key×V)}{vs:List (Key×yaj)}{es:List yaw},KV kvs vs->Pairs (bu prog w) es vs->Vals (kvs.map λp=>kV p.1) (es.map (·.key))
 |[],_,es,h1,h2=>by cases h1;cases h2;exact .nil
 |p::kvs,_,es,h1,h2=>by
  cases h1 with
  |cons r t=>
   cases h2 with
   |cons g1 g2 g3=>
    refine .cons ?_ (uZ t g3);show RelV (kV p.1) _;rw[r.1];exact xP g1
def LN(i:Bool):R2:=λy x H Q=>∃a e k,x=.ref a/\y=kV k/\H a=some (.dK e)/\Q (.bl (i != (gQ e k).isSome)) H
theorem LH{kvs:List (Key×V)}(I:Inv X pins σ H s)(e:H a=some (.dK kvs)):(a==yat)=false/\kvs.length<=yah/\∃es ep,jz s.heap a es ep/\Vals (kvs.map λx=>kV x.1) (es.toList.map (·.key)):=by
 obtain⟨z,hd,q,j,o,es,ep,n,l,i,y,m,u⟩:=z8 I.hok e;exact⟨hd,z,es,ep,⟨o,n,l,i⟩,uZ j m⟩
theorem L4(n:X.A.units+1<cLine):fk X (yao .In) (LN false):=by
 intro j s z H y x v u Q I l m h;obtain⟨a,i,k,rfl,rfl,e,q⟩:=h;obtain rfl:u=Value.ref a:=m;exact Sg n I (i6.k e) l λC o=>⟨.bl (gQ i k).isSome,H,o,rfl,by simpa using q⟩
theorem A7(n:X.A.units+1<cLine):fk X (yao .NotIn) (LN true):=by
 intro j s z H y x v u Q I l m h;obtain⟨a,i,k,rfl,rfl,e,q⟩:=h;obtain rfl:u=Value.ref a:=m;exact Ih n I (i6.k e) l λC o=>⟨.bl (!(gQ i k).isSome),H,o,rfl,by simpa using q⟩
end L2
namespace M6
open PySem PySem.Spec PyProof.Rows
theorem Bl:typeLookup (.type "list") (Str.ofString "keys")=pure none:=by rw[typeLookup_type];kernel_rfl
section
variable {w:yal}
theorem Bq{xs:Array yaj}{k:Nat}{Q:Option yaj->yai->Prop}(m:s.heap.get? a=some {cls:=.type "list",data:=.seq xs k})(I:A.handled=none)(h:∀(h':Heap)(tk:Nat),(∀b o,s.heap.get? b=some o->h'.get? b=some o)->Q none {s with heap:=h',toks:=tk}):yas (model prog w) A (getAttr? (.ref a) (Str.ofString "keys")) Q E s:=by
 have q:=sub_AttributeError;have U:=PySem.F.slot_list_getattribute.lookup;have S:=PySem.F.slot_list_getattribute.bind (Value.ref a);have O:=am_list_getattr_none;have L:=Bl;obtain⟨n,g,d,tk,os⟩:=s;dsimp only at h m⊢;have P:Shared.TypeIs ⟨n,g,d,tk,os⟩ (.ref a) "list":=⟨_,m,rfl⟩
 unfold getAttr? getAttrBy? getAttrBy getAttrByItsOwn callGetattribute boundAndCalled;generalize H:@PySem.call=C
 wp_walk
 subst H;refine call_meets PySem.F.slot_list_getattribute (s:=⟨n,g,d,tk+1,os⟩) ⟨_,m,rfl⟩ am_entry_list_getattribute (PySem.F.args_list_getattribute_2 (Value.ref a) (Value.str (Str.ofString "keys") tk)) (meets_getattribute_miss_list a xs k #[] (Str.ofString "keys") tk L (by decide+kernel)) ⟨m,I,λh' i e j=>?_⟩;obtain⟨t,u,z⟩:=j.there;have l:Shared.TypeIs ⟨h',g,d,i,os⟩ (.ref e) "AttributeError":=⟨_,z,rfl⟩
 have y:=j.keeps;show yas (model prog w) A (getattributeRaised (Value.ref a) (Value.str (Str.ofString "keys") tk) (Value.type "list") (.ref e) none false false) _ _ _;unfold getattributeRaised;refine yaa (wpAny_isInstance l q ?_);rw[yIp rfl];refine yaa (wpAny_of_eq O ?_);show yas (model prog w) A (do let _ <-throw (Value.ref e);_) _ _ _;refine yaa (wpAny_throw ?_);show yas (model prog w) A (do
       let __do_lift <-isInstance (Value.ref e) (Value.type "AttributeError")
       if __do_lift=true then pure none else throw (Value.ref e)) Q E _
 refine yaa (wpAny_isInstance l q ?_);rw[yIp rfl];exact yab (h h' i y)
end
theorem qN:entryFor table "dict.update.loop"=some Builtin.«dict.update.loop»:=entryFor_of_tree (by kernel_rfl)
theorem iN:plainId "dict.update.loop"=true:=by decide+kernel
noncomputable def bV{K:Type}[DecidableEq K](ps:List (K×yaj)):List (K×yaj):=ps.foldl (λa p=>stored a p.1 p.2) []
section
variable {w:yal}{K:Type}[DecidableEq K]{knd:KeyKind prog w K}
def jB(knd:KeyKind prog w K)(h:Heap)(v:yaj)(p:K×yaj):Prop:=∃t a o n,v=.ref t/\h.get? t=some o/\o.cls=.type "tuple"/\o.data=.seq #[a,p.2] n/\knd.is p.1 a=true
theorem jB.at{h:Heap}{v:yaj}{p:K×yaj}(x:jB knd h v p)(e:∀b o,o.cls=.type "tuple"->h.get? b=some o->h'.get? b=some o):jB knd h' v p:=by
 obtain⟨t,i,o,n,h1,h2,a,j⟩:=x;exact⟨t,i,o,n,h1,e t o a h2,a,j⟩
theorem mU{h:Heap}{d:Addr}{kvs:List (K×yaj)}(x:Heap.DictOf knd h d kvs)(e:∀o,h.get? d=some o->h'.get? d=some o):Heap.DictOf knd h' d kvs:=by
 obtain⟨o,a,i,h1,r⟩:=x;exact⟨o,a,i,e o h1,r⟩
theorem wM(kvs:List (K×yaj))(k:K)(v:yaj):(stored kvs k v).length<=kvs.length+1:=by
 unfold stored;split
 ·rw[zbN];simp
 ·rw[zaO];exact zcS _
theorem nq(ps:List (K×yaj))(p:K×yaj):bV (ps++[p])=stored (bV ps) p.1 p.2:=by
 unfold bV;rw[List.foldl_append];rfl
theorem pT(ps:List (K×yaj)):(bV ps).length<=ps.length:=by
 have:∀(l e:List (K×yaj)),(l.foldl (λe p=>stored e p.1 p.2) e).length<=e.length+l.length:=by
  intro l
  induction l with
  |nil=>intro e;simp
  |cons a r ih=>intro e;rw[List.foldl_cons,zbu];have:=ih (stored e a.1 a.2);have:=wM e a.1 a.2;lia
 have:=this ps [];simpa[bV] using this
theorem Bo{I l d:Addr}{ps:List (K×yaj)}{R:Result->yai->Prop}{St:Nat->Heap->Prop}(W:Walks prog w A.in1 I [I,l] [I] its.size (λi v=>its[i]? =some v) St)(hSt:∀i h,St i h->∀o,h.get? I=some o->o.cls≠ .type "tuple")(u:d≠I)(hdl:d≠l)(L:its.size=ps.length)(hn:ps.length<=1000):
  ∀(k i:Nat)(s:yai),its.size - i=k->i<=its.size->St i s.heap->Heap.DictOf knd s.heap d (bV (ps.take i))->(∀(i:Nat)(v:yaj)(p:K×yaj),its[i]? =some v->ps[i]? =some p->jB knd s.heap v p)->
   (∀(h':Heap)(tk:Nat),Heap.DictOf knd h' d (bV ps)->(∀b o,b≠d->b≠I->s.heap.get? b=some o->h'.get? b=some o)->R (.ok (.ret .none)) {s with heap:=h',toks:=tk})->
   codeAny (model prog w) A (.builtin "dict.update.loop" ⟨[.ref d,.ref I,rawInt i,.none],[]⟩) R s:=by
 intro k
 induction k with
 |zero=>
  intro i s hk hi a S hp hR;obtain rfl:i=its.size:=by (try clear L;lia)
  refine codeAny_builtin qN ?_;rw[Around.under_plainId iN _];show yas _ A.in1 (pyNext (.ref I) >>= _) _ _ s;refine yaa (W.done s _ _ a λh' tk y=>?_);rw[L,zbA] at S;refine yaa (yab ?_);exact yab (hR h' tk (mU S λo e=>y d o (by simpa using u) e) λb o h1 h2 e=>y b o (by simpa using h2) e)
 |succ k ih=>
  intro i s hk hi a S hp hR;have H:i<its.size:=by (try clear L;lia)
  refine codeAny_builtin qN ?_;rw[Around.under_plainId iN _];show yas _ A.in1 (pyNext (.ref I) >>= _) _ _ s;refine yaa (W.item i s _ _ H a λv h' tk hP C y=>?_);have E:ps[i]? =some ps[i]:=zal (by omega);have F:∀(i:Nat)(v:yaj)(p:K×yaj),its[i]? =some v->ps[i]? =some p->jB knd h' v p:=λj v p h1 h2=>(hp j v p h1 h2).at λb o q e=>y b o (by
   intro z;simp only[zaS] at z;subst z;exact hSt i _ a o e q) e
  obtain⟨t,ku,o,m,rfl,ho,q,hd,Z⟩:=F i v _ hP E;have O:Heap.DictOf knd h' d (bV (ps.take i)):=mU S λo e=>y d o (by simpa using u) e;dsimp only;refine yaa (yad ?_);refine yaa (wpAny_tryCatch ?_);unfold Builtin.Dict.pairItems;refine yaa (wpAny_typeOf (T:="tuple") ⟨o,ho,q⟩ ?_);rw[yIp (by decide)];refine yaa (wpAny_seqItems ho hd (yab ?_));have h2:=pT (ps.take i);rw[zbv] at h2;refine yad (wpAny_dictSet_pairs Z O (λn P hs=>?_) (by rw[yag];lia));have e9:∀b o,b≠d->h'.get? b=some o->n.get? b=some o:=λb o Q e=>(hs.2 b Q).trans e;refine yab ⟨plainId_quiet iN _,?_⟩;rw[show((i:Int)+1)=((i+1:Nat):Int) by simp];refine ih (i+1) {s with heap:=n,toks:=tk+1} (by (try clear hn hi;lia)) H (W.frame _ h' n C λb Q o e=>e9 b o ?_ e) ?_ (λj v p h1 h2=>(F j v p h1 h2).at λb o q e=>e9 b o ?_ e) λh3 U hD3 X=>?_
  ·simp only[zcn,zbC,or_false] at Q;rcases Q with rfl|rfl
   ·exact Ne.symm u
   ·exact Ne.symm hdl
  ·rw[List.take_succ,E];show Heap.DictOf knd n d (bV (ps.take i++[ps[i]]));rw[nq];exact P
  ·intro z;subst z;obtain⟨od,_,_,Y,hcd,_⟩:=O;rw[Y] at e;cases e;rw[hcd.1] at q;injection q with q;exact absurd q (by decide)
  ·exact hR h3 U hD3 λb o h1 h2 e=>X b o h1 h2 (e9 b o h1 (y b o (by simpa using h2) e))
theorem yd{l:Addr}{ps:List (K×yaj)}(Y:A.handled=none){c:Nat}(X:s.heap.get? l=some {cls:=.type "list",data:=.seq its c})(C:its.size=ps.length)(hp:∀(i:Nat)(v:yaj)(p:K×yaj),its[i]? =some v->ps[i]? =some p->jB knd s.heap v p)(hn:ps.length<=1000)(h:∀(h':Heap)(tk:Nat),Heap.DictOf knd h' s.heap.objs.size (bV ps)->(∀b o,s.heap.get? b=some o->h'.get? b=some o)->Q (.ref s.heap.objs.size) {s with heap:=h',toks:=tk}):
  yas (model prog w) A (call (.type "dict") [.ref l]) Q E s:=by
 refine callType_codes PySem.F.kt_called_dict (PySem.F.kt_typeCall_dict_1 (.ref l)) PySem.F.entry_dict_init (kt_code_dict_new (.ref l) (Q₁:=λu j=>u=.ref s.heap.objs.size/\j={s with heap:=s.heap.push {cls:=.type "dict",data:=.dict #[]}}) ⟨rfl,rfl⟩) λobj j z=>?_;obtain⟨rfl,rfl⟩:=z;have a:Heap.DictOf knd (s.heap.push {cls:=Value.type "dict",data:=Data.dict #[]}) s.heap.objs.size []:=Heap.DictOf.new s.heap;have n:(s.heap.push {cls:=Value.type "dict",data:=Data.dict #[]}).get? l=some {cls:=.type "list",data:=.seq its c}:=zar _ X;refine⟨Heap.DictOf.typeIs a,PySem.F.args_dict_init_2 _ _,?_⟩;unfold Builtin.«dict.__init__»;refine yaa (yaa (wpAny_notOrdered_dict (Heap.DictOf.typeIs a) (yab ?_)));show yas _ _ (Builtin.Dict.updateFrom "dict.__init__" s.heap.objs.size (.ref l) [] .none) _ _ _;unfold Builtin.Dict.updateFrom;refine yaa (wpAny_typeOf (T:="list") ⟨_,n,rfl⟩ ?_);rw[yIp (by decide)];refine yaa (Bq n Y λh1 Z m=>?_);rw[yIp (by decide)];refine yaa (wpAny_rule ?_);have H:h1.IsList l its:=⟨_,m _ _ n,rfl,c,rfl⟩
 refine yaa (wpAny_pyIter_list H ?_);have I:Heap.DictOf knd h1 s.heap.objs.size []:=mU a λo e=>m _ _ e;refine yab ⟨plainId_quiet iN _,?_⟩;have L:s.heap.objs.size<h1.objs.size:=by obtain⟨o,_,_,ho,_⟩:=I;exact zcP ho
 have U:l<s.heap.objs.size:=zcP X;have q:∀b o,s.heap.get? b=some o->h1.get? b=some o:=λb o e=>m b o (zar _ e);refine Bo (ps:=ps) (Walks.list (A:=A.in1.in1) Y h1.objs.size l (zcG (Nat.lt_trans U L)) its) (λi h z o e=>?_) (zcG L) (zcI U) C hn its.size 0 _ rfl (zcT _) ?_ ?_ ?_ λh' tk S O=>⟨rfl,h h' tk S λb o e=>?_⟩
 ·obtain⟨o',y,P,_⟩:=z.1;rw[e] at y;cases y;rw[P];intro z;injection z with z;exact absurd z (by decide)
 ·exact⟨⟨_,zaM _ rfl,rfl,rfl⟩,H.at λo e=>zar _ e⟩
 ·exact mU I λo e=>zar _ e
 ·exact λi v p h2 h3=>(hp i v p h2 h3).at λb o _ e=>zar _ (q b o e)
 ·have W:=zcP e;exact O b o (zcG W) (zcG (Nat.lt_trans W L)) (zar _ (q b o e))
end
end M6
namespace L2
open PySem PySem.Spec PyProof.Rows M6
noncomputable def putAll(kvs:List (Key×V)):List (Key×V):=kvs.foldl (λa p=>putK a p.1 p.2) []
theorem nV:∀{kvs:List (Key×V)}{vs:List (Key×yaj)},KV kvs vs->∀{a:List (Key×V)}{b:List (Key×yaj)},KV a b->KV (kvs.foldl (λe p=>putK e p.1 p.2) a) (vs.foldl (λe p=>stored e p.1 p.2) b)
 |[],_,h,a,b,g=>by cases h;exact g
 |p::kvs,_,h,a,b,g=>by
  cases h with
  |@cons _ q _ vs r t=>
   show KV (kvs.foldl _ (putK a p.1 p.2)) (vs.foldl _ (stored b q.1 q.2));rw[<-r.1];exact nV t (g.put p.1 r.2)
theorem xw(kvs:List (Key×V)):(putAll kvs).length<=kvs.length:=by
 have:∀(l e:List (Key×V)),(l.foldl (λe p=>putK e p.1 p.2) e).length<=e.length+l.length:=by
  intro l
  induction l with
  |nil=>intro e;simp
  |cons a r ih=>intro e;rw[List.foldl_cons,zbu];have:=ih (putK e a.1 a.2);have:=fz e a.1 a.2;lia
 have:=this kvs [];simpa[putAll] using this
def NF(K:yaM)(H:Hp)(ts:List Addr)(kvs:List (Key×V)):Prop:=Paired (λt (p:Key×V)=>ee K H t [kV p.1,p.2]) ts kvs
def LQ(K:yaM):List V->Hp->VK->Prop:=λxs H Q=>∃(a:Addr)(i:List Addr)(e:List (Key×V)),xs=[.ref a]/\H a=some (.lst (i.map V.ref))/\NF K H i e/\e.length<=1000/\∀p,H p=none->Q (.ref p) (upd H p (.dK (putAll e)))
theorem qo:∀{ts:List Addr}{us:List yaj},Vals (ts.map V.ref) us->us=ts.map Value.ref
 |[],us,h=>by cases h;rfl
 |t::ts,us,h=>by
  cases h with
  |cons r g=>
   obtain rfl:_=Value.ref t:=r;rw[qo g];rfl
theorem Dy{e:List (Addr×Obj)}{m:St}{H:Hp}{s:yai}(I:Inv X e m H s):∀{ts:List Addr}{kvs:List (Key×V)},NF X.K H ts kvs->∃ps:List (Key×yaj),KV kvs ps/\ps.length=ts.length/\∀(i:Nat)(v:yaj)(p:Key×yaj),(ts.map Value.ref)[i]? =some v->ps[i]? =some p->jB (bu X.prog X.w) s.heap v p
 |[],_,h=>by cases h;exact⟨[],.nil,rfl,λi v p h=>by simp at h⟩
 |t::ts,_,h=>by
  cases h with
  |@cons _ q _ kvs r g=>
   obtain⟨ps,h1,h2,E⟩:=Dy I g;obtain⟨y,a,⟨o,z,C,n,hd⟩,_⟩:=I.tuple r;cases a with
   |@cons _ ku _ its' g1 a=>
    cases a with
    |@cons _ u _ its'' g2 a=>
     cases a;refine⟨(q.1,u)::ps,.cons ⟨rfl,g2⟩ h1,by simp[h2],λi v p l j=>?_⟩;cases i with
     |zero=>
      simp only[zco,zan,zcW.injEq] at l j;subst l;subst j;exact⟨t,ku,o,n,rfl,z,C,hd,oQ g1⟩
     |succ i=>
      simp only[zco,zam] at l j;exact E i v p l j
theorem ye{k:Nat}(F:aR k X.A):bN X (.type "dict") (LQ X.K):=by
 intro m s S H xs U Q I r h;obtain⟨a,z,j,rfl,e,L,Y,q⟩:=h;obtain⟨u,rfl,ru⟩:=vals1 r;cases ru;obtain⟨hz,its,c,C,g⟩:=(show aW X.prog X.w H s.heap a (.lst (z.map V.ref)) from I.hok a _ e)
 have y:=qo C;obtain⟨ps,n,E,p3⟩:=Dy I L;have W:=Paired.length n;refine yd (knd:=bu X.prog X.w) (its:=its.toArray) (ps:=ps) F.hd g (by rw[zbc,y,zbN];exact E.symm) (λi v p h1 h2=>p3 i v p (by rw[<-y];simpa using h1) h2) (by lia) λO tk P kp=>?_;have l:O.DictOf (bu X.prog X.w) s.heap.objs.size (bV ps):=P;refine⟨.ref s.heap.objs.size,_,I.laid (a:=s.heap.objs.size) (t':=tk) (o:=.dK (putAll j)) kp (zcS _) ⟨by have:=xw j;rw[yag];lia,beq_eq_false_iff_ne.mpr (Ne.symm (zcG I.big)),_,nV n .nil,l⟩,rfl,q _ (I.hok.fresh (zcS _))⟩
end L2
namespace M
open PySem PySem.Spec PyProof.Rows L2 M6
noncomputable def keyOf:D->Option Key
 |.int i=>some (.inl i)
 |.str x=>some (.inr x)
 |_=>none
noncomputable def kD:Key->D
 |.inl i=>.int i
 |.inr x=>.str x
noncomputable def pq(ks:List Key)(k:Key):Bool:=ks.any λj=>decide (j=k)
theorem rR{w:Wd}{d:D}{k:Key}(h:Rep K w d v)(e:keyOf d=some k):v=kV k:=by
 cases d<;>simp only[keyOf] at e<;>cases e
 ·simpa[Rep,kV] using h
 ·simpa[Rep,kV] using h
theorem Gx{w:Wd}{d:D}{k:Key}(h:Rep K w d v)(e:keyOf (bq S d)=some k):v=kV k:=by
 cases z:bq S d<;>rw[z] at e<;>simp only[keyOf] at e<;>cases e
 ·exact cG h z
 ·exact bT h z
def yl:AE:=λ_ S Q=>Q (.new (.dct [] [])) S
theorem GN:∀a H Q,bx K yl a H Q->Cw a H Q:=by
 rintro a H Q ⟨w,i,S,j,ok,env,q,bk⟩ p e;exact bk (.new (.dct [] [])) S _ w _ .refl (ok.alloc e) (ok.fresh e ⟨[],rfl,rfl,.nil⟩) q
def ym(a b:AE):AE:=λe S Q=>a e S λn o=>b e o λm l=>∃i j k d,bq l n.d=.dct i j/\keyOf m.d=some k/\pA i j k=some d/\Q (.dat d) l
theorem GP{a b:AE}:∀n H Q,bx K (ym a b) n H Q->Cy (bx K a) (bx K b) n H Q:=by
 rintro n H Q ⟨w,y,S,Qa,ok,env,q,bk⟩;refine⟨w,y,S,_,ok,env,q,.go λr1 W Z F H1 m u i I=>?_⟩;refine⟨F,y,W,_,u,env.le m,I,.go λr2 S2 Y X H2 l j e o=>?_⟩;obtain⟨ks,ds,k,d,E,C,z,q2⟩:=o;obtain⟨a,L,rfl,h1,rfl,O⟩:=gm j (i.le l) E;obtain⟨v,U,P⟩:=zV O z;rw[rR e C];refine⟨a,v,rfl,?_,bk.dat (m.trans l) j P q2⟩;rw[<-U];exact i6.k h1
def yk(a b c:AE):AS:=λD e S=>c e S λm y=>a e y λq u=>b e u λo l=>∃n j i k,q.d=.loc n/\keyOf o.d=some k/\l[n]? =some (some (.dct j i))/\i.length<1000/\D.nx e (l.set n (some (kq j i k m.d)))
theorem GK{a b c:AE}:∀D y H,iW K (yk a b c) D y H->Dd (bx K a) (bx K b) (bx K c) D y H:=by
 rintro D y H ⟨w,z,S,Da,ok,env,q,bk⟩;refine⟨w,z,S,_,ok,env,q,.go λr3 S1 v3 Y H1 j I m Z=>?_⟩;refine⟨Y,z,S1,_,I,env.le j,Z,.go λr1 S2 v1 X H2 i F l q2=>?_⟩;refine⟨X,z,S2,_,F,(env.le j).le i,q2,.go λr2 S3 v2 W H3 e mJ o C=>?_⟩;obtain⟨n,ks,ds,k,U,Q,O,hl,q3⟩:=C;rw[U] at l;obtain⟨a,L,rfl,h0,h1,rfl,P⟩:=ML mJ (l.le e) O;rw[rR o Q];have u:L.length=ds.length:=by have:=P.length;rw[zbN] at this;exact this
 refine⟨a,_,rfl,yE.k h1 (by rw[u,yag];lia),?_⟩;have E:=mJ.put O h0 (uE (k:=k) (m.le (i.trans e)) P);exact bk.nx z _ y W _ ((j.trans i).trans e) E (((env.le j).le i).le e) q3
def vQ(a:Bool):A2:=λx y S Q=>match bq S y with
 |.dct ks _=>∃k,keyOf (bq S x)=some k/\Q (.dat (.bl (a != pq ks k))) S
 |_=>False
theorem Kd:∀x y H Q,vz K (vQ neg) x y H Q->LN neg x y H Q:=by
 intro x y H Q h;obtain⟨w,d,e,S,u,ok,m,l,q,bk⟩:=h;unfold vQ at q;cases z:bq S e<;>rw[z] at q<;>first|exact q.elim|skip
 obtain⟨k,j,q⟩:=q;obtain⟨a,i,rfl,h1,rfl,o⟩:=gm ok l z;refine⟨a,i,k,rfl,Gx m j,h1,bk.dat .refl ok .bl ?_⟩;have n:pq (i.map (·.1)) k=(gQ i k).isSome:=by
  unfold pq;rw[zcC];exact ng k i
 rw[<-n];exact q
noncomputable def Cc(a:List Key×List D)(p:Key×D):List Key×List D:=if pq a.1 p.1=true then(a.1,(a.1.zip a.2).map λx=>if x.1=p.1 then p.2 else x.2) else(a.1++[p.1],a.2++[p.2])
noncomputable def sF(ps:List (Key×D)):List Key×List D:=ps.foldl Cc ([],[])
def Nu:AN:=λe S Q=>∃d,∃a:List (Key×D),e=[d]/\bq S d=.lst (a.map λp=>.tup [kD p.1,p.2])/\a.length<=1000/\Q (.new (.dct (sF a).1 (sF a).2)) S
theorem Iz(a:List Key×List D)(p:Key×D):kq a.1 a.2 p.1 p.2=.dct (Cc a p).1 (Cc a p).2:=by
 unfold kq Cc pq;split<;>rfl
theorem vq{w:Wd}:∀{ps:List (Key×D)}{kvs:List (Key×V)},Paired (λ(p:Key×D)(q:Key×V)=>p.1=q.1/\Rep K w p.2 q.2) ps kvs->∀{a:List Key×List D}{b:List (Key×V)},b.map (·.1)=a.1->av K w a.2 (b.map (·.2))->
  (kvs.foldl (λe p=>putK e p.1 p.2) b).map (·.1)=(ps.foldl Cc a).1/\av K w (ps.foldl Cc a).2 ((kvs.foldl (λe p=>putK e p.1 p.2) b).map (·.2))
 |[],_,h,a,b,g1,g2=>by cases h;exact⟨g1,g2⟩
 |p::ps,_,h,a,b,g1,g2=>by
  cases h with
  |@cons _ q _ kvs r t=>
   have i:=uE (K:=K) (k:=p.1) r.2 g2;rw[g1] at i;rw[show kq a.1 a.2 p.1 p.2=_ from Iz a p] at i;obtain⟨l,j,n,m⟩:=i;injection j with j;subst j;rw[r.1] at n m;exact vq t n m
theorem qy{w:Wd}{H:Hp}{S:aD}(ok:Ok K w H S):∀{ps:List (Key×D)}{xs:List V},av K w (ps.map λp=>D.tup [kD p.1,p.2]) xs->∃ts kvs,xs=ts.map V.ref/\NF K H ts kvs/\Paired (λ(p:Key×D)(q:Key×V)=>p.1=q.1/\Rep K w p.2 q.2) ps kvs
 |[],xs,h=>⟨[],[],by simpa[av] using h,.nil,.nil⟩
 |p::ps,xs,h=>by
  simp only[zco,av] at h;obtain⟨x,r,rfl,h1,h2⟩:=h;obtain⟨ts,kvs,rfl,n,m⟩:=qy ok h2;simp only[Rep] at h1;obtain⟨t,ys,rfl,l,a⟩:=h1;simp only[av] at a;obtain⟨y1,y,rfl,j,e,u,rfl,i,rfl⟩:=a;have o:y1=kV p.1:=rR j (by cases p.1<;>rfl);subst o;exact⟨t::ts,(p.1,e)::kvs,rfl,.cons (ee.same ok.base l) n,.cons ⟨rfl,i⟩ m⟩
section
variable {o i:Expr}
theorem gZ:GE X (.Dict [] [] pos) yl:=⟨mE L2.gZ GN⟩
theorem oj(a:X.A.units+1<cLine)(j:GE X o ta)(l:GE X i tb)(e:Jl i):GE X (.Subscript o i pos) (ym ta tb):=⟨mE (L2.dc a j.p l.p e) GP⟩
theorem nY{tc:AE}(e:X.A.units+1<cLine)(l:GE X o ta)(m:GE X i tb)(a:GE X value tc)(j:yau value (some (.Subscript o i pos')) pos.line X.env=pure false):GS X (.Assign [.Subscript o i pos'] value pos) (yk ta tb tc):=
 ⟨mS (L2.jP e l.p m.p a.p j) GK⟩
theorem DQ{k:Nat}(a:aR k X.A):pL X (yao .In) (vQ false):=⟨m2 (L4 (j6 a)) Kd⟩
theorem oz{k:Nat}(a:aR k X.A):pL X (yao .NotIn) (vQ true):=⟨m2 (A7 (j6 a)) Kd⟩
theorem Hu{k:Nat}(C:aR k X.A):tO X (.type "dict") Nu:=⟨mC (ye C) λxs H Q h=>by
 obtain⟨w,O,S,P,ok,rep,⟨d,j,rfl,z,L,q⟩,bk⟩:=h;obtain⟨v,rfl,y⟩:=dw rep;obtain⟨a,xs,rfl,h1,h2⟩:=bC ok y z;obtain⟨u,e,rfl,E,n⟩:=qy ok h2;have m:=Paired.length n;obtain⟨I,F⟩:=vq n (a:=([],[])) (b:=[]) rfl .nil;exact⟨a,u,e,rfl,h1,E,by lia,λp l=>bk (.new (.dct (sF j).1 (sF j).2)) S _ w _ .refl (ok.alloc l) (ok.fresh l ⟨_,rfl,I,F⟩) q⟩⟩
end
def nF(W:yal)(ks:List D):Addr->List Addr->Heap->Prop:=λa bs=>lY W a ((ks.map py).zip bs)
noncomputable def nO(W:yal)(ks:List D):MO:=.Ge (nF W ks) ks
def jj(d:D):Prop:=bY d=true/\cy (py d)=true/\(py d).depth<=6/\∃a,d=.tup a
noncomputable def putN(ks:List D)(k:D):List D:=if(ks.any λj=>decide (py j=py k))=true then ks else ks++[k]
theorem oW{w:Wd}{d:D}(ok:Ok K w H S)(h:Rep K w d v)(g:jj d):∃b,v=.ref b/\bM K H (py d) (.ref b):=by
 obtain⟨a,i,e,j,rfl⟩:=g;have h2:=h;simp only[Rep] at h2;obtain⟨b,ys,rfl,_⟩:=h2;have:=rK ok h (by simpa[bq] using a);exact⟨b,rfl,by simpa[bq] using this⟩
theorem ir{w:Wd}{H:Hp}{S:aD}(ok:Ok K w H S):∀{ks:List D}{bs:List Addr},av K w ks (bs.map V.ref)->(∀k∈ks,jj k)->q9 K H ((ks.map py).zip bs)
 |[],bs,_,_=>λx i=>by simp at i
 |k::ks,[],h,_=>by simp only[zcB,av] at h;obtain⟨_,_,z,_⟩:=h;cases z
 |k::ks,b::bs,h,g=>by
  simp only[zco,av] at h;obtain⟨x,r,e,h1,h2⟩:=h;injection e with e1 e2;subst e1;subst e2;intro y a;rw[zco,zaR] at a;rcases zcn.mp a with rfl|a
  ·obtain⟨l,e,hd⟩:=oW ok h1 (g k (by simp));cases e;exact⟨(g k (by simp)).2.1,(g k (by simp)).2.2.1,hd⟩
  ·exact ir ok h2 (λk j=>g k (zaA _ j)) y a
def Fz(W:yal):AE:=λ_ S Q=>Q (.new (nO W [])) S
theorem GL{W:yal}:∀a H Q,bx K (Fz W) a H Q->Cv W a H Q:=by
 rintro a H Q ⟨w,i,S,j,ok,env,q,bk⟩ p e;exact bk (.new (nO W [])) S _ w _ .refl (ok.alloc e) (ok.fresh e ⟨p,[],rfl,.nil⟩) q
def Fq(W:yal)(a b c:AE):AS:=λD e S=>c e S λm u=>a e u λo q=>b e q λj l=>∃n i,m.d=.bl true/\o.d=.loc n/\l[n]? =some (some (nO W i))/\jj j.d/\(∀k∈i,jj k)/\i.length<1000/\D.nx e (l.set n (some (nO W (putN i j.d))))
theorem Dv{ks:List D}{bs:List Addr}{k:D}{b:Addr}(h:ks.length=bs.length):∃a,xx ((ks.map py).zip bs) (py k) b=((putN ks k).map py).zip a/\(a=bs/\putN ks k=ks∨a=bs++[b]/\putN ks k=ks++[k]):=by
 have e:(((ks.map py).zip bs).any λx=>decide (x.1=py k))=(ks.any λj=>decide (py j=py k)):=by
  have:((ks.map py).zip bs).map (·.1)=ks.map py:=zbD (by rw[zbN];lia);have h1:(((ks.map py).zip bs).any λx=>decide (x.1=py k))=((((ks.map py).zip bs).map (·.1)).any λd=>decide (d=py k)):=by rw[zcC];rfl
  rw[h1,this,zcC];rfl
 unfold xx putN;rw[e];by_cases i:(ks.any λj=>decide (py j=py k))=true
 ·rw[yIp i,yIp i];exact⟨bs,rfl,.inl ⟨rfl,rfl⟩⟩
 ·rw[yIn i,yIn i];refine⟨bs++[b],?_,.inr ⟨rfl,rfl⟩⟩;rw[zbU,List.zip_append (by rw[zbN];exact h)];rfl
theorem Ln{W:yal}{a b c:AE}:∀D C H,iW K (Fq W a b c) D C H->JG K W (bx K a) (bx K b) (bx K c) D C H:=by
 rintro D C H ⟨w,E,S,Da,ok,env,q,bk⟩;refine⟨w,E,S,_,ok,env,q,.go λr3 S1 v3 w1 H1 j P y q1=>?_⟩;refine⟨w1,E,S1,_,P,env.le j,q1,.go λr1 S2 v1 w2 H2 o O i q2=>?_⟩;refine⟨w2,E,S2,_,O,(env.le j).le o,q2,.go λL S3 v2 w3 H3 m mJ l I=>?_⟩;obtain⟨n,Y,z0,z1,X,Q,g2,hl,q3⟩:=I;rw[z1] at i;have i:=i.le m;simp only[Rep] at i;obtain⟨a,h0,rfl⟩:=i;obtain⟨a1,u,Z,k2,k3,a',bs,rfl,F⟩:=mJ.live n _ X;rw[h0] at Z;cases Z;obtain⟨b,rfl,hb⟩:=oW mJ l Q;have z:Y.length=bs.length:=by have:=F.length;rw[zbN] at this;exact this.symm
 refine⟨a,a',b,_,py L.d,?_,rfl,rfl,k3,ir mJ F g2,Q.2.1,Q.2.2.1,hb,?_,λe=>?_⟩
 ·rw[nN y z0]
 ·rw[zbW,zbN];lia
 ·subst e;obtain⟨U,e1,e2⟩:=Dv (k:=L.d) (b:=b) z;rw[e1];refine bk.nx E _ C w3 _ ((j.trans o).trans m) (mJ.put X h0 (o':=nO W (putN Y L.d)) ⟨a',U,rfl,?_⟩) (((env.le j).le o).le m) q3;rcases e2 with⟨rfl,e⟩|⟨rfl,e⟩
  ·rw[e];exact F
  ·rw[e,zbU];exact F.snoc l
theorem yF{w:Wd}:∀{ks:List D}{bs:List Addr},av K w ks (bs.map V.ref)->∀x∈ks.zip bs,Rep K w x.1 (.ref x.2)
 |[],_,_,x,a=>by simp at a
 |_::_,[],_,x,a=>by simp at a
 |k::ks,b::bs,h,x,a=>by
  simp only[zco,av] at h;obtain⟨y,r,e,h1,h2⟩:=h;injection e with e1 e2;subst e1;subst e2;rw[zaR] at a;rcases zcn.mp a with rfl|a
  ·exact h1
  ·exact yF h2 x a
theorem jc{w:Wd}:∀{o:List (D×Addr)},(∀x∈o,Rep K w x.1 (.ref x.2))->av K w (o.map (·.1)) (o.map λx=>V.ref x.2)
 |[],_=>.nil
 |x::o,h=>.cons (h x (by simp)) (jc λy a=>h y (zaA _ a))
section
variable {o i:Expr}
theorem jV:GE X (.Dict [] [] pos) (Fz X.w):=⟨mE L2.jV GL⟩
theorem jN{k:Nat}(j:aR k X.A){tc:AE}(l:GE X o ta)(m:GE X i tb)(a:GE X value tc)(e:yau value (some (.Subscript o i pos')) pos.line X.env=pure false):GS X (.Assign [.Subscript o i pos'] value pos) (Fq X.w ta tb tc):=
 ⟨mS (L2.jN (by have:=j.units;lia) l.p m.p a.p e) Ln⟩
end
end M
namespace M8
open PySem PySem.Spec PyProof.Rows
open PySem.SetTable (Probe bits runEnd leap turns)
noncomputable def adv(m:Nat)(p:Probe):Probe:=
 if p.more> 0 then{p with j:=p.j+1,more:=p.more - 1} else
 {p with j:=(leap m p.i p.perturb).1,more:=runEnd m (leap m p.i p.perturb).1 - (leap m p.i p.perturb).1,i:=(leap m p.i p.perturb).1,perturb:=(leap m p.i p.perturb).2}
noncomputable def Kl(m:Nat)(q:Nat×Nat):Probe:={j:=q.1,more:=runEnd m q.1 - q.1,i:=q.1,perturb:=q.2,dummy:=none}
noncomputable def ru(m:Nat)(h:Int):Nat->Nat×Nat
 |0=>(bits h % (m+1),bits h)
 |k+1=>leap m (ru m h k).1 (ru m h k).2
noncomputable def road(m:Nat)(h:Int):Nat->Probe
 |0=>Kl m (ru m h 0)
 |n+1=>adv m (road m h n)
noncomputable def lcg(m i:Nat):Nat:=(i*5+1) % (m+1)
noncomputable def it(m:Nat):Nat->Nat->Nat
 |0,i=>i
 |k+1,i=>it m k (lcg m i)
def Way(m:Nat)(a:Nat->Prop)(h:Int)(j:Nat):Prop:=∃n,(road m h n).j=j/\∀e<n,a (road m h e).j
abbrev Ent:=Nat×(Int×yaj)
noncomputable def fs(l:List Ent):List Nat:=l.map (·.1)
structure Tab(t:SetTable)(es:Array (Int×yaj))(l:List Ent):Prop where
 dm:t.dummies=#[]
 pl:t.place.toList=fs l
 el:es.toList=l.map (·.2)
 up:(fs l).Pairwise (· < ·)
 mm:t.mask=7∨t.mask=31∨t.mask=127
 nf:l.length*5<t.mask*3
 le:∀e∈l,e.1<=t.mask
 way:∀e∈l,Way t.mask (· ∈fs l) e.2.1 e.1
section
variable {t:SetTable}{es:Array (Int×yaj)}{l:List Ent}
noncomputable def more(l:List Ent)(p:Nat)(e:Ent):List Ent:=l.take p++e::l.drop p
end
def RU(ow:Array (Option Nat))(j:Nat):Prop:=∃i,ow[j]? =some (some i)
structure Own(m:Nat)(hs:List Int)(ow:Array (Option Nat)):Prop where
 sz:ow.size=m+1
 wy:∀(j i:Nat),ow[j]? =some (some i)->i<hs.length/\Way m (RU ow) (hs.getD i 0) j
 al:∀(i:Nat),i<hs.length->∃j:Nat,ow[j]? =some (some i)
 un:∀(j j' i:Nat),ow[j]? =some (some i)->ow[j']? =some (some i)->j=j'
end M8
namespace L2
open PySem PySem.Spec PyProof.Rows M6 M8
section
variable {ta:TE}
theorem i7{a:Type}(f:a->Addr):∀{l:List a}{us:List yaj},Vals (l.map λx=>V.ref (f x)) us->us=l.map λx=>Value.ref (f x)
 |[],us,h=>by cases h;rfl
 |x::l,us,h=>by
  cases h with
  |cons h1 h2=>cases h1;rw[i7 f h2];rfl
end
end L2
namespace M
open PySem PySem.Spec PyProof.Rows L2 M6
theorem qj{w:Wd}:∀{ks:List D}{xs:List V},av K w ks xs->(∀k∈ks,∃es,k=.tup es)->∃bs:List Addr,xs=bs.map V.ref
 |[],xs,h,_=>by simp only[av] at h;exact⟨[],h⟩
 |k::ks,xs,h,g=>by
  simp only[av] at h;obtain⟨x,r,rfl,h1,h2⟩:=h;obtain⟨es,rfl⟩:=g k (by simp);simp only[Rep] at h1;obtain⟨b,ys,rfl,_⟩:=h1;obtain⟨bs,rfl⟩:=qj h2 λk a=>g k (zaA _ a);exact⟨b::bs,rfl⟩
end M
namespace M9
open PySem PySem.Spec PyProof.Rows
section
variable {w:yal}
structure ZAt(h:Heap)(z TI TO i1 i2 l1 l2:Addr)(f:yaj)(k:Nat):Prop where
 hz:IsZip h z TI TO f
 hTI:IsPair h TI (.ref i1) (.ref i2)
 hTO:∃a b,IsPair h TO a b
 h1:h.IsTupleIter i1 l1 k
 h2:h.IsTupleIter i2 l2 k
noncomputable abbrev NT(l:Addr):Obj:={cls:=.type "tuple_iterator",data:=.fields #[.ref l,.int 0 0]}
noncomputable abbrev SS(a b:yaj):Obj:={cls:=.type "tuple",data:=.seq #[a,b]}
noncomputable abbrev zO(a b:Addr):Obj:={cls:=.type "zip",data:=.fields #[.none,.bool false,.bool false,.ref a,.ref b]}
noncomputable abbrev q2(h:Heap)(e a:Addr):Heap:=(h.push (NT e)).push (NT a)
noncomputable abbrev q3(h:Heap)(a e:Addr):Heap:=(q2 h a e).push (SS (.ref h.objs.size) (.ref (h.push (NT a)).objs.size))
noncomputable abbrev q4(h:Heap)(e a:Addr):Heap:=(q3 h e a).push (SS .none .none)
noncomputable abbrev q5(h:Heap)(e a:Addr):Heap:=(q4 h e a).push (zO (q2 h e a).objs.size (q3 h e a).objs.size)
end
end M9
namespace L2
open PySem PySem.Spec PyProof.Rows M9
section
variable {σ:List (Option V)}
theorem Inv.yJ(I:Inv X pins σ H s)(k:∀b o,b ∉ ch->s.heap.get? b=some o->h'.get? b=some o)(i:∀b∈ch,lE X pins H b):Inv X pins σ H {s with heap:=h',toks:=t'}:=by
 have j:∀b u,H b=some u->b ∉ ch:=λb u e z=>by rw[(i b z).1] at e;cases e
 refine I.step (g':=s.gens) (d':=s.drawn) (ch:=ch) (λb l=>?_) (λb o _ _ a e _=>k b o a e) (λb o _ _ a e _=>⟨o.slots,k b o a e⟩) (λ_ _ _ _ n=>n)
  (λb o a e=>⟨o,k b o a e⟩) (λ_ _ e=>e) (λ_ _ _ e=>e) (λb L e=>⟨#[],by rw[e];simp⟩) (λm C=>?_) (λb u e=>?_) I.bare
 ·exact⟨(i b l).2.2.2.1,(i b l).2.1,(i b l).2.2.2.2.1,(i b l).2.2.2.2.2⟩
 ·obtain⟨o,E,F,y,r⟩:=C;exact⟨o,E,F,k _ o (λz=>(i _ z).2.1 rfl) y,r⟩
 ·refine(I.hok b u e).stay (λc v a q=>k c v ?_ q) (λ_ q=>q) λ_ _ q=>q;rcases a with z|z
  ·rw[z];exact j b u e
  ·exact j c _ z
end
end L2
namespace M10
open PySem PyProof.Rows
noncomputable def sC:Bool->Keyed->Array Keyed->Nat->Nat->Nat->StateT SortSt Sem (Option Nat):=sortPriv% PySem.Builtin.gallop
noncomputable def D0:Array Keyed->Array Keyed->StateT SortSt Sem (Array Keyed):=sortPriv% PySem.Builtin.mergeLo
noncomputable def D3:Array Keyed->Array Keyed->StateT SortSt Sem (Array Keyed):=sortPriv% PySem.Builtin.mergeHi
noncomputable def beyond(left:Bool)(key:Keyed)(arr:Array Keyed)(base i:Nat):StateT SortSt Sem (Option Bool):=do
 let x <-elem' arr (base+i)
 if left then lt' x key else return (<-lt' key x).map (!·)
noncomputable def zT(left:Bool)(key:Keyed)(arr:Array Keyed)(base n a e:Nat):StateT SortSt Sem (Option Nat):=do
 let mut a:=a
 let mut e:=e
 for _ in [0:n] do
  if a≥e then break
  let m:=a+(e - a) / 2
  let some more <-beyond left key arr base m|return none
  if more then a:=m+1 else e:=m
 return some e
section
variable {w:yal}
theorem u9{left:Bool}{key:Keyed}{arr:Array Keyed}{base e:Nat}{st:SortSt}{Q:Option Nat->SortSt->Prop}{P:Nat->Bool}(z:∀i j,i<=j->j<n->P j=true->P i=true)(L:∀i,i<n->∀Q:Option Bool->SortSt->Prop,Q (some (P i)) st->wpS (model prog w) A E s (beyond left key arr base i) Q st)(h1:lo<=e)(h2:e<=n)(S:∀i,i<lo->P i=true)(O:∀i,e<=i->i<n->P i=false)(h:∀k,k<=n->(∀i,i<k->P i=true)->(∀i,k<=i->i<n->P i=false)->Q (some k) st):wpS (model prog w) A E s (zT left key arr base n lo e) Q st:=by
 unfold zT;dsimp only;refine wpS_bind (wpS_mono (wpS_forRange (I:=λx c a=>a=st/\∃l r,c=(none,l,r)/\l<=r/\r<=n/\r - l<=n - x/\(∀i,i<l->P i=true)/\∀i,r<=i->i<n->P i=false) (Q:=λc a=>a=st/\∃k,c=(none,k,k)/\k<=n/\(∀i,i<k->P i=true)/\∀i,k<=i->i<n->P i=false) ?step ?fin ⟨rfl,lo,e,rfl,h1,h2,by lia,S,O⟩) ?post)
 case post=>
  rintro c a ⟨rfl,k,rfl,H,F,C⟩;exact wpS_pure (h k H F C)
 case fin=>
  rintro c a ⟨rfl,l,r,rfl,W,u,U,q,o⟩;obtain rfl:l=r:=by lia
  exact⟨rfl,l,rfl,u,q,o⟩
 case step=>
  rintro x c a _ X ⟨rfl,l,r,rfl,W,u,U,q,o⟩;dsimp only;by_cases m:l≥r
  ·rw[yIp m];obtain rfl:l=r:=by lia
   exact wpS_pure ⟨rfl,l,rfl,u,q,o⟩
  ·rw[yIn m];refine wpS_bind (L _ (by (try clear U;lia)) _ ?_);dsimp only;cases y:P (l+(r - l) / 2) with
   |true=>
    rw[yIp rfl];refine wpS_pure ⟨rfl,_,_,rfl,by (try clear W U;lia),u,by (try clear h2 W y;lia),λi e=>?_,o⟩;exact z i _ (by lia) (by lia) y
   |false=>
    rw[yIn (by decide)];refine wpS_pure ⟨rfl,_,_,rfl,by simp,by lia,by (try clear h2 W;lia),q,λi h1 h2=>?_⟩;cases e:P i with
    |false=>rfl
    |true=>rw[z _ i h1 h2 e] at y;cases y
theorem S6{left:Bool}{key:Keyed}{arr:Array Keyed}{base a:Nat}{st:SortSt}{Q:Option Nat->SortSt->Prop}{P:Nat->Bool}(Z:a<n)(H:∀i j,i<=j->j<n->P j=true->P i=true)(F:∀i,i<n->∀Q:Option Bool->SortSt->Prop,Q (some (P i)) st->wpS (model prog w) A E s (beyond left key arr base i) Q st)(h:∀k,k<=n->(∀i,i<k->P i=true)->(∀i,k<=i->i<n->P i=false)->Q (some k) st):wpS (model prog w) A E s (sC left key arr base n a) Q st:=by
 have S:∀i j,i<=j->j<n->P i=false->P j=false:=λi j h1 h2 U=>by
  cases X:P j with
  |false=>rfl
  |true=>rw[H i j h1 h2 X] at U;cases U
 refine wpS_bind (F a Z _ ?_);dsimp only;cases O:P a with
 |true=>
  rw[yIp rfl];refine wpS_bind (wpS_mono (wpS_forRange (I:=λx c e=>e=st/\∃l o,c=(none,l,o)/\l<o/\a+l<n/\P (a+l)=true/\x+1<=o) (Q:=λc e=>e=st/\∃l o,c=(none,l,o)/\l<o/\a+l<n/\P (a+l)=true/\(n - a<=o∨(a+o<n/\P (a+o)=false))) ?step ?fin ⟨rfl,0,1,rfl,by simp,by omega,O,by simp⟩) ?post)
  case fin=>
   rintro c e ⟨rfl,l,o,rfl,z,y,q,u⟩;exact⟨rfl,l,o,rfl,z,y,q,.inl (by lia)⟩
  case step=>
   rintro x c e _ W ⟨rfl,l,o,rfl,z,y,q,u⟩;dsimp only;by_cases m:o≥n - a
   ·rw[yIp m];exact wpS_pure ⟨rfl,l,o,rfl,z,y,q,.inl m⟩
   ·rw[yIn m];refine wpS_bind (F _ (by lia) _ ?_);dsimp only;cases C:P (a+o) with
    |true=>
     rw[yIn (by decide)];exact wpS_pure ⟨rfl,o,2*o+1,rfl,by lia,by lia,C,by lia⟩
    |false=>
     rw[yIp (by decide)];exact wpS_pure ⟨rfl,l,o,rfl,z,y,q,.inr ⟨by lia,C⟩⟩
  case post=>
   rintro c e ⟨rfl,l,o,rfl,z,y,q,u⟩;show wpS _ _ _ _ (zT left key arr base n (a+l+1) (a+min o (n - a))) _ _;refine u9 H F (by (try clear Z;lia)) (by (try clear u;lia)) (λi Y=>H i _ (by lia) (by omega) q) (λi h1 h2=>?_) h;rcases u with u|⟨u,L⟩
   ·lia
   ·exact S _ i (by (try clear u;lia)) h2 L
 |false=>
  rw[yIn (by decide)];refine wpS_bind (wpS_mono (wpS_forRange (I:=λx c e=>e=st/\∃l o,c=(none,l,o)/\l<o/\l<=a/\P (a - l)=false/\x+1<=o) (Q:=λc e=>e=st/\∃l o,c=(none,l,o)/\l<o/\l<=a/\P (a - l)=false/\(a+1<=o∨(o<=a/\P (a - o)=true))) ?step ?fin ⟨rfl,0,1,rfl,by lia,by simp,O,by lia⟩) ?post)
  case fin=>
   rintro c e ⟨rfl,l,o,rfl,z,y,q,u⟩;exact⟨rfl,l,o,rfl,z,y,q,.inl (by lia)⟩
  case step=>
   rintro x c e _ W ⟨rfl,l,o,rfl,z,y,q,u⟩;dsimp only;by_cases m:o≥a+1
   ·rw[yIp m];exact wpS_pure ⟨rfl,l,o,rfl,z,y,q,.inl m⟩
   ·rw[yIn m];refine wpS_bind (F _ (by (try clear m;lia)) _ ?_);dsimp only;cases C:P (a - o) with
    |true=>
     rw[yIp rfl];exact wpS_pure ⟨rfl,l,o,rfl,z,y,q,.inr ⟨by lia,C⟩⟩
    |false=>
     rw[yIn (by decide)];exact wpS_pure ⟨rfl,o,2*o+1,rfl,by lia,by lia,C,by lia⟩
  case post=>
   rintro c e ⟨rfl,l,o,rfl,z,y,q,u⟩;show wpS _ _ _ _ (zT left key arr base n (a+1 - min o (a+1)) (a - l)) _ _;refine u9 H F (by (try clear Z;omega)) (by lia) (λi Y=>?_) (λi h1 h2=>S _ i h1 h2 q) h;rcases u with u|⟨u,L⟩
   ·lia
   ·exact H i _ (by (try clear Z;lia)) (by (try clear z Y;lia)) L
end
noncomputable def Lg:Nat->StateT SortSt Sem Unit:=sortPriv% PySem.Builtin.setMinGallop
section
variable {R:Keyed->Int}
def bz(R:Keyed->Int)(l:List Keyed):Prop:=l.Pairwise λa b=>R a<=R b
structure MI(R:Keyed->Int)(X Y o:List Keyed)(i j:Nat):Prop where
 perm:(o++(X.drop i++Y.drop j)).Perm (X++Y)
 so:bz R o
 le:∀a∈o,∀b∈X.drop i++Y.drop j,R a<=R b
theorem bz.drop{l:List Keyed}(h:bz R l)(n:Nat):bz R (l.drop n):=h.sublist (List.drop_sublist n l)
theorem bz.take{l:List Keyed}(h:bz R l)(n:Nat):bz R (l.take n):=h.sublist (List.take_sublist n l)
theorem bz.app{l m:List Keyed}(h:bz R l)(g:bz R m)(c:∀a∈l,∀b∈m,R a<=R b):bz R (l++m):=zaD.mpr ⟨h,g,c⟩
theorem bz.at{l:List Keyed}(h:bz R l)(a:i<=j)(m:j<l.length)(n:i<l.length):R l[i]<=R l[j]:=by
 rcases Nat.eq_or_lt_of_le a with e|e
 ·subst e;exact zcV _
 ·exact(zah.mp h) i j n m e
theorem bz.ge{l:List Keyed}(h:bz R l)(e:i<l.length):∀b∈l.drop i,R l[i]<=R b:=λb j=>by
 obtain⟨k,a,rfl⟩:=zaI j;rw[zbw] at a;rw[zbj];exact h.at (by simp) (by lia) e
theorem MI.xs{X Y o:List Keyed}(M:MI R X Y o i j)(n:bz R X)(k:Nat)(h:∀a∈(X.drop i).take k,∀b∈Y.drop j,R a<=R b):MI R X Y (o++(X.drop i).take k) (i+k) j:=by
 have e:X.drop i=(X.drop i).take k++X.drop (i+k):=by rw[<-List.drop_drop];exact(zav k _).symm
 refine⟨?_,M.so.app ((n.drop i).take k) λa m b l=>M.le a m b (zaB _ (zaE l)),λa m b l=>?_⟩
 ·refine List.Perm.trans ?_ M.perm;rw[zbg,<-zbg ((X.drop i).take k),<-e]
 ·rcases zbM.mp m with m|m
  ·refine M.le a m b ?_;rcases zbM.mp l with l|l
   ·exact zaB _ (by rw[e];exact zat _ l)
   ·exact zat _ l
  ·rcases zbM.mp l with l|l
   ·have:=n.drop i;rw[e] at this;exact(zaD.mp this).2.2 a m b l
   ·exact h a m b l
theorem MI.ys{X Y o:List Keyed}(M:MI R X Y o i j)(n:bz R Y)(k:Nat)(h:∀a∈(Y.drop j).take k,∀b∈X.drop i,R a<=R b):MI R X Y (o++(Y.drop j).take k) i (j+k):=by
 have e:Y.drop j=(Y.drop j).take k++Y.drop (j+k):=by rw[<-List.drop_drop];exact(zav k _).symm
 refine⟨?_,M.so.app ((n.drop j).take k) λa m b l=>M.le a m b (zat _ (zaE l)),λa m b l=>?_⟩
 ·refine List.Perm.trans ?_ M.perm;rw[zbg];refine List.Perm.append_left o ?_
  conv=>rhs;rw[e]
  rw[<-zbg,<-zbg];exact List.Perm.append_right _ zaw
 ·rcases zbM.mp m with m|m
  ·refine M.le a m b ?_;rcases zbM.mp l with l|l
   ·exact zaB _ l
   ·exact zat _ (by rw[e];exact zat _ l)
  ·rcases zbM.mp l with l|l
   ·exact h a m b l
   ·have:=n.drop j;rw[e] at this;exact(zaD.mp this).2.2 a m b l
theorem take1{l:List Keyed}(a:i<l.length):(l.drop i).take 1=[l[i]]:=by
 rw[zag a];rfl
theorem MI.x1{X Y o:List Keyed}(M:MI R X Y o i j)(n:bz R X)(e:i<X.length)(h:∀b∈Y.drop j,R X[i]<=R b):MI R X Y (o++[X[i]]) (i+1) j:=by
 have:=M.xs n 1 λa l b m=>by rw[take1 e] at l;rw[zaS.mp l];exact h b m
 rw[take1 e] at this;exact this
theorem MI.y1{X Y o:List Keyed}(M:MI R X Y o i j)(n:bz R Y)(e:j<Y.length)(h:∀b∈X.drop i,R Y[j]<=R b):MI R X Y (o++[Y[j]]) i (j+1):=by
 have:=M.ys n 1 λa l b m=>by rw[take1 e] at l;rw[zaS.mp l];exact h b m
 rw[take1 e] at this;exact this
def Told(R:Keyed->Int)(X Y:List Keyed)(r:Array Keyed):Prop:=bz R r.toList/\r.toList.Perm (X++Y)
theorem MI.Sa{X Y o:List Keyed}(M:MI R X Y o i j)(q:bz R X)(l:Y.length<=j):bz R (o++X.drop i)/\(o++X.drop i).Perm (X++Y):=by
 have e:Y.drop j=[]:=zao l;refine⟨M.so.app (q.drop i) λa n b m=>M.le a n b (zaB _ m),?_⟩;have:=M.perm;rw[e,zbO] at this;exact this
theorem MI.R9{X Y o:List Keyed}(M:MI R X Y o i j)(q:bz R Y)(l:X.length<=i):bz R (o++Y.drop j)/\(o++Y.drop j).Perm (X++Y):=by
 have e:X.drop i=[]:=zao l;refine⟨M.so.app (q.drop j) λa n b m=>M.le a n b (zat _ m),?_⟩;have:=M.perm;rw[e,zbT] at this;exact this
theorem MI.last{X Y o:List Keyed}(M:MI R X Y o i j)(n:bz R X)(m:bz R Y)(h:∀a∈Y.drop j,∀b∈X.drop i,R a<=R b):bz R (o++Y.drop j++X.drop i)/\(o++Y.drop j++X.drop i).Perm (X++Y):=by
 refine⟨(M.so.app (m.drop j) λa e b l=>M.le a e b (zat _ l)).app (n.drop i) λa e b l=>?_,?_⟩
 ·rcases zbM.mp e with e|e
  ·exact M.le a e b (zaB _ l)
  ·exact h a e b l
 ·rw[zbg];exact(List.Perm.append_left o zaw).trans M.perm
end
section
variable {w:yal}{R:Keyed->Int}{κ:SortKind}{T:Keyed->Prop}
def tP(prog:yak)(w:yal)(A:yam)(s:yai)(κ:SortKind)(R:Keyed->Int)(T:Keyed->Prop):Prop:=
 ∀x y,T x->T y->∀(E:yaj->yai->Prop)(Q:Bool->yai->Prop),Q (decide (R x<R y)) s->yas (model prog w) A (keyLt' κ x.1 y.1) Q E s
theorem uR(C:tP prog w A s κ R T){x y:Keyed}{st:SortSt}{Q:Option Bool->SortSt->Prop}(i:kindOf st=κ)(e:T x)(a:T y)(h:Q (some (decide (R x<R y))) st):wpS (model prog w) A E s (lt' x y) Q st:=by
 rw[lt'_eq];refine wpS_bind (wpS_get ?_);rw[i];refine wpS_bind (wpS_lift (wpAny_attempt (C x y e a _ _ ⟨rfl,?_⟩)));exact wpS_pure h
theorem mj{g:Nat}{st:SortSt}{Q:Unit->SortSt->Prop}(h:Q () (SortSt.mk' (kindOf st) (arrOf st) (pendingOf st) g (failedOf st))):wpS (model prog w) A E s (Lg g) Q st:=wpS_modify h
theorem bf{arr:Array Keyed}{st:SortSt}{Q:Keyed->SortSt->Prop}(a:i<arr.toList.length)(h:Q arr.toList[i] st):wpS (model prog w) A E s (elem' arr i) Q st:=by
 rw[elem'_eq,<-zax,zal a];exact wpS_pure h
theorem Ex(C:tP prog w A s κ R T){key:Keyed}{arr:Array Keyed}{base e:Nat}{st:SortSt}{Q:Option Nat->SortSt->Prop}(U:kindOf st=κ)(X:∀x∈arr.toList,T x)(o:T key)(O:∀i j (m:base+i<arr.toList.length)(F:base+j<arr.toList.length),i<=j->j<n->R arr.toList[base+i]<=R arr.toList[base+j])(W:e<n)(Y:base+n<=arr.toList.length)(h:∀k,k<=n->(∀i (m:base+i<arr.toList.length),i<k->R arr.toList[base+i]<=R key)->(∀i (m:base+i<arr.toList.length),k<=i->i<n->R key<R arr.toList[base+i])->Q (some k) st):
  wpS (model prog w) A E s (sC false key arr base n e) Q st:=by
 refine S6 (P:=λi=>!decide (R key<R (arr.toList.getD (base+i) (.none,.none)))) W (λi j z F S=>?_) (λi m Q q=>?_) (λk L I H=>h k L (λi m l=>?_) λi m l y=>?_)
 ·have a:base+i<arr.toList.length:=by lia
  have u:base+j<arr.toList.length:=by lia
  simp only[zcY,zal a,zal u,zbK,Bool.not_eq_true',decide_eq_false_iff_not] at S⊢;have:=O i j a u z F;lia
 ·have a:base+i<arr.toList.length:=by lia
  unfold beyond;refine wpS_bind (bf a ?_);rw[yIn (by decide)];refine wpS_bind (uR C U o (X _ (zbB a)) (wpS_pure ?_));simp only[zcY,zal a,zbK] at q;exact q
 ·have:=I i l;simp only[zcY,zal m,zbK,Bool.not_eq_true',decide_eq_false_iff_not] at this;lia
 ·have:=H i l y;simp only[zcY,zal m,zbK,Bool.not_eq_false',decide_eq_true_eq] at this;exact this
theorem Ey(C:tP prog w A s κ R T){key:Keyed}{arr:Array Keyed}{base e:Nat}{st:SortSt}{Q:Option Nat->SortSt->Prop}(U:kindOf st=κ)(X:∀x∈arr.toList,T x)(o:T key)(O:∀i j (m:base+i<arr.toList.length)(F:base+j<arr.toList.length),i<=j->j<n->R arr.toList[base+i]<=R arr.toList[base+j])(W:e<n)(Y:base+n<=arr.toList.length)(h:∀k,k<=n->(∀i (m:base+i<arr.toList.length),i<k->R arr.toList[base+i]<R key)->(∀i (m:base+i<arr.toList.length),k<=i->i<n->R key<=R arr.toList[base+i])->Q (some k) st):
  wpS (model prog w) A E s (sC true key arr base n e) Q st:=by
 refine S6 (P:=λi=>decide (R (arr.toList.getD (base+i) (.none,.none))<R key)) W (λi j z F S=>?_) (λi m Q q=>?_) (λk L I H=>h k L (λi m l=>?_) λi m l y=>?_)
 ·have a:base+i<arr.toList.length:=by lia
  have u:base+j<arr.toList.length:=by lia
  simp only[zcY,zal a,zal u,zbK,decide_eq_true_eq] at S⊢;have:=O i j a u z F;lia
 ·have a:base+i<arr.toList.length:=by lia
  unfold beyond;refine wpS_bind (bf a ?_);rw[yIp rfl];refine uR C U (X _ (zbB a)) o ?_;simp only[zcY,zal a,zbK] at q;exact q
 ·have:=I i l;simp only[zcY,zal m,zbK,decide_eq_true_eq] at this;exact this
 ·have:=H i l y;simp only[zcY,zal m,zbK,decide_eq_false_iff_not] at this;lia
end
noncomputable abbrev fm(st:SortSt)(g:Nat):SortSt:=SortSt.mk' (kindOf st) (arrOf st) (pendingOf st) g (failedOf st)
theorem mR(x:Array Keyed)(i:Nat):(x.extract i x.size).toList=x.toList.drop i:=by
 rw[zaG];exact zap (by simp)
theorem zZ(x:Array Keyed)(i k:Nat):(x.extract i (i+k)).toList=(x.toList.drop i).take k:=by
 rw[zaG,zai];have:i+k - i=k:=by simp
 rw[this]
section
variable {w:yal}{R:Keyed->Int}{κ:SortKind}{T:Keyed->Prop}
def MB(R:Keyed->Int)(x y o:Array Keyed)(i j:Nat):Prop:=MI R x.toList y.toList o.toList i j/\i+1<x.size/\j<y.size
theorem gU{x y o:Array Keyed}(M:MI R x.toList y.toList o.toList i j)(l:bz R x.toList)(a:bz R y.toList)(h:y.size<=j∨x.size<=i):Told R x.toList y.toList (o++x.extract i x.size++y.extract j y.size):=by
 unfold Told;rw[zaL,zaL,mR,mR];rcases h with h|h
 ·have e:y.toList.drop j=[]:=zao (by simpa using h);rw[e,zbO];exact M.Sa l (by simpa using h)
 ·have e:x.toList.drop i=[]:=zao (by simpa using h);rw[e,zbO];exact M.R9 a (by simpa using h)
theorem jD{x y o:Array Keyed}(M:MI R x.toList y.toList o.toList i j)(u:bz R x.toList)(q:bz R y.toList)(l:∀a∈y.toList,∀b∈x.toList.drop (x.size - 1),R a<=R b)(h:i+1=x.size):Told R x.toList y.toList (o++y.extract j y.size++x.extract i x.size):=by
 unfold Told;rw[zaL,zaL,mR,mR];have e:i=x.size - 1:=by lia
 exact M.last u q λa n b m=>l a (zaF n) b (by rw[<-e];exact m)
theorem m6{l:List Keyed}{P:Keyed->Prop}(h:∀u (a:i<=u/\u<l.length),P (l[u]'(a.2))):∀b∈l.drop i,P b:=λb j=>by
 obtain⟨k,e,rfl⟩:=zaI j;rw[zbw] at e;rw[zbj];exact h (i+k) ⟨by lia,by lia⟩
theorem m5{l:List Keyed}{k:Nat}{P:Keyed->Prop}(h:∀u (j:i+u<l.length),u<k->P l[i+u]):∀b∈(l.drop i).take k,P b:=λb e=>by
 obtain⟨v,a,rfl⟩:=zaI e;rw[zbv,zbw] at a;rw[zbk,zbj];exact h v (by lia) (by lia)
theorem SX{e a:Type}{c:Prop}[Decidable c]{Q:e->SortSt->Prop}{st:SortSt}{n m:a}(F:Unit->a->StateT SortSt Sem e)(h:∀k,wpS (model prog w) A E s (F () k) Q st):wpS (model prog w) A E s (if c then F () n else F () m) Q st:=by
 split<;>exact h _
theorem QN{e a δ:Type}{c:Prop}[Decidable c]{p:StateT SortSt Sem e}{Q:e->SortSt->Prop}{st:SortSt}{n:a}{m:δ}(F:Unit->a->δ->StateT SortSt Sem e)(P:a->δ->Prop)(J:∀b g,P b g->wpS (model prog w) A E s (F () b g) Q st)(j:c->(∀b g,P b g->wpS (model prog w) A E s (F () b g) Q st)->wpS (model prog w) A E s p Q st)(i:¬c->P n m):wpS (model prog w) A E s (if c then p else F () n m) Q st:=by
 split
 ·next h=>exact j h J
 ·next h=>exact J _ _ (i h)
theorem xH(C:tP prog w A s κ R T){x y:Array Keyed}{st:SortSt}{Q:Array Keyed->SortSt->Prop}(hk:kindOf st=κ)(hTx:∀a∈x.toList,T a)(hTy:∀a∈y.toList,T a)(S:bz R x.toList)(O:bz R y.toList)(hx:0<x.size)(hy:0<y.size)(h0:∀b∈x.toList,R (y.toList[0]'(by simpa using hy))<=R b)(hl:∀a∈y.toList,∀b∈x.toList.drop (x.size - 1),R a<=R b)(h:∀r g,Told R x.toList y.toList r->Q r (fm st g)):wpS (model prog w) A E s (D0 x y) Q st:=by
 have lx:x.toList.length=x.size:=by simp
 have ly:y.toList.length=y.size:=by simp
 have M0:MI R x.toList y.toList [] 0 0:=⟨by simp,.nil,λa ha=>by simp at ha⟩
 have M1:=M0.y1 O (by omega) (λb W=>h0 b (by simpa using W));refine wpS_bind (wpS_lift (wpAny_rule ⟨rfl,?_⟩));refine wpS_bind (bf (by omega) ?_);show wpS (model prog w) A E s (ite _ _ _) _ _;have M1':MI R x.toList y.toList (#[y.toList[0]'(by omega)]:Array Keyed).toList 0 1:=M1;by_cases c1:1=y.size
 ·rw[yIp (by simpa using c1)];exact wpS_pure (h _ (gallopOf st) (gU M1' S O (.inl (by lia))))
 rw[yIn (by simpa using c1)];by_cases c2:0+1=x.size
 ·rw[yIp (by simpa using c2)];exact wpS_pure (h _ (gallopOf st) (jD M1' S O hl c2))
 rw[yIn (by simpa using c2)];refine wpS_bind (wpS_get ?_);refine wpS_bind (wpS_mono (wpS_forRange (I:=λn c l=>(∃g,l=fm st g)/\∃o i j mg,c=(none,o,i,j,mg)/\MB R x y o i j/\1+n<=i+j) (Q:=λc l=>(∃g,l=fm st g)/\((∃r o i j mg,c=(some r,o,i,j,mg)/\Told R x.toList y.toList r)∨∃o i j mg,c=(none,o,i,j,mg)/\MB R x y o i j/\1+(x.size+y.size)<=i+j)) ?step ?fin ⟨⟨gallopOf st,rfl⟩,_,0,1,_,rfl,⟨M1',by lia,by lia⟩,by simp⟩) ?post)
 case fin=>
  rintro c l ⟨hg,o,i,j,mg,rfl,M,hn⟩;exact⟨hg,.inr ⟨o,i,j,mg,rfl,M,by assumption⟩⟩
 case post=>
  rintro c l ⟨⟨g,rfl⟩,⟨r,o,i,j,mg,rfl,ht⟩|⟨o,i,j,mg,rfl,M,hn⟩⟩
  ·exact wpS_pure (h r g ht)
  ·have:=M.2.1;have:=M.2.2;lia
 case step=>
  rintro n c l _ hn ⟨⟨g,rfl⟩,o,i,j,mg,rfl,M,hp⟩;refine wpS_bind (wpS_mono (wpS_forRange (I:=λn' c l=>l=fm st g/\∃U L H p q,c=(none,U,L,H,p,q)/\MB R x y U L H/\i+j+n'<=L+H) (Q:=λc l=>l=fm st g/\((∃r U L H p q,c=(some r,U,L,H,p,q)/\Told R x.toList y.toList r)∨∃U L H p q,c=(none,U,L,H,p,q)/\MB R x y U L H/\i+j+1<=L+H)) ?qd ?fin1 ⟨rfl,o,i,j,0,0,rfl,M,by simp⟩) ?post1)
  case fin1=>
   rintro c l ⟨rfl,U,L,H,p,q,rfl,M',hn'⟩;exact⟨rfl,.inr ⟨U,L,H,p,q,rfl,M',by lia⟩⟩
  case qd=>
   rintro n' c l _ hn' ⟨rfl,U,L,H,p,q,rfl,⟨M',b1,b2⟩,hp'⟩;dsimp only;refine wpS_bind (bf (by omega) (wpS_bind (bf (by lia) (wpS_bind (uR C hk (hTy _ (zbB _)) (hTx _ (zbB _)) ?_)))));dsimp only;by_cases Z:R (y.toList[H]'(by omega))<R (x.toList[L]'(by lia))
   ·rw[yDt Z,yIp rfl];refine wpS_bind (bf (by omega) ?_);have N:=M'.y1 O (by omega) (λb W=>zcK (zcL Z) (S.ge (by lia) b W));rw[<-zbo] at N;by_cases e:H+1=y.size
    ·rw[yIp (by simpa using e)];exact wpS_pure ⟨rfl,.inl ⟨_,_,_,_,_,_,rfl,gU N S O (.inl (by lia))⟩⟩
    ·rw[yIn (by simpa using e)];split
     ·exact wpS_pure ⟨rfl,.inr ⟨_,_,_,_,_,rfl,⟨N,b1,by lia⟩,by lia⟩⟩
     ·exact wpS_pure ⟨rfl,_,_,_,_,_,rfl,⟨N,b1,by lia⟩,by lia⟩
   ·rw[yDf Z,yIn (by decide)];refine wpS_bind (bf (by lia) ?_);have N:=M'.x1 S (by lia) (λb W=>zcK (Int.not_lt.mp Z) (O.ge (by omega) b W));rw[<-zbo] at N;by_cases e:L+1+1=x.size
    ·rw[yIp (by simpa using e)];exact wpS_pure ⟨rfl,.inl ⟨_,_,_,_,_,_,rfl,jD N S O hl e⟩⟩
    ·rw[yIn (by simpa using e)];split
     ·exact wpS_pure ⟨rfl,.inr ⟨_,_,_,_,_,rfl,⟨N,by lia,b2⟩,by lia⟩⟩
     ·exact wpS_pure ⟨rfl,_,_,_,_,_,rfl,⟨N,by lia,b2⟩,by lia⟩
  case post1=>
   rintro c l ⟨rfl,⟨r,U,L,H,p,q,rfl,ht⟩|⟨U,L,H,p,q,rfl,M',hp'⟩⟩
   ·exact wpS_pure ⟨⟨g,rfl⟩,.inl ⟨r,_,_,_,_,rfl,ht⟩⟩
   ·refine wpS_bind (wpS_lift (wpAny_rule ⟨rfl,?_⟩));refine wpS_bind (wpS_mono (wpS_forRange (I:=λ_ c l=>(∃g,l=fm st g)/\∃X F z mg p q,c=(none,X,F,z,mg,p,q)/\MB R x y X F z/\L+H<=F+z) (Q:=λc l=>(∃g,l=fm st g)/\((∃r X F z mg p q,c=(some r,X,F,z,mg,p,q)/\Told R x.toList y.toList r)∨∃X F z mg p q,c=(none,X,F,z,mg,p,q)/\MB R x y X F z/\L+H<=F+z)) ?step2 ?fin2 ⟨⟨g,rfl⟩,U,L,H,_,_,_,rfl,M',by simp⟩) ?post2)
    case fin2=>
     rintro c l ⟨hg,X,F,z,mg,p,q,rfl,M2,hp2⟩;exact⟨hg,.inr ⟨X,F,z,mg,p,q,rfl,M2,hp2⟩⟩
    case post2=>
     rintro c l ⟨⟨g2,rfl⟩,⟨r,X,F,z,mg2,p,q,rfl,ht⟩|⟨X,F,z,mg2,p,q,rfl,M2,hp2⟩⟩
     ·exact wpS_pure ⟨⟨g2,rfl⟩,.inl ⟨r,_,_,_,_,rfl,ht⟩⟩
     ·dsimp only;refine wpS_bind (mj (wpS_pure ⟨⟨mg2+1,rfl⟩,_,_,_,_,rfl,M2,by lia⟩))
    case step2=>
     rintro n2 c l _ hn2 ⟨⟨g2,rfl⟩,X,F,z,mg2,p,q,rfl,⟨M2,b1,b2⟩,hp2⟩;dsimp -zeta only;extract_lets s1 out s2 ia s3 ib s4 mg s5 ac bc ib1 jp mg1;refine SX jp λm=>?_;dsimp -zeta only[jp,out,ia,ib,ib1,ac,bc,s1,s2,s3,s4,s5];clear jp;refine wpS_bind (mj (wpS_bind (bf (by omega) (wpS_bind (Ex C hk hTx (hTy _ (zbB _)) (λa b ha W h1 h2=>S.at (by lia) W ha) (by (try clear lx hp' hp2 b2;omega)) (by lia) λk k1 k2 k3=>?_)))));dsimp -zeta only;extract_lets ac2 jp o9 i9;have gtn:k=0∨0<k:=by lia
     refine QN jp (λo3 Y=>MI R x.toList y.toList o3.toList Y z/\(∀b∈x.toList.drop Y,R (y.toList[z]'(by omega))<=R b)/\Y+1<x.size/\F<=Y) (λo3 Y hP=>?_) (λkp J=>?_) (λkp=>⟨M2,m6 λu hu=>zcL ?_,b1,zcS _⟩)
     ·obtain⟨N,gt,b3,l3⟩:=hP;dsimp -zeta only[jp,ac2];clear jp;refine wpS_bind (bf (by omega) ?_);have N2:=N.y1 O (by omega) gt;rw[<-zbo] at N2;show wpS (model prog w) A E s (ite _ _ _) _ _;by_cases e3:z+1=y.size
      ·rw[yIp (by simpa using e3)];exact wpS_pure ⟨⟨_,rfl⟩,.inl ⟨_,_,_,_,_,_,_,rfl,gU N2 S O (.inl (by lia))⟩⟩
      rw[yIn (by simpa using e3)];refine wpS_bind (bf (by lia) (wpS_bind (Ey C hk hTy (hTx _ (zbB _)) (λa b ha W h1 h2=>O.at (by lia) W ha) (by lia) (by (try clear lx hp' hp2 b1 k1 l3;omega)) λk' q1 q2 q3=>?_)));dsimp -zeta only;extract_lets bc2 ia1 jp o9 j9;refine QN jp (λo4 j4=>MI R x.toList y.toList o4.toList Y j4/\(∀b∈y.toList.drop j4,R (x.toList[Y]'(by lia))<=R b)/\j4<y.size/\z+1<=j4) (λo4 j4 hP=>?_) (λkp' J=>?_) (λkp'=>⟨N2,m6 λu hu=>?_,by lia,zcS _⟩)
      ·obtain⟨N3,gt3,b4,l4⟩:=hP;dsimp -zeta only[jp,bc2,ia1];clear jp;refine wpS_bind (bf (by lia) ?_);have N4:=N3.x1 S (by lia) gt3;rw[<-zbo] at N4;dsimp only;by_cases e5:Y+1+1=x.size
       ·rw[yIp (by simpa using e5)];exact wpS_pure ⟨⟨_,rfl⟩,.inl ⟨_,_,_,_,_,_,_,rfl,jD N4 S O hl e5⟩⟩
       rw[yIn (by simpa using e5)];split
       ·exact wpS_pure ⟨⟨_,rfl⟩,.inr ⟨_,_,_,_,_,_,rfl,⟨N4,by lia,by omega⟩,by lia⟩⟩
       ·exact wpS_pure ⟨⟨_,rfl⟩,_,_,_,_,_,_,rfl,⟨N4,by lia,by omega⟩,by lia⟩
      ·have N3:=N2.ys O k' (λa ha b W=>zcK (zcL (m5 (P:=λa=>R a<R (x.toList[Y]'(by lia))) (λu hu huk=>q2 u hu huk) a ha)) (S.ge (by lia) b W));rw[<-zZ,<-zaL] at N3;show wpS (model prog w) A E s (ite _ _ _) _ _;by_cases e4:z+1+k'=y.size
       ·rw[yIp (by simpa using e4)];exact wpS_pure ⟨⟨_,rfl⟩,.inl ⟨_,_,_,_,_,_,_,rfl,gU N3 S O (.inl (by lia))⟩⟩
       rw[yIn (by simpa using e4)];refine J _ _ ⟨N3,m6 (P:=λb=>R (x.toList[Y]'(by lia))<=R b) λu (hu:z+1+k'<=u/\u<y.toList.length)=>?_,by (try clear e3 kp';lia),by lia⟩;obtain⟨v,rfl⟩:∃v,u=z+1+v:=⟨u - (z+1),by (try clear e3;lia)⟩
       exact q3 v (by lia) (by lia) (by (try clear e3;lia))
      ·obtain⟨v,rfl⟩:∃v,u=z+1+v:=⟨u - (z+1),by lia⟩
       exact q3 v (by lia) (by lia) (by lia)
     ·have N:=M2.xs S k (λa ha b W=>zcK (m5 (P:=λa=>R a<=R (y.toList[z]'(by omega))) (λu hu huk=>k2 u hu huk) a ha) (O.ge (by omega) b W));rw[<-zZ,<-zaL] at N;show wpS (model prog w) A E s (ite _ _ _) _ _;by_cases e1:F+k+1=x.size
      ·rw[yIp (by simpa using e1)];exact wpS_pure ⟨⟨_,rfl⟩,.inl ⟨_,_,_,_,_,_,_,rfl,jD N S O hl e1⟩⟩
      rw[yIn (by simpa using e1)];by_cases e2:F+k=x.size
      ·rw[yIp (by simpa using e2)];exact wpS_pure ⟨⟨_,rfl⟩,.inl ⟨_,_,_,_,_,_,_,rfl,gU N S O (.inr (by lia))⟩⟩
      rw[yIn (by simpa using e2)];refine J _ _ ⟨N,m6 λu hu=>zcL ?_,by lia,by lia⟩;obtain⟨v,rfl⟩:∃v,u=F+v:=⟨u - F,by (try clear k1 kp;lia)⟩
      exact k3 v (by lia) (by lia) (by (try clear kp;lia))
     ·obtain⟨v,rfl⟩:∃v,u=F+v:=⟨u - F,by lia⟩
      exact k3 v (by lia) (by lia) (by lia)
end
section
variable {R:Keyed->Int}
structure MH(R:Keyed->Int)(X Y O:List Keyed)(p q:Nat):Prop where
 perm:(X.take p++Y.take q++O).Perm (X++Y)
 so:bz R O
 le:∀a∈X.take p++Y.take q,∀b∈O,R a<=R b
theorem tk{X:List Keyed}{p:Nat}(h:m<=p):X.take p=X.take m++(X.take p).drop m:=by
 have:=(zav m (X.take p)).symm
 rwa [List.take_take,zbX h] at this
theorem MH.xs{X Y O:List Keyed}{p q:Nat}(M:MH R X Y O p q)(l:bz R X)(n:m<=p)(h:∀a∈(X.take p).drop m,∀b∈Y.take q,R b<=R a):MH R X Y ((X.take p).drop m++O) m q:=by
 have e:=tk (X:=X) n;refine⟨?_,(((l.take p).drop m).app M.so λa i b j=>M.le a (zaB _ (zaF i)) b j),λa i b j=>?_⟩
 ·refine List.Perm.trans ?_ M.perm
  conv=>rhs;rw[e]
  rw[<-zbg];refine List.Perm.append_right O ?_;rw[zbg,zbg];exact List.Perm.append_left _ zaw
 ·rcases zbM.mp j with j|j
  ·rcases zbM.mp i with i|i
   ·have:=l.take p;rw[e] at this;exact(zaD.mp this).2.2 a i b j
   ·exact h b j a i
  ·refine M.le a ?_ b j;rcases zbM.mp i with i|i
   ·exact zaB _ (by rw[e];exact zaB _ i)
   ·exact zat _ i
theorem MH.ys{X Y O:List Keyed}{p q:Nat}(M:MH R X Y O p q)(l:bz R Y)(n:m<=q)(h:∀a∈(Y.take q).drop m,∀b∈X.take p,R b<=R a):MH R X Y ((Y.take q).drop m++O) p m:=by
 have e:=tk (X:=Y) n;refine⟨?_,(((l.take q).drop m).app M.so λa i b j=>M.le a (zat _ (zaF i)) b j),λa i b j=>?_⟩
 ·refine List.Perm.trans ?_ M.perm
  conv=>rhs;rw[e]
  rw[zbg,zbg,zbg]
 ·rcases zbM.mp j with j|j
  ·rcases zbM.mp i with i|i
   ·exact h b j a i
   ·have:=l.take q;rw[e] at this;exact(zaD.mp this).2.2 a i b j
  ·refine M.le a ?_ b j;rcases zbM.mp i with i|i
   ·exact zaB _ i
   ·exact zat _ (by rw[e];exact zaB _ i)
theorem QY{X:List Keyed}{p:Nat}(h1:0<p)(h2:p<=X.length):(X.take p).drop (p - 1)=[X[p - 1]'(by lia)]:=by
 apply List.ext_getElem
 ·simp;lia
 ·intro i e a;simp at a;subst a;simp
theorem MH.x1{X Y O:List Keyed}{p q:Nat}(M:MH R X Y O p q)(j:bz R X)(h1:0<p)(h2:p<=X.length)(h:∀b∈Y.take q,R b<=R (X[p - 1]'(by lia))):MH R X Y (X[p - 1]'(by lia)::O) (p - 1) q:=by
 have:=M.xs j (m:=p - 1) (by simp) λa e b i=>by rw[QY h1 h2] at e;rw[zaS.mp e];exact h b i
 rw[QY h1 h2] at this;exact this
theorem MH.y1{X Y O:List Keyed}{p q:Nat}(M:MH R X Y O p q)(j:bz R Y)(h1:0<q)(h2:q<=Y.length)(h:∀b∈X.take p,R b<=R (Y[q - 1]'(by lia))):MH R X Y (Y[q - 1]'(by lia)::O) p (q - 1):=by
 have:=M.ys j (m:=q - 1) (by lia) λa e b i=>by rw[QY h1 h2] at e;rw[zaS.mp e];exact h b i
 rw[QY h1 h2] at this;exact this
theorem bz.le{l:List Keyed}(h:bz R l)(h1:0<i)(j:i<=l.length):∀b∈l.take i,R b<=R (l[i - 1]'(by lia)):=λb e=>by
 obtain⟨k,a,rfl⟩:=zaI e;rw[zbv] at a;rw[zbk];exact h.at (by lia) (by lia) (by lia)
theorem z4(x:Array Keyed)(p:Nat):(x.extract 0 p).toList=x.toList.take p:=by
 rw[zaG,zai];simp
theorem J3(x:Array Keyed)(m p:Nat):(x.extract m p).toList=(x.toList.take p).drop m:=by
 rw[zaG,zai,List.drop_take]
theorem jI(o:Array Keyed)(a:Keyed):(o.push a).toList.reverse=a::o.toList.reverse:=by simp
theorem zk(o:Array Keyed)(a:Array Keyed):(o++a.reverse).toList.reverse=a.toList++o.toList.reverse:=by simp
theorem tU{x y o:Array Keyed}{p q:Nat}(M:MH R x.toList y.toList o.toList.reverse p q)(l:bz R x.toList)(j:bz R y.toList)(h:p=0∨q=0):Told R x.toList y.toList (x.extract 0 p++y.extract 0 q++o.reverse):=by
 unfold Told;rw[zaL,zaL,z4,z4,Array.toList_reverse];refine⟨bz.app (bz.app (l.take p) (j.take q) λa i b e=>?_) M.so M.le,M.perm⟩;rcases h with rfl|rfl
 ·simp at i
 ·simp at e
theorem yK{x y o:Array Keyed}{p q:Nat}(M:MH R x.toList y.toList o.toList.reverse p q)(l:bz R x.toList)(j:bz R y.toList)(m:∀a∈y.toList.take 1,∀b∈x.toList,R a<=R b)(h:q=1):Told R x.toList y.toList (y.extract 0 q++x.extract 0 p++o.reverse):=by
 unfold Told;rw[zaL,zaL,z4,z4,Array.toList_reverse];refine⟨bz.app (bz.app (j.take q) (l.take p) λa e b i=>m a (by rw[<-h];exact e) b (zaE i)) M.so λa e b i=>M.le a ?_ b i,?_⟩
 ·rcases zbM.mp e with e|e
  ·exact zat _ e
  ·exact zaB _ e
 ·exact(List.Perm.append_right _ zaw).trans M.perm
theorem Kg{l:List Keyed}{P:Keyed->Prop}(h:∀u (j:u<l.length),u<i->P l[u]):∀b∈l.take i,P b:=λb e=>by
 obtain⟨v,a,rfl⟩:=zaI e;rw[zbv] at a;rw[zbk];exact h v (by lia) (by lia)
theorem Fe{l:List Keyed}{p:Nat}{P:Keyed->Prop}(h:∀u (i:u<l.length),m<=u->u<p->P l[u]):∀b∈(l.take p).drop m,P b:=λb e=>by
 obtain⟨v,a,rfl⟩:=zaI e;rw[zbw,zbv] at a;rw[zbj,zbk];exact h (m+v) (by lia) (by lia) (by lia)
end
section
variable {w:yal}{R:Keyed->Int}{κ:SortKind}{T:Keyed->Prop}
def Ob(R:Keyed->Int)(x y o:Array Keyed)(p q:Nat):Prop:=MH R x.toList y.toList o.toList.reverse p q/\(0<p/\p<=x.size)/\(1<q/\q<=y.size)
theorem xJ(C:tP prog w A s κ R T){x y:Array Keyed}{st:SortSt}{Q:Array Keyed->SortSt->Prop}(hk:kindOf st=κ)(hTx:∀a∈x.toList,T a)(hTy:∀a∈y.toList,T a)(H:bz R x.toList)(O:bz R y.toList)(hx:0<x.size)(hy:0<y.size)(h0:∀a∈y.toList.take 1,∀b∈x.toList,R a<=R b)(hl:∀a∈y.toList,R a<=R (x.toList[x.size - 1]'(by rw[zaK];omega)))(h:∀r g,Told R x.toList y.toList r->Q r (fm st g)):wpS (model prog w) A E s (D3 x y) Q st:=by
 have lx:x.toList.length=x.size:=by simp
 have ly:y.toList.length=y.size:=by simp
 have M0:MH R x.toList y.toList [] x.size y.size:=⟨by rw[zap (by simp),zap (by lia),zbO],.nil,λa X b L=>by simp at L⟩
 have M1:=M0.x1 H (by omega) (by simp) (λb L=>hl b (zaE L));refine wpS_bind (wpS_lift (wpAny_rule ⟨rfl,?_⟩));refine wpS_bind (bf (i:=x.size - 1) (by lia) ?_);show wpS (model prog w) A E s (ite _ _ _) _ _;have M1':MH R x.toList y.toList (#[x.toList[x.size - 1]'(by lia)]:Array Keyed).toList.reverse (x.size - 1) y.size:=M1;by_cases c1:x.size - 1=0
 ·rw[yIp (by simpa using c1)];exact wpS_pure (h _ (gallopOf st) (tU M1' H O (.inl c1)))
 rw[yIn (by simpa using c1)];by_cases c2:y.size=1
 ·rw[yIp (by simpa using c2)];exact wpS_pure (h _ (gallopOf st) (yK M1' H O h0 c2))
 rw[yIn (by simpa using c2)];refine wpS_bind (wpS_get ?_);refine wpS_bind (wpS_mono (wpS_forRange (I:=λn c j=>(∃g,j=fm st g)/\∃p q o mg,c=(none,p,q,o,mg)/\Ob R x y o p q/\n+p+q<=x.size+y.size) (Q:=λc j=>(∃g,j=fm st g)/\((∃r p q o mg,c=(some r,p,q,o,mg)/\Told R x.toList y.toList r)∨∃p q o mg,c=(none,p,q,o,mg)/\Ob R x y o p q/\x.size+y.size+p+q<=x.size+y.size)) ?step ?fin ⟨⟨gallopOf st,rfl⟩,_,_,_,_,rfl,⟨M1',⟨by lia,by simp⟩,by lia,by simp⟩,by simp⟩) ?post)
 case fin=>
  rintro c j ⟨hg,p,q,o,mg,rfl,M,hn⟩;exact⟨hg,.inr ⟨p,q,o,mg,rfl,M,by assumption⟩⟩
 case post=>
  rintro c j ⟨⟨g,rfl⟩,⟨r,p,q,o,mg,rfl,ht⟩|⟨p,q,o,mg,rfl,M,hn⟩⟩
  ·exact wpS_pure (h r g ht)
  ·have:=M.2.1;have:=M.2.2;lia
 case step=>
  rintro n c j _ hn ⟨⟨g,rfl⟩,p,q,o,mg,rfl,M,hp⟩;refine wpS_bind (wpS_mono (wpS_forRange (I:=λn' c j=>j=fm st g/\∃z l S u v,c=(none,z,l,S,u,v)/\Ob R x y S z l/\n'+z+l<=p+q) (Q:=λc j=>j=fm st g/\((∃r z l S u v,c=(some r,z,l,S,u,v)/\Told R x.toList y.toList r)∨∃z l S u v,c=(none,z,l,S,u,v)/\Ob R x y S z l/\z+l+1<=p+q)) ?qd ?fin1 ⟨rfl,p,q,o,0,0,rfl,M,by simp⟩) ?post1)
  case fin1=>
   rintro c j ⟨rfl,z,l,S,u,v,rfl,M',hn'⟩;exact⟨rfl,.inr ⟨z,l,S,u,v,rfl,M',by lia⟩⟩
  case qd=>
   rintro n' c j _ hn' ⟨rfl,z,l,S,u,v,rfl,⟨M',b1,b2⟩,hp'⟩;dsimp only;refine wpS_bind (bf (by lia) (wpS_bind (bf (by lia) (wpS_bind (uR C hk (hTy _ (zbB _)) (hTx _ (zbB _)) ?_)))));dsimp only;by_cases W:R (y.toList[l - 1]'(by lia))<R (x.toList[z - 1]'(by lia))
   ·rw[yDt W,yIp rfl];refine wpS_bind (bf (by lia) ?_);have N:=M'.x1 H (by lia) (by lia) (λb L=>zcK (O.le (by lia) (by lia) b L) (zcL W));rw[<-jI] at N;by_cases e:z - 1=0
    ·rw[yIp (by simpa using e)];exact wpS_pure ⟨rfl,.inl ⟨_,_,_,_,_,_,rfl,tU N H O (.inl e)⟩⟩
    ·rw[yIn (by simpa using e)];split
     ·exact wpS_pure ⟨rfl,.inr ⟨_,_,_,_,_,rfl,⟨N,⟨by lia,by lia⟩,b2⟩,by lia⟩⟩
     ·exact wpS_pure ⟨rfl,_,_,_,_,_,rfl,⟨N,⟨by lia,by lia⟩,b2⟩,by lia⟩
   ·rw[yDf W,yIn (by decide)];refine wpS_bind (bf (by lia) ?_);have N:=M'.y1 O (by lia) (by lia) (λb L=>zcK (H.le (by lia) (by lia) b L) (Int.not_lt.mp W));rw[<-jI] at N;by_cases e:l - 1=1
    ·rw[yIp (by simpa using e)];exact wpS_pure ⟨rfl,.inl ⟨_,_,_,_,_,_,rfl,yK N H O h0 e⟩⟩
    ·rw[yIn (by simpa using e)];split
     ·exact wpS_pure ⟨rfl,.inr ⟨_,_,_,_,_,rfl,⟨N,b1,by lia,by lia⟩,by lia⟩⟩
     ·exact wpS_pure ⟨rfl,_,_,_,_,_,rfl,⟨N,b1,by lia,by lia⟩,by lia⟩
  case post1=>
   rintro c j ⟨rfl,⟨r,z,l,S,u,v,rfl,ht⟩|⟨z,l,S,u,v,rfl,M',hp'⟩⟩
   ·exact wpS_pure ⟨⟨g,rfl⟩,.inl ⟨r,_,_,_,_,rfl,ht⟩⟩
   ·refine wpS_bind (wpS_lift (wpAny_rule ⟨rfl,?_⟩));refine wpS_bind (wpS_mono (wpS_forRange (I:=λ_ c j=>(∃g,j=fm st g)/\∃F q2 U mg u v,c=(none,F,q2,U,mg,u,v)/\Ob R x y U F q2/\F+q2<=z+l) (Q:=λc j=>(∃g,j=fm st g)/\((∃r F q2 U mg u v,c=(some r,F,q2,U,mg,u,v)/\Told R x.toList y.toList r)∨∃F q2 U mg u v,c=(none,F,q2,U,mg,u,v)/\Ob R x y U F q2/\F+q2<=z+l)) ?step2 ?fin2 ⟨⟨g,rfl⟩,z,l,S,_,_,_,rfl,M',by lia⟩) ?post2)
    case fin2=>
     rintro c j ⟨hg,F,q2,U,mg,u,v,rfl,M2,hp2⟩;exact⟨hg,.inr ⟨F,q2,U,mg,u,v,rfl,M2,hp2⟩⟩
    case post2=>
     rintro c j ⟨⟨g2,rfl⟩,⟨r,F,q2,U,Y,u,v,rfl,ht⟩|⟨F,q2,U,Y,u,v,rfl,M2,hp2⟩⟩
     ·exact wpS_pure ⟨⟨g2,rfl⟩,.inl ⟨r,_,_,_,_,rfl,ht⟩⟩
     ·dsimp only;refine wpS_bind (mj (wpS_pure ⟨⟨Y+1,rfl⟩,_,_,_,_,rfl,M2,by lia⟩))
    case step2=>
     rintro n2 c j _ hn2 ⟨⟨g2,rfl⟩,F,q2,U,Y,u,v,rfl,⟨M2,b1,b2⟩,hp2⟩;dsimp -zeta only;extract_lets s1 na s2 nb s3 out s4 mg s5 ac bc nb1 jp mg1;refine SX jp λm=>?_;dsimp -zeta only[jp,out,na,nb,nb1,ac,bc,s1,s2,s3,s4,s5];clear jp;refine wpS_bind (mj (wpS_bind (bf (by omega) (wpS_bind (Ex C hk hTx (hTy _ (zbB _)) (λa b X L h1 h2=>H.at (by lia) L X) (by (try clear ly;omega)) (by lia) λk k1 k2 k3=>?_)))));simp only[Nat.zero_add] at k2 k3;dsimp -zeta only;extract_lets k9 ac2 jp o9 i9;have gt:∀b∈x.toList.take k,R b<=R (y.toList[q2 - 1]'(by (try clear k1;omega))):=Kg λu hu Z=>k2 u hu Z;refine QN jp (λp3 o3=>MH R x.toList y.toList o3.toList.reverse p3 q2/\(∀b∈x.toList.take p3,R b<=R (y.toList[q2 - 1]'(by omega)))/\0<p3/\p3<=F) (λp3 o3 hP=>?_) (λkp J=>?_) (λkp=>?_)
     ·obtain⟨N,gt,b3,l3⟩:=hP;dsimp -zeta only[jp,ac2,k9];clear jp;refine wpS_bind (bf (by (try clear k1;omega)) ?_);have N2:=N.y1 O (q:=q2) (by lia) (by lia) gt;rw[<-jI] at N2;show wpS (model prog w) A E s (ite _ _ _) _ _;by_cases e3:q2 - 1=1
      ·rw[yIp (by simpa using e3)];exact wpS_pure ⟨⟨_,rfl⟩,.inl ⟨_,_,_,_,_,_,_,rfl,yK N2 H O h0 e3⟩⟩
      rw[yIn (by simpa using e3)];refine wpS_bind (bf (by lia) (wpS_bind (Ey C hk hTy (hTx _ (zbB _)) (λa b X L h1 h2=>O.at (by lia) L X) (by (try clear e3;lia)) (by lia) λk' q1 q2' q3=>?_)));simp only[Nat.zero_add] at q2' q3;dsimp -zeta only;extract_lets k8 bc2 p8 jp o9 j9;have gt3:∀b∈y.toList.take k',R b<=R (x.toList[p3 - 1]'(by lia)):=Kg λu hu Z=>zcL (q2' u hu Z);refine QN jp (λq4 o4=>MH R x.toList y.toList o4.toList.reverse p3 q4/\(∀b∈y.toList.take q4,R b<=R (x.toList[p3 - 1]'(by lia)))/\1<q4/\q4<=q2 - 1) (λq4 o4 hP=>?_) (λkp' J=>?_) (λkp'=>?_)
      ·obtain⟨N3,gt4,b4,l4⟩:=hP;dsimp -zeta only[jp,bc2,k8,p8];clear jp;refine wpS_bind (bf (by lia) ?_);have N4:=N3.x1 H (p:=p3) (by omega) (by lia) gt4;rw[<-jI] at N4;dsimp only;by_cases e5:p3 - 1=0
       ·rw[yIp (by simpa using e5)];exact wpS_pure ⟨⟨_,rfl⟩,.inl ⟨_,_,_,_,_,_,_,rfl,tU N4 H O (.inl e5)⟩⟩
       rw[yIn (by simpa using e5)];split
       ·exact wpS_pure ⟨⟨_,rfl⟩,.inr ⟨_,_,_,_,_,_,rfl,⟨N4,⟨by lia,by lia⟩,⟨by omega,by lia⟩⟩,by lia⟩⟩
       ·exact wpS_pure ⟨⟨_,rfl⟩,_,_,_,_,_,_,rfl,⟨N4,⟨by lia,by lia⟩,⟨by omega,by lia⟩⟩,by lia⟩
      ·have N3:=N2.ys O (m:=k') (by omega) (λa X b L=>zcK (H.le (by omega) (by lia) b L) (Fe (P:=λa=>R (x.toList[p3 - 1]'(by lia))<=R a) (λu hu h1 h2=>q3 u hu h1 h2) a X));rw[<-J3,<-zk] at N3;show wpS (model prog w) A E s (ite _ _ _) _ _;by_cases e4:k'=1
       ·rw[yIp (by simpa using e4)];exact wpS_pure ⟨⟨_,rfl⟩,.inl ⟨_,_,_,_,_,_,_,rfl,yK N3 H O h0 e4⟩⟩
       rw[yIn (by simpa using e4)];by_cases e6:k'=0
       ·rw[yIp (by simpa using e6)];exact wpS_pure ⟨⟨_,rfl⟩,.inl ⟨_,_,_,_,_,_,_,rfl,tU N3 H O (.inr e6)⟩⟩
       rw[yIn (by simpa using e6)];exact J _ _ ⟨N3,gt3,by lia,by omega⟩
      ·obtain rfl:k'=q2 - 1:=by lia
       exact⟨N2,gt3,by lia,zcS _⟩
     ·have N:=M2.xs H (m:=k) (by omega) (λa X b L=>zcK (O.le (by lia) (by lia) b L) (zcL (Fe (P:=λa=>R (y.toList[q2 - 1]'(by omega))<R a) (λu hu h1 h2=>k3 u hu h1 h2) a X)));rw[<-J3,<-zk] at N;show wpS (model prog w) A E s (ite _ _ _) _ _;by_cases e1:k=0
      ·rw[yIp (by simpa using e1)];exact wpS_pure ⟨⟨_,rfl⟩,.inl ⟨_,_,_,_,_,_,_,rfl,tU N H O (.inl e1)⟩⟩
      rw[yIn (by simpa using e1)];exact J _ _ ⟨N,gt,by lia,by omega⟩
     ·obtain rfl:k=F:=by lia
      exact⟨M2,gt,b1.1,zcS _⟩
end
noncomputable def KR(R:Keyed->Int)(xs:Array Keyed)(i:Nat):Int:=(xs[i]?.map R).getD 0
theorem cR{R:Keyed->Int}{xs ys:Array Keyed}(h:xs[i]? =ys[j]?):KR R xs i=KR R ys j:=by unfold KR;rw[h]
def Up(R:Keyed->Int)(xs:Array Keyed)(a m:Nat):Prop:=∀i j,a<=i->i<=j->j<a+m->KR R xs i<=KR R xs j
def Dn(R:Keyed->Int)(xs:Array Keyed)(a m:Nat):Prop:=∀i j,a<=i->i<=j->j<a+m->KR R xs j<=KR R xs i
structure G(a₀:Array Keyed)(κ:SortKind)(p:Array (Nat×Nat×Nat))(lo:Nat)(b:Array Keyed)(st:SortSt):Prop where
 perm:(arrOf st).Perm a₀
 kind:kindOf st=κ
 failed:failedOf st=none
 pend:pendingOf st=p
 below:∀k,k<lo->(arrOf st)[k]? =b[k]?
theorem G.size{a₀ κ p lo b}{st:SortSt}(h:G a₀ κ p lo b st):(arrOf st).size=a₀.size:=h.perm.size_eq
theorem G.arr{a₀ κ p lo b}{st:SortSt}(h:G a₀ κ p lo b st){xs:Array Keyed}(e:xs.Perm (arrOf st))(i:∀k,k<lo->xs[k]? =(arrOf st)[k]?):G a₀ κ p lo b (setArr st xs):=
 ⟨e.trans h.perm,h.kind,h.failed,h.pend,λk a=>(i k a).trans (h.below k a)⟩
theorem G.QL{a₀ κ p lo b}{st:SortSt}(h:G a₀ κ p lo b st)(l:lo<=i)(a:j<=a₀.size):G a₀ κ p lo b (setArr st (mirror (arrOf st) i j ((j - i) / 2))):=
 h.arr (mirror_perm _ _ _ _) λk e=>by
  rw[getElem?_mirror_all (by rw[h.size];exact a),yIn (by lia)]
theorem yy{R:Keyed->Int}{xs:Array Keyed}(a:j<=xs.size)(k:Nat):KR R (mirror xs i j ((j - i) / 2)) k=if i<=k/\k<j then KR R xs (i+j - 1 - k) else KR R xs k:=by
 have e:=getElem?_mirror_all (i:=i) a k;by_cases h1:i<=k/\k<j
 ·rw[yIp h1] at e⊢;exact cR e
 ·rw[yIn h1] at e⊢;exact cR e
theorem kM{R:Keyed->Int}{xs:Array Keyed}(e:j<=xs.size)(a:∀k,i<=k->k<j->KR R xs k=KR R xs (j - 1))(k:Nat):KR R (mirror xs i j ((j - i) / 2)) k=KR R xs k:=by
 rw[yy e];split
 ·rw[a _ (by (try clear e;lia)) (by (try clear e;omega)),a k (by lia) (by lia)]
 ·rfl
theorem F1{R:Keyed->Int}{xs:Array Keyed}{src d:Nat}(a:src<xs.size)(hd:d<=src)(k:Nat):
  KR R (bubble xs src d) k=if k=src - d then KR R xs src else if src - d<k/\k<=src then KR R xs (k - 1) else KR R xs k:=by
 have e:=getElem?_bubble a d hd k;by_cases h1:k=src - d
 ·rw[yIp h1] at e⊢;exact cR e
 ·rw[yIn h1] at e⊢;by_cases h2:src - d<k/\k<=src
  ·rw[yIp h2] at e⊢;exact cR e
  ·rw[yIn h2] at e⊢;exact cR e
section
variable {w:yal}{R:Keyed->Int}{κ:SortKind}{T:Keyed->Prop}{a₀ b:Array Keyed}{p:Array (Nat×Nat×Nat)}
theorem G.at{st:SortSt}(h:G a₀ κ p lo b st)(l:∀a∈a₀.toList,T a)(j:i<a₀.size):∃e:i<(arrOf st).toList.length,T ((arrOf st).toList[i])/\KR R (arrOf st) i=R ((arrOf st).toList[i]):=by
 have e:i<(arrOf st).toList.length:=by rw[zaK,h.size];exact j
 refine⟨e,l _ ((zac.mp h.perm).mem_iff.mp (zbB _)),?_⟩;unfold KR;rw[<-zax,zal e];rfl
theorem Pb(C:tP prog w A s κ R T)(l:∀a∈a₀.toList,T a){st:SortSt}{Q:Option Bool->SortSt->Prop}(e:G a₀ κ p lo b st)(y:i<a₀.size)(u:j<a₀.size)(h:Q (some (decide (KR R (arrOf st) i<KR R (arrOf st) j))) st):wpS (model prog w) A E s (ltAt' i j) Q st:=by
 obtain⟨F,n,q⟩:=e.at (R:=R) l y;obtain⟨z,m,o⟩:=e.at (R:=R) l u;rw[q,o] at h;rw[ltAt'_eq];exact wpS_bind (wpS_get (wpS_bind (bf F (wpS_bind (bf z (uR C e.kind n m h))))))
noncomputable def t3(e n a:Nat):StateT SortSt Sem (Option Nat):=do
 let mut n:=n
 reverseSlice' e (e+n)
 for _ in [n:a] do
  let some sm <-ltAt' (e+n) (e+n - 1)|return none
  if sm then break
  n:=n+1
 return some n
noncomputable def dP(a n e:Nat):StateT SortSt Sem (Option Nat):=do
 let mut n:=n
 rule "list.sort.descending-run"
 n:=n+1
 let mut neq:=0
 for _ in [n:e] do
  let some sm <-ltAt' (a+n) (a+n - 1)|return none
  if sm then
   if neq> 0 then reverseSlice' (a+n - (neq+1)) (a+n)
   neq:=0
  else
   let some la <-ltAt' (a+n - 1) (a+n)|return none
   if la then break
   neq:=neq+1
  n:=n+1
 if neq> 0 then reverseSlice' (a+n - (neq+1)) (a+n)
 t3 a n e
noncomputable def P6(e n a:Nat):StateT SortSt Sem (Option (Option Nat)×Nat):=
 forIn [n:a] ((none,n):Option (Option Nat)×Nat) λ_ c=>do
  let x <-ltAt' (e+c.2) (e+c.2 - 1)
  match x with
  |some sm=>if sm=true then pure (ForInStep.done (none,c.2)) else pure (ForInStep.yield (none,c.2+1))
  |_=>pure (ForInStep.done (some none,c.2))
theorem Ff(C:tP prog w A s κ R T)(P:∀a∈a₀.toList,T a){st:SortSt}{Q:Option (Option Nat)×Nat->SortSt->Prop}(S:G a₀ κ p lo b st)(U:lo+nrem<=a₀.size)(h1:1<=n)(q:n<=nrem)(O:Up R (arrOf st) lo n)(h:∀m,n<=m->m<=nrem->Up R (arrOf st) lo m->(m=nrem∨KR R (arrOf st) (lo+m)<KR R (arrOf st) (lo+m - 1))->Q (none,m) st):wpS (model prog w) A E s (P6 lo n nrem) Q st:=by
 unfold P6;refine wpS_forRange (I:=λx c l=>l=st/\c=(none,x)/\Up R (arrOf st) lo x) ?step ?fin ⟨rfl,rfl,O⟩
 case fin=>
  rintro c l ⟨rfl,rfl,e⟩;rw[show max n nrem=nrem by lia] at e⊢;exact h nrem q (zcS _) e (.inl rfl)
 case step=>
  rintro x c l F L ⟨rfl,rfl,e⟩;dsimp only;refine wpS_bind (Pb C P S (by lia) (by lia) ?_);by_cases o:KR R (arrOf l) (lo+x)<KR R (arrOf l) (lo+x - 1)
  ·simp only[o,decide_true,if_true];exact wpS_pure (h x F (by lia) e (.inr o))
  ·simp only[o,decide_false,zaY,if_false];refine wpS_pure ⟨rfl,rfl,λi j H y W=>?_⟩;by_cases u:j<lo+x
   ·exact e i j H y u
   ·obtain rfl:j=lo+x:=by lia
    by_cases z:i=lo+x
    ·subst z;exact zcV _
    ·exact zcK (e i (lo+x - 1) H (by (try clear U;lia)) (by (try clear U;lia))) (Int.not_lt.mp o)
theorem JA(C:tP prog w A s κ R T)(I:∀a∈a₀.toList,T a){st:SortSt}{Q:Option Nat->SortSt->Prop}(u:G a₀ κ p lo b st)(F:lo+nrem<=a₀.size)(h1:1<=n)(q:n<=nrem)(z:Dn R (arrOf st) lo n)(h:∀m e,G a₀ κ p lo b e->1<=m->m<=nrem->Up R (arrOf e) lo m->Q (some m) e):wpS (model prog w) A E s (t3 lo n nrem) Q st:=by
 unfold t3;dsimp only;have hz:lo+n<=(arrOf st).size:=by rw[u.size];lia
 rw[reverseSlice'_eq];refine wpS_bind (wpS_modify ?_);have l:=u.QL (i:=lo) (j:=lo+n) (by simp) (by lia);have o:Up R (arrOf (setArr st (mirror (arrOf st) lo (lo+n) ((lo+n - lo) / 2)))) lo n:=by
  intro i j O H L;show KR R (mirror (arrOf st) lo (lo+n) ((lo+n - lo) / 2)) i<=KR R (mirror (arrOf st) lo (lo+n) ((lo+n - lo) / 2)) j;rw[yy hz,yy hz,yIp (by lia),yIp (by lia)];exact z _ _ (by lia) (by (try clear F q hz;omega)) (by (try clear F q hz L;omega))
 generalize setArr st (mirror (arrOf st) lo (lo+n) ((lo+n - lo) / 2))=st1 at l o⊢;refine wpS_bind (Ff C I l F h1 q o λm m1 m2 y _=>wpS_pure (h m _ l (by lia) m2 y))
noncomputable def PB(a n e:Nat):StateT SortSt Sem (Option (Option Nat)×Nat×Nat):=
 forIn [n:e] ((none,n,0):Option (Option Nat)×Nat×Nat) λ_ c=>do
  let x <-ltAt' (a+c.2.1) (a+c.2.1 - 1)
  match x with
  |some sm=>
   if sm=true then
    if c.2.2> 0 then do
     reverseSlice' (a+c.2.1 - (c.2.2+1)) (a+c.2.1)
     pure (ForInStep.yield (none,c.2.1+1,0))
    else pure (ForInStep.yield (none,c.2.1+1,0))
   else do
    let x <-ltAt' (a+c.2.1 - 1) (a+c.2.1)
    match x with
    |some la=>if la=true then pure (ForInStep.done (none,c.2.1,c.2.2)) else pure (ForInStep.yield (none,c.2.1+1,c.2.2+1))
    |_=>pure (ForInStep.done (some none,c.2.1,c.2.2))
  |_=>pure (ForInStep.done (some none,c.2.1,c.2.2))
theorem MG(C:tP prog w A s κ R T)(hT:∀a∈a₀.toList,T a){st:SortSt}{Q:Option (Option Nat)×Nat×Nat->SortSt->Prop}(hB:G a₀ κ p lo b st)(hn:lo+nrem<=a₀.size)(h1:1<=n)(P:n<=nrem)(hs:Dn R (arrOf st) lo n)(h:∀m l e,G a₀ κ p lo b e->n<=m->m<=nrem->Dn R (arrOf e) lo m->l+1<=m->(∀i,lo+m - (l+1)<=i->i<lo+m->KR R (arrOf e) i=KR R (arrOf e) (lo+m - 1))->Q (none,m,l) e):wpS (model prog w) A E s (PB lo n nrem) Q st:=by
 unfold PB;refine wpS_forRange (I:=λx c e=>∃l,c=(none,x,l)/\G a₀ κ p lo b e/\Dn R (arrOf e) lo x/\l+1<=x/\(∀i,lo+x - (l+1)<=i->i<lo+x->KR R (arrOf e) i=KR R (arrOf e) (lo+x - 1))) ?step ?fin ⟨0,rfl,hB,hs,by omega,λi h1 h2=>by congr 1;lia⟩
 case fin=>
  rintro c e ⟨l,rfl,o,q,O,H⟩;rw[show max n nrem=nrem by lia] at q O H⊢;exact h nrem l e o P (zcS _) q O H
 case step=>
  rintro x c e W hxn ⟨l,rfl,o,q,O,H⟩;dsimp only;have hz:lo+x<=(arrOf e).size:=by rw[o.size];lia
  refine wpS_bind (Pb C hT o (by lia) (by lia) ?_);by_cases S:KR R (arrOf e) (lo+x)<KR R (arrOf e) (lo+x - 1)
  ·simp only[S,decide_true,if_true];have qd:∀xs:Array Keyed,(∀k,KR R xs k=KR R (arrOf e) k)->Dn R xs lo (x+1):=by
    intro xs Y i j L z hj;rw[Y,Y];by_cases y:j<lo+x
    ·exact q i j L z y
    ·obtain rfl:j=lo+x:=by lia
     by_cases F:i=lo+x
     ·subst F;exact zcV _
     ·exact zcK (zcL S) (q i (lo+x - 1) L (by lia) (by lia))
   by_cases u:l> 0
   ·rw[yIp u,reverseSlice'_eq];exact wpS_bind (wpS_modify (wpS_pure ⟨0,rfl,o.QL (by lia) (by lia),qd _ (kM hz H),by simp,λi h1 h2=>by congr 1;lia⟩))
   ·rw[yIn u];exact wpS_pure ⟨0,rfl,o,qd _ (λ_=>rfl),by lia,λi h1 h2=>by congr 1;lia⟩
  ·simp only[S,decide_false,zaY,if_false];refine wpS_bind (Pb C hT o (by lia) (by lia) ?_);by_cases Z:KR R (arrOf e) (lo+x - 1)<KR R (arrOf e) (lo+x)
   ·simp only[Z,decide_true,if_true];exact wpS_pure (h x l e o W (by lia) q O H)
   ·simp only[Z,decide_false,zaY,if_false];have X:KR R (arrOf e) (lo+x)=KR R (arrOf e) (lo+x - 1):=by lia
    refine wpS_pure ⟨l+1,rfl,o,λi j L z hj=>?_,by lia,λi h1 h2=>?_⟩
    ·by_cases y:j<lo+x
     ·exact q i j L z y
     ·obtain rfl:j=lo+x:=by lia
      by_cases F:i=lo+x
      ·subst F;exact zcV _
      ·rw[X];exact q i (lo+x - 1) L (by lia) (by lia)
    ·rw[show lo+(x+1) - 1=lo+x by simp];by_cases U:i=lo+x
     ·subst U;rfl
     ·rw[X];exact H i (by lia) (by lia)
theorem J7(C:tP prog w A s κ R T)(H:∀a∈a₀.toList,T a){st:SortSt}{Q:Option Nat->SortSt->Prop}(S:G a₀ κ p lo b st)(z:lo+nrem<=a₀.size)(y:n+1<=nrem)(L:Dn R (arrOf st) lo (n+1))(h:∀m e,G a₀ κ p lo b e->1<=m->m<=nrem->Up R (arrOf e) lo m->Q (some m) e):wpS (model prog w) A E s (dP lo n nrem) Q st:=by
 unfold dP;refine wpS_bind (wpS_lift (wpAny_rule ⟨rfl,?_⟩));refine wpS_bind (MG C H S z (by simp) y L λm u e o m1 m2 q U I=>?_);dsimp only;have hz:lo+m<=(arrOf e).size:=by rw[o.size];lia
 by_cases l:u> 0
 ·rw[yIp l,reverseSlice'_eq];refine wpS_bind (wpS_modify (JA C H (o.QL (by lia) (by lia)) z (by lia) m2 ?_ h));intro i j P F O;show KR R (mirror (arrOf e) _ _ _) j<=KR R (mirror (arrOf e) _ _ _) i;rw[kM hz I,kM hz I];exact q i j P F O
 ·rw[yIn l];exact JA C H o z (by lia) m2 q h
theorem LD(C:tP prog w A s κ R T)(O:∀a∈a₀.toList,T a){st:SortSt}{Q:Option Nat->SortSt->Prop}(y:G a₀ κ p lo b st)(S:lo+nrem<=a₀.size)(h1:1<=nrem)(h:∀m o,G a₀ κ p lo b o->1<=m->m<=nrem->Up R (arrOf o) lo m->Q (some m) o):wpS (model prog w) A E s (countRun' lo nrem) Q st:=by
 rw[countRun'_eq];refine wpS_bind (Ff C O y S (zcS 1) h1 (λi j Z I Y=>by
  obtain rfl:i=j:=by lia
  exact zcV _) λn F z l P=>?_)
 dsimp only;by_cases q:n=nrem
 ·rw[yIp (by simpa using q)];exact wpS_pure (h n st y F z l)
 ·rw[yIn (by simpa using q)];have H:KR R (arrOf st) (lo+n)<KR R (arrOf st) (lo+n - 1):=P.resolve_left q;have hz:lo+n<=(arrOf st).size:=by rw[y.size];lia
  by_cases L:n> 1
  ·rw[yIp L];refine wpS_bind (Pb C O y (by lia) (by lia) ?_);by_cases X:KR R (arrOf st) lo<KR R (arrOf st) (lo+n - 1)
   ·simp only[X,decide_true,if_true];exact wpS_pure (h n st y F z l)
   ·rw[yDf X];dsimp only;rw[yIn (by decide),reverseSlice'_eq];have e:∀k,lo<=k->k<lo+n->KR R (arrOf st) k=KR R (arrOf st) (lo+n - 1):=by
     intro k W hk;have a1:=l lo k (by lia) W hk;have a2:=l k (lo+n - 1) W (by (try clear S;lia)) (by (try clear S;lia));lia
    refine wpS_bind (wpS_modify ?_);show wpS _ _ _ _ (dP lo n nrem) _ _;refine J7 C O (y.QL (by lia) (by lia)) S (by lia) ?_ h;intro i j Z I Y;show KR R (mirror (arrOf st) _ _ _) j<=KR R (mirror (arrOf st) _ _ _) i;rw[kM hz e,kM hz e];by_cases U:j<lo+n
    ·rw[e i (by omega) (by lia),e j (by lia) U];exact zcV _
    ·obtain rfl:j=lo+n:=by lia
     by_cases u:i=lo+n
     ·subst u;exact zcV _
     ·rw[e i (by omega) (by lia)];exact zcL H
  ·rw[yIn L];obtain rfl:n=1:=by lia
   show wpS _ _ _ _ (dP lo 1 nrem) _ _;refine J7 C O y S (by lia) ?_ h;intro i j Z I Y;by_cases u:i=j
   ·subst u;exact zcV _
   ·obtain rfl:i=lo:=by lia
    obtain rfl:j=i+1:=by lia
    exact zcL H
theorem Nd(C:tP prog w A s κ R T)(hT:∀a∈a₀.toList,T a){st:SortSt}{ok:Nat}{Q:Bool->SortSt->Prop}(hB:G a₀ κ p lo b st)(hn:lo+n<=a₀.size)(hok:ok<=n)(W:Up R (arrOf st) lo ok)(h:∀e,G a₀ κ p lo b e->Up R (arrOf e) lo n->Q true e):wpS (model prog w) A E s (binarySort' lo n ok) Q st:=by
 rw[binarySort'_eq];refine wpS_bind (wpS_mono (wpS_forRange (I:=λk c e=>c=(none,())/\G a₀ κ p lo b e/\Up R (arrOf e) lo (min k n)) (Q:=λc e=>c=(none,())/\G a₀ κ p lo b e/\Up R (arrOf e) lo n) ?step ?fin ?init) ?post)
 case post=>
  rintro c e ⟨rfl,q,o⟩;exact wpS_pure (h e q o)
 case init=>
  refine⟨rfl,hB,λi j P H hj=>?_⟩;by_cases h1:ok=0
  ·obtain rfl:i=j:=by lia
   exact zcV _
  ·exact W i j P H (by lia)
 case fin=>
  rintro c e ⟨hc,q,o⟩;refine⟨hc,q,?_⟩
  rwa [show min (max (max ok 1) n) n=n by (try clear hok;lia)] at o
 case step=>
  rintro k c e hak Z ⟨rfl,q,o⟩;rw[show min k n=k by lia] at o;refine wpS_bind (wpS_mono (wpS_forRange (I:=λx c m=>m=e/\∃l r,c=(none,l,r)/\l<=r/\r<=k/\r - l<=k - x/\(∀i,lo<=i->i<lo+l->KR R (arrOf e) i<=KR R (arrOf e) (lo+k))/\(∀i,lo+r<=i->i<lo+k->KR R (arrOf e) (lo+k)<KR R (arrOf e) i)) (Q:=λc m=>m=e/\∃l r,c=(none,l,r)/\l<=k/\(∀i,lo<=i->i<lo+l->KR R (arrOf e) i<=KR R (arrOf e) (lo+k))/\(∀i,lo+l<=i->i<lo+k->KR R (arrOf e) (lo+k)<KR R (arrOf e) i)) ?istep ?ifin ?iinit) ?ipost)
  case iinit=>exact⟨rfl,0,k,rfl,by lia,by lia,by simp,λi _ P=>by lia,λi h1 h2=>by lia⟩
  case ifin=>
   rintro c m ⟨rfl,l,r,rfl,S,z,X,u,y⟩;obtain rfl:l=r:=by lia
   exact⟨rfl,l,l,rfl,z,u,y⟩
  case istep=>
   rintro x c m _ U ⟨rfl,l,r,rfl,S,z,X,u,y⟩;dsimp only;by_cases L:l≥r
   ·rw[yIp L];obtain rfl:l=r:=by lia
    exact wpS_pure ⟨rfl,l,l,rfl,z,u,y⟩
   ·rw[yIn L];refine wpS_bind (Pb C hT q (by lia) (by lia) ?_);by_cases O:KR R (arrOf m) (lo+k)<KR R (arrOf m) (lo+(l+r) / 2)
    ·simp only[O,decide_true,if_true];refine wpS_pure ⟨rfl,l,(l+r) / 2,rfl,by lia,by lia,by (try clear S L;lia),u,λi h1 h2=>?_⟩;exact Int.lt_of_lt_of_le O (o _ _ (by simp) h1 h2)
    ·simp only[O,decide_false,zaY,if_false];refine wpS_pure ⟨rfl,(l+r) / 2+1,r,rfl,by lia,by omega,by (try clear S;lia),λi h0 h1=>?_,y⟩;exact zcK (o i (lo+(l+r) / 2) h0 (by lia) (by lia)) (Int.not_lt.mp O)
  case ipost=>
   rintro c m ⟨rfl,l,r,rfl,Y,u,y⟩;show wpS _ _ _ _ (do moveDown' (lo+k) (lo+l);pure (ForInStep.yield (none,()))) _ _;rw[moveDown'_eq];have F:lo+k<(arrOf m).size:=by rw[q.size];lia
   refine wpS_bind (wpS_modify (wpS_pure ⟨rfl,q.arr (bubble_perm _ _ _) (λi P=>?_),?_⟩))
   ·rw[getElem?_bubble F _ (by simp),yIn (by lia),yIn (by lia)]
   rw[show min (k+1) n=k+1 by lia];intro i j P H hj;show KR R (bubble (arrOf m) (lo+k) (lo+k - (lo+l))) i<=KR R (bubble (arrOf m) (lo+k) (lo+k - (lo+l))) j;rw[F1 F (by simp),F1 F (by lia),show lo+k - (lo+k - (lo+l))=lo+l by lia]
   repeat' split
   all_goals first
    |(exfalso;lia)
    |exact zcV _
    |exact u _ (by omega) (by lia)
    |exact zcL (y _ (by (try clear H;lia)) (by (try clear H hj;lia)))
    |exact o _ _ (by lia) (by lia) (by lia)
end
theorem Gh{e:Type}{M:Model}{st a:e}{Q:PUnit->e->Prop}(h:Q ⟨⟩ a):wpS M A E s (set a:StateT e Sem PUnit) Q st:=by
 unfold wpS;rw[StateT.run_set];exact yab ⟨rfl,h⟩
theorem wr(c:Nat):∀(l:List Keyed)(n:Nat)(xs:Array Keyed),c+n+l.length<=xs.size->((l.zipIdx n).foldl (λa (p,j)=>a.setIfInBounds (c+j) p) xs).toList=xs.toList.take (c+n)++(l++xs.toList.drop (c+n+l.length))
 |[],n,xs,h=>by simp
 |p::l,n,xs,h=>by
  have e:c+n<xs.toList.length:=by simp at h⊢;lia
  rw[List.zipIdx_cons,List.foldl_cons,wr c l (n+1) _ (by simp at h⊢;lia)];simp only[zad];rw[List.drop_set_of_lt (by lia),show c+(n+1)=(c+n)+1 by rfl,List.take_succ_eq_append_getElem (by rw[zbV];exact e),List.getElem_set_self,List.take_set_of_le (zcS _),zbg];simp only[List.cons_append,zbT,zbu];rw[show c+n+1+l.length=c+n+(l.length+1) by lia]
def Runs(R:Keyed->Int)(xs:Array Keyed):List (Nat×Nat×Nat)->Nat->Nat->Prop
 |[],a,b=>a=b
 |(s,n,_)::t,a,b=>s=a/\1<=n/\Up R xs a n/\Runs R xs t (a+n) b
section
variable {R:Keyed->Int}{xs ys:Array Keyed}
theorem Runs.le:∀{t:List (Nat×Nat×Nat)}{a b:Nat},Runs R xs t a b->a+t.length<=b
 |[],a,b,h=>by
  have:a=b:=h;simp;lia
 |(s,n,q)::t,a,b,h=>by
  have:=Runs.le h.2.2.2;have:=h.2.1;rw[zbu];lia
theorem Up.of(h:Up R xs lo m)(e:∀k,lo<=k->k<lo+m->KR R ys k=KR R xs k):Up R ys lo m:=λi j n a l=>by
 rw[e i n (by lia),e j (by lia) l];exact h i j n a l
theorem Runs.of:∀{t:List (Nat×Nat×Nat)}{a b:Nat},Runs R xs t a b->(∀k,a<=k->k<b->KR R ys k=KR R xs k)->Runs R ys t a b
 |[],a,b,h,e=>h
 |(s,n,q)::t,a,b,h,e=>by
  have:=h.2.2.2.le;exact⟨h.1,h.2.1,h.2.2.1.of λk h1 h2=>e k h1 (by lia),h.2.2.2.of λk h1 h2=>e k (by lia) h2⟩
theorem Runs.app:∀{t u:List (Nat×Nat×Nat)}{a b c:Nat},Runs R xs t a b->Runs R xs u b c->Runs R xs (t++u) a c
 |[],u,a,b,c,h,g=>by
  have:a=b:=h;subst this;exact g
 |(s,n,q)::t,u,a,b,c,h,g=>⟨h.1,h.2.1,h.2.2.1,h.2.2.2.app g⟩
theorem Runs.c5:∀{t u:List (Nat×Nat×Nat)}{a c:Nat},Runs R xs (t++u) a c->∃b,Runs R xs t a b/\Runs R xs u b c
 |[],u,a,c,h=>⟨a,rfl,h⟩
 |(s,n,q)::t,u,a,c,h=>by
  obtain⟨b,h1,h2⟩:=Runs.c5 h.2.2.2;exact⟨b,⟨h.1,h.2.1,h.2.2.1,h1⟩,h2⟩
theorem cS{k:Nat}(h:k<xs.toList.length):KR R xs k=R xs.toList[k]:=by
 unfold KR;rw[<-zax,zal h];rfl
theorem Up.ja(h:Up R xs lo m)(o:lo+m<=xs.size):bz R ((xs.toList.drop lo).take m):=by
 refine zah.mpr λi j l a e=>?_;have n:xs.toList.length=xs.size:=by simp
 rw[zbv,zbw] at l a;rw[zbk,zbk,zbj,zbj,<-cS (R:=R) (xs:=xs),<-cS (R:=R) (xs:=xs)];exact h _ _ (by lia) (by lia) (by (try clear o;lia))
theorem Up.ofL{P M S:List Keyed}(e:xs.toList=P++(M++S))(z:P.length=lo)(C:M.length=m)(h:bz R M):Up R xs lo m:=by
 intro i j o n l;have q:xs.toList.length=P.length+(M.length+S.length):=by rw[e];simp
 have g:∀u (a:u<xs.toList.length),lo<=u->(y:u<lo+m)->xs.toList[u]=M[u - lo]'(by lia):=λu a h1 h2=>by
  simp only[e];rw[List.getElem_append_right (by lia),List.getElem_append_left (by (try clear o;lia))];congr 1;lia
 rw[cS (by lia),cS (by lia),g i (by lia) o (by lia),g j (by lia) (by lia) l];exact h.at (by lia) (by lia) (by lia)
theorem Qv{i:Array Keyed}{P M j S:List Keyed}(e:xs.toList=P++(M++S))(m:i.toList=P++(j++S))(l:j.length=M.length){k:Nat}(a:k<P.length∨P.length+M.length<=k):i[k]? =xs[k]?:=by
 rw[<-zax,<-zax,e,m];rcases a with a|a
 ·rw[zaf a,zaf a]
 ·rw[zab (by lia),zab (by lia),zab (by lia),zab (by lia),l]
end
section
variable {w:yal}{R:Keyed->Int}{κ:SortKind}{T:Keyed->Prop}{a₀:Array Keyed}
theorem Mh(C:tP prog w A s κ R T){xs:Array Keyed}{p:Array (Nat×Nat×Nat)}{g:Nat}(hT:∀a∈xs.toList,T a){sa o pw sb I q:Nat}{Q:Bool->SortSt->Prop}(h1:p[i]? =some (sa,o,pw))(h2:p[i+1]? =some (sb,I,q))(hsb:sb=sa+o)(na1:1<=o)(nb1:1<=I)(hz:sb+I<=xs.size)(S:Up R xs sa o)(L:Up R xs sb I)(h:∀ys g',ys.Perm xs->Up R ys sa (o+I)->(∀k,k<sa∨sb+I<=k->ys[k]? =xs[k]?)->Q true (SortSt.mk' κ ys ((p.setIfInBounds i (sa,o+I,pw)).eraseIdxIfInBounds (i+1)) g' none)):
  wpS (model prog w) A E s (mergeAt' i) Q (SortSt.mk' κ xs p g none):=by
 have ll:xs.toList.length=xs.size:=zaK;refine wpS_bind (wpS_get ?_);dsimp only;rw[h1,h2];dsimp only;refine wpS_bind (Gh ?_);generalize (p.setIfInBounds i (sa,o+I,pw)).eraseIdxIfInBounds (i+1)=p' at h⊢;have hU:∀{Y m:Nat},Up R xs Y m->Y+m<=xs.size->∀(i j:Nat)(z:Y+i<xs.toList.length)(Z:Y+j<xs.toList.length),i<=j->j<m->R xs.toList[Y+i]<=R xs.toList[Y+j]:=by
  intro Y m u um i j z Z l hjm;rw[<-cS (R:=R) z,<-cS (R:=R) Z];exact u _ _ (by lia) (by lia) (by lia)
 refine wpS_bind (bf (by lia) (wpS_bind (Ex C rfl hT (hT _ (zbB _)) (hU S (by lia)) (by assumption) (by lia) λk k1 k2 k3=>?_)));dsimp only;by_cases c1:o - k=0
 ·rw[yIp (by simpa using c1)];refine wpS_pure (h xs g (Array.Perm.refl _) ?_ (λ_ _=>rfl));intro i j z l Z;by_cases c2:j<sb
  ·exact S i j z l (by lia)
  by_cases c3:sb<=i
  ·exact L i j c3 l (by lia)
  refine zcK ?_ (L sb j (by lia) (by lia) (by lia));rw[cS (by lia),cS (by lia)];have:=k2 (i - sa) (by lia) (by lia);simpa only[show sa+(i - sa)=i by lia] using this
 rw[yIn (by simpa using c1)];refine wpS_bind (bf (by lia) (wpS_bind (Ey C rfl hT (hT _ (zbB _)) (hU L (by lia)) (by lia) (by lia) λm m1 m2 m3=>?_)));have el:sa+k+(o - k) - 1=sb - 1:=by lia
 simp only[el] at m2 m3;dsimp only;by_cases c2:m=0
 ·rw[yIp (by simpa using c2)];refine wpS_pure (h xs g (Array.Perm.refl _) ?_ (λ_ _=>rfl));intro i j z l Z;by_cases c2:j<sb
  ·exact S i j z l (by lia)
  by_cases c3:sb<=i
  ·exact L i j c3 l (by lia)
  refine zcK (S i (sb - 1) (by omega) (by (try clear k1;omega)) (by (try clear k1 m1 c3;omega))) ?_;rw[cS (by (try clear k1 m1 c3;omega)),cS (by lia)];have:=m3 (j - sb) (by lia) (by lia) (by lia);simpa only[show sb+(j - sb)=j by lia] using this
 rw[yIn (by simpa using c2)];have ex:(xs.extract (sa+k) sb).toList=(xs.toList.drop (sa+k)).take (o - k):=by
  rw[show sb=sa+k+(o - k) by (try clear m1;omega)];exact zZ _ _ _
 have ey:(xs.extract sb (sb+m)).toList=(xs.toList.drop sb).take m:=zZ _ _ _;have zx:(xs.extract (sa+k) sb).size=o - k:=by rw[Array.size_extract];lia
 have zy:(xs.extract sb (sb+m)).size=m:=by rw[Array.size_extract];lia
 generalize hx:xs.extract (sa+k) sb=x at*;generalize hy:xs.extract sb (sb+m)=y at*;have tx:∀(P:Keyed->Prop),(∀u (H:u<xs.toList.length),sa+k<=u->u<sb->P xs.toList[u])->∀a∈x.toList,P a:=λP hP a n=>by
  rw[ex] at n;exact m5 (λu H huk=>hP _ H (by simp) (by omega)) a n
 have ty:∀(P:Keyed->Prop),(∀u (H:u<xs.toList.length),sb<=u->u<sb+m->P xs.toList[u])->∀a∈y.toList,P a:=λP hP a n=>by
  rw[ey] at n;exact m5 (λu H huk=>hP _ H (by lia) (by lia)) a n
 have sx:bz R x.toList:=by
  rw[ex];exact Up.ja (λi j z l Z=>S i j (by lia) l (by (try clear zy z;omega))) (by omega)
 have sy:bz R y.toList:=by
  rw[ey];exact Up.ja (λi j z l Z=>L i j (by omega) l (by lia)) (by lia)
 have low:∀b∈x.toList,R (xs.toList[sb]'(by lia))<R b:=tx _ λu H h1 h2=>by
  have:=k3 (u - sa) (by (try clear h2;lia)) (by lia) (by lia);simpa only[show sa+(u - sa)=u by lia] using this
 have hgh:∀a∈y.toList,R a<R (xs.toList[sb - 1]'(by lia)):=ty _ λu H h1 h2=>by
  have:=m2 (u - sb) (by lia) (by lia);simpa only[show sb+(u - sb)=u by lia] using this
 have y0:∀hh,y.toList[0]'(hh)=xs.toList[sb]'(by lia):=λhh=>by
  simp only[ey,zbk,zbj,Nat.add_zero]
 have xl:∀hh,x.toList[x.size - 1]'(hh)=xs.toList[sb - 1]'(by (try clear k1 zx;lia)):=λhh=>by
  simp only[ex,zbk,zbj,zx];congr 1;(try clear k1;lia)
 have lxx:x.toList.length=o - k:=by rw[zaK,zx]
 have lyy:y.toList.length=m:=by rw[zaK,zy]
 have U:∀r g',Told R x.toList y.toList r->wpS (model prog w) A E s (do
   modify λst:SortSt=>SortSt.mk' (kindOf st) (r.toList.zipIdx.foldl (λa (p,j)=>a.setIfInBounds (sa+k+j) p) (arrOf st)) (pendingOf st) (gallopOf st) (failedOf st)
   let st <-get
   return (failedOf st).isNone) Q (SortSt.mk' κ xs p' g' none):=by
  intro r g' O;have rl:r.toList.length=o - k+m:=by rw[O.2.length_eq,zaO,lxx,lyy]
  refine wpS_bind (wpS_modify (wpS_bind (wpS_get (wpS_pure ?_))));have e:xs.toList=xs.toList.take (sa+k)++((x.toList++y.toList)++xs.toList.drop (sb+m)):=by
   rw[ex,ey];have e1:=(zav (sa+k) xs.toList).symm;have e2:=(zav (o - k) (xs.toList.drop (sa+k))).symm;have e3:=(zav m (xs.toList.drop sb)).symm;rw[List.drop_drop] at e2 e3;rw[show sa+k+(o - k)=sb by (try clear k1;lia)] at e2;rw[zbg,<-e3,<-e2,<-e1]
  have W:=wr (sa+k) r.toList 0 xs (by rw[rl];(try clear k1;lia));rw[Nat.add_zero,rl,show sa+k+(o - k+m)=sb+m by (try clear k1 W;lia)] at W;generalize r.toList.zipIdx.foldl (λa (p,j)=>a.setIfInBounds (sa+k+j) p) xs=ys at W⊢;have lM:r.toList.length=(x.toList++y.toList).length:=O.2.length_eq;have lP:(xs.toList.take (sa+k)).length=sa+k:=by rw[zbv];(try clear k1;lia)
  refine h ys g' ?_ ?_ λu H=>Qv e W lM (by rw[lP,<-lM,rl];(try clear k1;lia))
  ·rw[zac,W]
   conv=>rhs;rw[e]
   exact List.Perm.append_left _ (List.Perm.append_right _ O.2)
  ·have same:∀u,u<sa+k∨sb+m<=u->KR R ys u=KR R xs u:=λu H=>cR (Qv e W lM (by rw[lP,<-lM,rl];(try clear k1;lia)));have um:Up R ys (sa+k) (o - k+m):=Up.ofL W lP rl O.1;have inn:∀u,sa+k<=u->u<sb+m->∃a∈x.toList++y.toList,KR R ys u=R a:=by
    intro u h1 h2;have hh:u<ys.toList.length:=by rw[W,zaO,zaO,lP,rl];(try clear k1;lia)
    refine⟨ys.toList[u],O.2.mem_iff.mp ?_,cS hh⟩;simp only[W];rw[List.getElem_append_right (by lia),List.getElem_append_left (by (try clear k1;lia))];exact zbB _
   have A1:∀u,sa<=u->u<sa+k->∀a∈x.toList++y.toList,KR R xs u<=R a:=by
    intro u h1 h2 a n;rcases zbM.mp n with n|n
    ·refine tx (λa=>KR R xs u<=R a) (λv F X q2=>?_) a n;rw[<-cS (R:=R) F];exact S u v h1 (by lia) (by lia)
    ·refine ty (λa=>KR R xs u<=R a) (λv F X q2=>?_) a n;rw[<-cS (R:=R) F];refine zcK ?_ (L sb v (by lia) (by omega) (by lia));rw[cS (by lia),cS (by lia)];have:=k2 (u - sa) (by lia) (by lia);simpa only[show sa+(u - sa)=u by lia] using this
   have A2:∀u,sb+m<=u->u<sb+I->∀a∈x.toList++y.toList,R a<=KR R xs u:=by
    intro u h1 h2 a n;rcases zbM.mp n with n|n
    ·refine tx (λa=>R a<=KR R xs u) (λv F X q2=>?_) a n;rw[<-cS (R:=R) F];refine zcK (S v (sb - 1) (by lia) (by (try clear k1;lia)) (by (try clear k1;lia))) ?_;rw[cS (by (try clear k1 c2;lia)),cS (by lia)];have:=m3 (u - sb) (by lia) (by lia) (by lia);simpa only[show sb+(u - sb)=u by (try clear c2;lia)] using this
    ·refine ty (λa=>R a<=KR R xs u) (λv F X q2=>?_) a n;rw[<-cS (R:=R) F];exact L v u (by omega) (by lia) (by omega)
   have A3:∀u v,sa<=u->u<sa+k->sb+m<=v->v<sb+I->KR R xs u<=KR R xs v:=by
    intro u v h1 h2 h3 h4;refine zcK ?_ (L sb v (by lia) (by lia) (by omega));rw[cS (by lia),cS (by lia)];have:=k2 (u - sa) (by (try clear c2;lia)) (by lia);simpa only[show sa+(u - sa)=u by lia] using this
   intro i j z l Z;by_cases X:i<sa+k
   ·rw[same i (.inl X)];by_cases q2:j<sa+k
    ·rw[same j (.inl q2)];exact S i j z l (by lia)
    by_cases q3:j<sb+m
    ·obtain⟨a,n,he⟩:=inn j (by lia) q3;rw[he];exact A1 i z X a n
    ·rw[same j (.inr (by lia))];exact A3 i j z X (by lia) (by lia)
   by_cases q2:i<sb+m
   ·by_cases q3:j<sb+m
    ·exact um i j (by lia) l (by (try clear k1;lia))
    ·obtain⟨a,n,he⟩:=inn i (by lia) q2;rw[he,same j (.inr (by lia))];exact A2 j (by lia) (by lia) a n
   ·rw[same i (.inr (by lia)),same j (.inr (by lia))];exact L i j (by lia) l (by lia)
 have TX:∀a∈x.toList,T a:=tx T λu H _ _=>hT _ (zbB _);have TY:∀a∈y.toList,T a:=ty T λu H _ _=>hT _ (zbB _);by_cases c3:o - k<=m
 ·rw[yIp c3];refine wpS_bind (xH C rfl TX TY sx sy (by lia) (by lia) (λb hb=>?_) (λa n b hb=>?_) λr g' O=>U r g' O)
  ·rw[y0];exact zcL (low b hb)
  ·obtain⟨v,F,rfl⟩:=zaI hb;rw[zbw,lxx] at F;rw[zbj];have:v=0:=by (try clear k1;lia)
   subst this;have:=xl (by lia);simp only[Nat.add_zero];rw[this];exact zcL (hgh a n)
 ·rw[yIn c3];refine wpS_bind (xJ C rfl TX TY sx sy (by lia) (by lia) (λa n b hb=>?_) (λa n=>?_) λr g' O=>U r g' O)
  ·obtain⟨v,F,rfl⟩:=zaI n;rw[zbv] at F;obtain rfl:v=0:=by lia
   rw[zbk,y0];exact zcL (low b hb)
  ·rw[xl];exact zcL (hgh a n)
theorem qL{e:Type}(P:List e)(x y v:e)(S:List e):((P++x::y::S).set P.length v).eraseIdx (P.length+1)=P++v::S:=by
 induction P with
 |nil=>rfl
 |cons a P ih=>simpa using ih
theorem Bt(c:Prop)[Decidable c](h:¬n<=1):(if c then n - 2 - 1 else n - 2)+1<n:=by split<;>omega
theorem DY(C:tP prog w A s κ R T){xs:Array Keyed}{p:Array (Nat×Nat×Nat)}{g:Nat}(Y:∀a∈xs.toList,T a){Q:Bool->SortSt->Prop}(u:Runs R xs p.toList 0 lo)(W:lo<=xs.size)(hi:i+1<p.size)(h:∀ys j g',ys.Perm xs->Runs R ys j.toList 0 lo->j.size+1=p.size->(∀k,lo<=k->ys[k]? =xs[k]?)->Q true (SortSt.mk' κ ys j g' none)):
  wpS (model prog w) A E s (mergeAt' i) Q (SortSt.mk' κ xs p g none):=by
 have lp:p.toList.length=p.size:=zaK;have e:p.toList=p.toList.take i++p.toList[i]'(by lia)::p.toList[i+1]'(by omega)::p.toList.drop (i+2):=by
  conv=>lhs;rw[<-zav i p.toList,zag (by lia:i<p.toList.length),zag (by omega:i+1<p.toList.length)]
 have l:(p.toList.take i).length=i:=by rw[zbv];lia
 have F:p[i]? =some (p.toList[i]'(by lia)):=by rw[<-zax];exact zal _
 have z:p[i+1]? =some (p.toList[i+1]'(by omega)):=by rw[<-zax];exact zal _
 generalize p.toList[i]'(by lia)=x at e F;generalize p.toList[i+1]'(by omega)=y at e z;generalize p.toList.take i=P at e l;generalize p.toList.drop (i+2)=S at e;obtain⟨sa,na,Z⟩:=x;obtain⟨sb,nb,q⟩:=y;rw[e] at u;obtain⟨b,o,L⟩:=u.c5;obtain⟨rfl,n1,I,rfl,n2,H,n⟩:=L;have l1:=o.le;have l3:=n.le;refine Mh C Y F z rfl n1 n2 (by lia) I H λys g' U O m=>?_;refine h ys _ g' U ?_ ?_ λk X=>m k (.inr (by lia))
 ·rw[Array.toList_eraseIdxIfInBounds,zad,e];subst l;rw[qL];refine(o.of λk h1 h2=>cR (m k (.inl h2))).app ⟨rfl,by lia,O,?_⟩;rw[<-Nat.add_assoc];exact n.of λk h1 h2=>cR (m k (.inr h1))
 ·rw[<-zaK,Array.toList_eraseIdxIfInBounds,zad,<-zaK,e];subst l;rw[qL];simp only[zaO,zbu];rfl
theorem Runs.pow:∀{t u:List (Nat×Nat×Nat)}{xs:Array Keyed}{a b:Nat},t.map (λx=>(x.1,x.2.1))=u.map (λx=>(x.1,x.2.1))->Runs R xs t a b->Runs R xs u a b
 |[],[],_,_,_,_,h=>h
 |[],_::_,_,_,_,e,_=>by simp at e
 |_::_,[],_,_,_,e,_=>by simp at e
 |(s,n,q)::t,(s',n',q')::u,xs,a,b,e,h=>by
  simp only[zco,List.cons.injEq,Prod.mk.injEq] at e;obtain⟨⟨rfl,rfl⟩,e⟩:=e;exact⟨h.1,h.2.1,h.2.2.1,h.2.2.2.pow e⟩
theorem HC(l:List (Nat×Nat×Nat))(i e:Nat):l.map (λx=>(x.1,x.2.1))=(l.modify i λ(a,b,_)=>(a,b,e)).map (λx=>(x.1,x.2.1)):=by
 apply List.ext_getElem?;intro j;rw[zbe,zbe,List.getElem?_modify];cases l[j]? with
 |none=>rfl
 |some x=>
  obtain⟨a,b,c⟩:=x;show some _=some _;congr 1;by_cases h:i=j<;>simp[h]
def RI(R:Keyed->Int)(κ:SortKind)(a₀:Array Keyed)(a:Nat)(st:SortSt):Prop:=∃xs p g,st=SortSt.mk' κ xs p g none/\xs.Perm a₀/\Runs R xs p.toList 0 a
theorem G.ri{st:SortSt}{p:Array (Nat×Nat×Nat)}{b:Array Keyed}(B:G a₀ κ p lo b st)(e:Runs R b p.toList 0 lo):∃ys g,st=SortSt.mk' κ ys p g none/\ys.Perm a₀/\Runs R ys p.toList 0 lo:=by
 obtain⟨k,ys,a,g,f⟩:=st;obtain⟨h1,h2,m,l,j⟩:=B;obtain rfl:k=κ:=h2;obtain rfl:f=none:=m;obtain rfl:a=p:=l;exact⟨ys,g,rfl,h1,e.of λk _ i=>cR (j k i)⟩
theorem share{H P:Nat->SortSt->Prop}{g:Prop}(a:(∀n st,H n st->P n st)->g)(rest:∀n st,H n st->P n st):g:=a rest
theorem K7(C:tP prog w A s κ R T){g:Nat}(hT:∀a∈a₀.toList,T a){Q:Unit->SortSt->Prop}(h:∀ys p g',ys.Perm a₀->Up R ys 0 a₀.size->Q () (SortSt.mk' κ ys p g' none)):wpS (model prog w) A E s sortRuns' Q (SortSt.mk' κ a₀ #[] g none):=by
 have tp:∀{xs:Array Keyed},xs.Perm a₀->∀a∈xs.toList,T a:=λF a ha=>hT a ((zac.mp F).mem_iff.mp ha);rw[sortRuns'_eq];refine wpS_bind (wpS_get ?_);dsimp only;generalize hz:(arrOf (SortSt.mk' κ a₀ #[] g none)).size=z;obtain rfl:a₀.size=z:=hz;generalize minRun' a₀.size a₀.size 0=mr;refine wpS_bind (wpS_mono (wpS_forRange (I:=λx c e=>∃l,c=(none,l)/\x<=l/\l<=a₀.size/\RI R κ a₀ l e) (Q:=λc e=>c=(none,a₀.size)/\RI R κ a₀ a₀.size e) ?step ?fin ⟨0,rfl,zcS _,zcT _,a₀,#[],g,rfl,Array.Perm.refl _,rfl⟩) ?post)
 case fin=>
  rintro c e ⟨l,rfl,h1,h2,hR⟩;obtain rfl:l=a₀.size:=by lia
  exact⟨rfl,hR⟩
 case post=>
  rintro c e ⟨rfl,xs,p,g1,rfl,F,u⟩;dsimp only;have zz:=u.le;rw[zaK] at zz;refine wpS_bind (wpS_mono (wpS_forRange (I:=λx c e=>c=(none,())/\∃xs p g,e=SortSt.mk' κ xs p g none/\xs.Perm a₀/\Runs R xs p.toList 0 a₀.size/\p.size+x<=max 1 a₀.size+1) (Q:=λc e=>c=(none,())/\∃xs p g,e=SortSt.mk' κ xs p g none/\xs.Perm a₀/\Runs R xs p.toList 0 a₀.size/\p.size<=1) ?step2 ?fin2 ⟨rfl,xs,p,g1,rfl,F,u,by lia⟩) ?post2)
  case fin2=>
   rintro c e ⟨rfl,xs,p,g,rfl,F,u,hn⟩;have:=u.le;rw[zaK] at this;exact⟨rfl,xs,p,g,rfl,F,u,by lia⟩
  case post2=>
   rintro c e ⟨rfl,xs,p,g,rfl,F,u,hn⟩;refine wpS_pure (h xs p g F ?_);obtain⟨p⟩:=p
   match p,u,hn with
   |[],u,_=>
    have:0=a₀.size:=u;intro i j _ _ hj;lia
   |[(a,n,q)],u,_=>
    obtain⟨rfl,h1,h2,h3⟩:=u;have:0+n=a₀.size:=h3;rw[show a₀.size=n by lia];exact h2
   |_::_::_,_,hn=>simp at hn
  case step2=>
   rintro x c e _ hx ⟨rfl,xs,p,g,rfl,F,u,hn⟩;refine wpS_bind (wpS_get ?_);change wpS _ _ _ _ (if p.size<=1 then _ else _) _ _;by_cases U:p.size<=1
   ·rw[yIp U];exact wpS_pure ⟨rfl,xs,p,g,rfl,F,u,U⟩
   ·rw[yIn U];have key:∀i,i+1<p.size->wpS (model prog w) A E s (mergeAt' i) (λb e=>b=true/\∃xs p g,e=SortSt.mk' κ xs p g none/\xs.Perm a₀/\Runs R xs p.toList 0 a₀.size/\p.size+(x+1)<=max 1 a₀.size+1) (SortSt.mk' κ xs p g none):=λi hi=>
     DY C (tp F) u (by rw[F.size_eq];exact zcS _) hi λys Y g' X q2 q3 q4=>⟨rfl,ys,Y,g',rfl,X.trans F,q2,by lia⟩
    refine wpS_bind (wpS_mono (key _ ?_) ?_)
    ·exact Bt _ U
    ·rintro b e ⟨rfl,hq⟩;rw[yIn (by decide)];exact wpS_pure ⟨rfl,hq⟩
 case step=>
  rintro x c e _ hx ⟨l,rfl,hxl,hlo,xs,p,g1,rfl,F,u⟩;dsimp only;by_cases c0:l≥a₀.size
  ·rw[yIp c0];obtain rfl:l=a₀.size:=by lia
   exact wpS_pure ⟨rfl,xs,p,g1,rfl,F,u⟩
  rw[yIn c0];have B:G a₀ κ p l xs (SortSt.mk' κ xs p g1 none):=⟨F,rfl,rfl,rfl,λ_ _=>rfl⟩
  refine wpS_bind (LD C hT B (by lia) (by lia) λm st2 B2 m1 m2 hu=>?_);dsimp only;apply share (H:=λn st=>1<=n/\l+n<=a₀.size/\G a₀ κ p l xs st/\Up R (arrOf st) l n);intro rest;by_cases U:m<mr
  ·rw[yIp U];refine wpS_bind (wpS_lift (wpAny_rule ⟨rfl,?_⟩));have n1:1<=min (a₀.size - l) mr:=by lia
   have n2:l+min (a₀.size - l) mr<=a₀.size:=by lia
   have n3:m<=min (a₀.size - l) mr:=by lia
   generalize min (a₀.size - l) mr=n at n1 n2 n3⊢;refine wpS_bind (Nd C hT B2 n2 n3 hu λW B3 S=>?_);rw[yIn (by decide)];exact rest n W ⟨n1,n2,B3,S⟩
  ·rw[yIn U];exact rest m st2 ⟨m1,by (try clear m1;lia),B2,hu⟩
  rintro n W ⟨n1,n2,B3,S⟩;obtain⟨ys,g3,rfl,hp3,Z⟩:=B3.ri u;refine wpS_bind (wpS_get ?_);have fin:∀(o:Array Keyed)(Y:Array (Nat×Nat×Nat))(g':Nat),o.Perm a₀->Runs R o Y.toList 0 l->(∀k,l<=k->o[k]? =ys[k]?)->RI R κ a₀ (l+n) (SortSt.mk' κ o (Y.push (l,n,0)) g' none):=λo Y g' X q2 q3=>
   ⟨o,_,g',rfl,X,by
    rw[zbo];exact q2.app ⟨rfl,n1,S.of λk k1 k2=>cR (q3 k k1),rfl⟩⟩
  split
  ·rename_i s1 n1' q' hb;refine wpS_bind (wpS_mono (wpS_forRange (I:=λx c e=>c=(none,())/\∃o p g,e=SortSt.mk' κ o p g none/\o.Perm a₀/\Runs R o p.toList 0 l/\∀k,l<=k->o[k]? =ys[k]?) (Q:=λc e=>c=(none,())/\∃o p g,e=SortSt.mk' κ o p g none/\o.Perm a₀/\Runs R o p.toList 0 l/\∀k,l<=k->o[k]? =ys[k]?) ?step3 (λ_ _ h=>h) ⟨rfl,ys,p,g3,rfl,hp3,Z,λ_ _=>rfl⟩) ?post3)
   case step3=>
    rintro x3 c e _ _ ⟨rfl,o,P,g4,rfl,y,L,O⟩;refine wpS_bind (wpS_get ?_);split
    ·rename_i o1 o2 o3 ho;split
     ·exact wpS_pure ⟨rfl,o,P,g4,rfl,y,L,O⟩
     ·have hs4:P.size> 1:=by
       by_cases hc:P.size> 1
       ·exact hc
       ·rw[yIn hc] at ho;cases ho
      refine wpS_bind (DY C (tp y) L (by rw[y.size_eq];omega) (show P.size - 2+1<P.size by (try clear ho;lia)) λz5 p5 g5 X q2 q3 q4=>?_);rw[yIn (by decide)];exact wpS_pure ⟨rfl,z5,p5,g5,rfl,X.trans y,q2,λk hk=>(q4 k hk).trans (O k hk)⟩
    ·exact wpS_pure ⟨rfl,o,P,g4,rfl,y,L,O⟩
   case post3=>
    rintro c e ⟨rfl,o,P,g4,rfl,y,L,O⟩;refine wpS_bind (wpS_modify (wpS_bind (wpS_modify (wpS_pure ⟨_,rfl,by lia,n2,fin o _ g4 y ?_ O⟩))));refine L.pow ?_;rw[Array.toList_modify];exact HC _ _ _
  ·exact wpS_bind (wpS_modify (wpS_pure ⟨_,rfl,by lia,n2,fin ys p g3 hp3 Z λ_ _=>rfl⟩))
end
end M10
namespace M10
open PySem PySem.Spec PyProof.Rows
section
variable {w:yal}{R:Keyed->Int}{T:Keyed->Prop}
theorem Rj{vs:List yaj}{ys:Array Keyed}(e:ys.Perm (pairsOf vs))(l:Up R ys 0 (pairsOf vs).size):(ys.map (·.2)).toList.Perm vs/\(ys.map (·.2)).toList.Pairwise (λx y=>R (x,x)<=R (y,y)):=by
 have j:ys.toList.Perm (vs.zip vs):=by rw[<-pairsOf_toList];exact zac.mp e
 have i:∀p∈ys.toList,p=(p.2,p.2):=λp h=>by
  have:=(mem_zip_self (j.mem_iff.mp h)).1;exact Prod.ext this rfl
 rw[Array.toList_map];constructor
 ·have:=j.map (·.2)
  rwa [zbE (zcS _)] at this
 ·rw[zbl];have h2:bz R ys.toList:=by
   have:=l.ja (by rw[e.size_eq];simp);rw[zcf,zap (by rw[zaK,e.size_eq];exact zcS _)] at this;exact this
  refine List.Pairwise.imp_of_mem (λ{a b} n m h=>?_) h2;rw[<-i a n,<-i b m];exact h
theorem oK{vs:List yaj}{P:PySem.Fin->yai->Prop}(F:s.heap.get? a=some (seqObj "list" vs.toArray n))(hz:vs.length<=yah)(S:2<=vs.length->∃κ,(∀(Q:SortKind->yai->Prop),Q κ {s with heap:=M6.dH s.heap a vs}->yas (model prog w) A (keyKind' vs.toArray) Q (λ_ _=>False) {s with heap:=M6.dH s.heap a vs})/\tP prog w A {s with heap:=M6.dH s.heap a vs} κ R T)(U:∀v∈vs,T (v,v))(h:∀out:Array yaj,out.toList.Perm vs->out.toList.Pairwise (λx y=>R (x,x)<=R (y,y))->P (.done (.ret .none)) {s with heap:=sortedHeap s.heap a vs out}):
  yas (model prog w) A (Builtin.«list.sort» ⟨[.ref a],[]⟩) P E s:=by
 obtain⟨m,l⟩:∃m,(s.heap.update a (Obj.mapSeq λ_=>#[])).get? a=some (seqObj "list" #[] m):=⟨_,get?_update_seq F λ_=>#[]⟩
 have j:(M6.dH s.heap a vs).get? a=some (seqObj "list" #[] m):=zar _ (zar _ l);have C:vs.toArray.size<=yah:=by rw[zbc];exact hz
 rw[list_sort_plain a];refine yaa (listItems_at F rfl (yaa (listUpdate_at F rfl ?_ C (zcT _))));refine yaa (seqEpoch_at l rfl (yaa (wpAny_newTuple ?_ (by simpa using hz))));refine yaa (wpAny_newList (yad ?_) (zcT _));show yas (model prog w) A (if vs.toArray.size<2 then _ else _) P E {s with heap:=M6.dH s.heap a vs};by_cases h2:vs.length<2
 ·rw[yIp (by rw[zbc];exact h2)];refine yaa (yab ?_);dsimp only;rw[yIp (by rw[zbc];exact h2)];refine yaa (yab ?_);have H:((vs.toArray.zip vs.toArray).map (·.2)).toList=vs:=by
   rw[List.zip_toArray,List.map_toArray,zbE (zcS _)]
  refine yaa (seqEpoch_at j rfl (yaa (listUpdate_at j rfl ?_ (zcT _) ?_)))
  ·show yas (model prog w) A (if(m != m)=true then _ else _) P E _;rw[yIn (by simp)];refine yab (h _ (by rw[H]) ?_);rw[H]
   match vs,h2 with
   |[],_=>exact .nil
   |[v],_=>exact List.pairwise_singleton ..
   |_::_::_,h2=>simp at h2;lia
  ·show((vs.toArray.zip vs.toArray).map (·.2)).size<=_;rw[<-zaK,H];lia
 ·rw[yIn (by rw[zbc];exact h2)];obtain⟨κ,O,L⟩:=S (by lia);refine yaa (yac (O (λi u=>i=κ/\u={s with heap:=M6.dH s.heap a vs}) ⟨rfl,rfl⟩) (λi u z=>?_) (λ_ _ z=>z.elim));obtain⟨rfl,rfl⟩:=z;dsimp only;rw[yIn (by rw[zbc];exact h2)];have run:wpS (model prog w) A E {s with heap:=M6.dH s.heap a vs} sortRuns' (λ_ st=>∃ys p q,st=SortSt.mk' i ys p q none/\ys.Perm (pairsOf vs)/\Up R ys 0 (pairsOf vs).size) (SortSt.mk' i (pairsOf vs) #[] 7 none):=by
   refine K7 L (λp I=>?_) λys p q o q2=>⟨ys,p,q,rfl,o,q2⟩
   rw[pairsOf_toList] at I;have:=mem_zip_self I;have e:p=(p.1,p.1):=Prod.ext rfl this.1.symm;rw[e];exact U _ this.2
  unfold wpS at run;rw[show vs.toArray.zip vs.toArray=pairsOf vs from rfl];refine yaa (yac run ?_ (λ_ _ z=>z))
  ·rintro⟨⟨⟩,st⟩ u ⟨rfl,ys,p,q,rfl,o,q2⟩;dsimp only;have q3:=Rj (R:=R) o q2;refine yaa (seqEpoch_at j rfl (yaa (listUpdate_at j rfl ?_ (zcT _) ?_)))
   ·rw[yIn (by simp)];exact yab (h _ q3.1 q3.2)
   ·show(ys.map (·.2)).size<=_;rw[Array.size_map,o.size_eq,pairsOf_size];lia
noncomputable def jL(ss:List Str)(x:Str):Nat:=ss.countP λz=>decide (z.cps.toList<x.cps.toList)
theorem ya{a:Type}{p q:a->Bool}:∀{l:List a},(∀x∈l,p x=true->q x=true)->l.countP p<=l.countP q:=λh=>List.countP_mono_left h
theorem x9{e:Type}{p q:e->Bool}{y:e}:∀{l:List e},(∀x∈l,p x=true->q x=true)->y∈l->p y=false->q y=true->l.countP p<l.countP q
 |[],_,a,_,_=>by simp at a
 |x::l,h,a,h1,h2=>by
  have i:∀x∈l,p x=true->q x=true:=λz hz=>h z (zaA _ hz);rw[List.countP_cons,List.countP_cons];rcases zcn.mp a with rfl|a
  ·have:=ya i;rw[h1,h2,yIp rfl,yIn (by decide)];lia
  ·have:=x9 i a h1 h2;by_cases c:p x=true
   ·rw[yIp c,yIp (h x (by simp) c)];lia
   ·rw[yIn c];split<;>omega
theorem zq(a:x∈ss):(jL ss x<jL ss y)↔x.cps.toList<y.cps.toList:=by
 constructor
 ·intro h;by_cases c:x.cps.toList<y.cps.toList
  ·exact c
  ·exfalso;have:jL ss y<=jL ss x:=ya λz _ hz=>by
    simp only[decide_eq_true_eq] at hz⊢;by_cases d:z.cps.toList<x.cps.toList
    ·exact d
    ·exact absurd (List.lt_of_le_of_lt (List.not_lt.mp d) hz) c
   lia
 ·intro h;refine x9 (y:=x) (λz _ hz=>?_) a (by simpa using List.lt_irrefl _) (by simpa using h);simp only[decide_eq_true_eq] at hz⊢;exact List.lt_trans hz h
def TS(ss:List Str)(p:Keyed):Prop:=∃x t,p.1=.str x t/\x∈ss
end
end M10
namespace L2
open PySem PySem.Spec PyProof.Rows
section
variable {ta:TE}
theorem kY{a:Type}[DecidableEq a]:∀{l m:List a},l.Nodup->(∀y∈l,y∈m)->l.length<=m.length
 |[],_,_,_=>zcT _
 |x::l,m,h,hs=>by
  rw[zbP] at h;have j:=hs x (by simp);have:=kY (l:=l) (m:=m.erase x) h.2 λy i=>(List.mem_erase_of_ne (λe:y=x=>h.1 (by rw[<-e];exact i))).mpr (hs y (by simp[i]));rw[List.length_erase_of_mem j] at this;have:0<m.length:=List.length_pos_of_mem j;rw[zbu];lia
end
end L2
namespace M5
open PySem PySem.Spec PyProof.Rows
section
variable {w:yal}
theorem xK{d:Addr}(hd:(d==yat)=false):
  MeetsIn prog w (Builtin.«dict.__len__» ⟨[.ref d],[]⟩) (λ_ R s=>∃es ep,M6.jz s.heap d es ep/\R (.ok (.ret (.int es.size s.toks))) {s with toks:=s.toks+1}):=
 .of_wp λA R s ⟨es,ep,⟨o,e,i,a⟩,h⟩=>by
  show yas _ _ (dictSize d >>= _) _ _ s;unfold dictSize;refine yaa (yaa (wpAny_dictEntries e a (yab ?_)));show yas _ _ (Builtin.Dict.pendingCount d >>= _) _ _ s;refine yaa (wpAny_pendingCount_other hd ?_);refine wpAny_ret_mkInt ?_;rw[Nat.add_zero];exact h
theorem Bp{d:Addr}{es:Array yaw}(hd:(d==yat)=false)(a:M6.jz s.heap d es ep)(e:(es.size:Int)<2 ^ 63)(h:Q (.int es.size (s.toks+1)) {s with toks:=s.toks+1+1}):yas (model prog w) A (Builtin.«len» ⟨[.ref d],[]⟩) (λfin s'=>∃r,fin=.done (.ret r)/\Q r s') E s:=by
 unfold Builtin.«len»;refine yaa (m:=oneArg "len" _) (yab ?_);refine yaa (m:=callSpecial? (.ref d) (Str.ofString "__len__")) (wpAny_callSpecial?_slot (name:=Str.ofString "__len__") a.typeIs PySem.F.slot_dict_len (call_meetsIn PySem.F.slot_dict_len a.typeIs PySem.F.entry_dict_len (PySem.F.args_dict_len_1 _) (xK hd) ⟨es,ep,a,?_⟩));show yas _ _ _ _ _ {s with toks:=s.toks+1};refine yaa (yad (yab ?_));refine yaa (wpAny_letGo ?_);show yas _ _ (if((es.size:Nat):Int)<0 then _ else _) _ _ _;rw[yIn (by lia)];show yas _ _ (if((es.size:Nat):Int)≥2 ^ 63 then _ else _) _ _ _;rw[yIn (by lia)];exact yaa (wpAny_mkInt (yab ⟨_,rfl,h⟩))
theorem t8{d:Addr}{es:Array yaw}(F:A.handled=none)(C:(d==yat)=false)(H:M6.jz s.heap d es ep)(i:StrsAre (es.toList.map (·.key)) ss)(I:es.size<64)(h:∀(h1 h2:Heap)(tk:Nat)(out:List yaj)(a:List Str)(c:Nat),(∀b o,s.heap.get? b=some o->h1.get? b=some o)->(∀b o,h1.get? b=some o->h2.get? b=some o)->h2.get? h1.objs.size=some (seqObj "list" out.toArray c)->StrsAre out a->a.Perm ss->sortedS a=true->Q (.ref h1.objs.size) {s with heap:=h2,toks:=tk}):
  yas (model prog w) A (call (.builtin "sorted") [.ref d]) Q E s:=by
 refine zak kind_sorted plain_sorted entry_sorted (args_sorted1 _) ?_;unfold Builtin.«sorted»;refine yaa (m:=checkCount "sorted" 1 1 _) (yab ?_);refine yaa (M6.vC C ?_ H (by rw[yag];lia) λh1 tk kp=>?_)
 ·exact F
 have l:(es.toList.map (·.key)).length=es.size:=by rw[zbN,zaK]
 generalize (es.toList.map (·.key))=vs at i l;refine yaa (wpAny_newList ?_ (by first|(rw[yag];lia)|(rw[zbc,yag];lia)));have q:(h1.push (seqObj "list" vs.toArray 0)).get? h1.objs.size=some (seqObj "list" vs.toArray 0):=zaM _ rfl;refine yaa (yad (wpAny_call_entry slot_list_sort ⟨_,q,rfl⟩ entry_list_sort (list_sort_treeK (κ:=PyProof.Rows.strKind) strKind_oneLt q i.keysOf (λy u rest e=>keyKind_strs (by rw[<-e];exact i)) (by lia) λj U S=>⟨_,rfl,?_⟩) (args_list_sort _)));obtain⟨a,P,O,L⟩:=sorted_out_str i U S;obtain⟨c,n⟩:=sortedHeap_at (out:=(arrOf j).map (·.2)) q;refine yab ⟨_,rfl,h h1 _ tk ((arrOf j).map (·.2)).toList a c kp (λb o e=>?_) (by rw[Array.toArray_toList];exact n) P O L⟩;have z:=zcP e;show(sortedHeap _ _ _ _).get? b=some o;rw[sortedHeap_old (zcG z) (by rw[size_push'];exact zbn z)];exact zar _ e
end
end M5
namespace L2
open PySem PySem.Spec PyProof.Rows M6
def G2:List V->Hp->VK->Prop:=λxs H Q=>∃(a:Addr)(i:List (Key×V))(j:List Str),xs=[.ref a]/\H a=some (.dK i)/\(i.map λx=>kV x.1)=j.map V.str/\j.length<64/\∀p (e:List Str),H p=none->e.Perm j->sortedS e=true->Q (.ref p) (upd H p (.lst (e.map V.str)))
def ON(W:yal):List V->Hp->VK->Prop:=λi H Q=>∃(a j:Addr)(e:List (yan×Addr)),i=[.ref a]/\H a=some (.ext (lY W j e))/\e.length<=1000/\Q (.int e.length) H
def RL(K:yaM)(W:yal)(e:Bool):R2:=λy x H Q=>∃(a j b:Addr)(i:List (yan×Addr))(d:yan),x=.ref a/\y=.ref b/\H a=some (.ext (lY W j i))/\q9 K H i/\cy d=true/\d.depth<=6/\bM K H d (.ref b)/\Q (.bl (e != (i.any λx=>decide (x.1=d)))) H
theorem vI{k:Nat}(P:aR k X.A):bN X (.builtin "sorted") G2:=by
 intro j s F H xs us Q I r h;obtain⟨a,m,L,rfl,e,U,Y,q⟩:=h;obtain⟨u,rfl,ru⟩:=vals1 r;cases ru;obtain⟨O,hz,z,ep,W,l⟩:=LH I e;have hl:z.size=m.length:=by have:=l.length;simpa using this.symm
 rw[U] at l;have S:z.size=L.length:=by have:=l.length;simpa using this.symm
 refine M5.t8 P.hd O W (jE l) (by lia) λh1 h2 tk out i c y n g a1 C Z=>?_;have E:Inv X j F H {s with heap:=h1,toks:=tk}:=I.kept (t':=tk) y;refine⟨.ref h1.objs.size,_,E.laid (a:=h1.objs.size) (t':=tk) (o:=.lst (i.map V.str)) n (zcS _) ⟨by rw[zbN,C.length_eq];lia,out,c,M.kO a1,g⟩,rfl,q _ i (E.hok.fresh (zcS _)) C Z⟩
theorem qW(d:yan):∀ks:List (yan×Addr),(atKey (ks.map λx=>(x.1,x.2,Value.bool true)) d).isSome=(ks.any λx=>decide (x.1=d))
 |[]=>rfl
 |x::xs=>by
  have a:=qW d xs;unfold atKey at a⊢;rw[zbs] at a⊢;rw[zco,zbR,zcp];by_cases h:x.1=d
  ·simp[h]
  ·simp only[h,decide_false,zcu];exact a
theorem LZ{k:Nat}(W:aR k X.A):fk X (yao .In) (RL X.K X.w false):=by
 intro m s σ H y x v u Q I E F h;obtain⟨a,C,b,i,d,rfl,rfl,e,hk,h1,h2,h3,q⟩:=h;obtain rfl:u=Value.ref a:=F;obtain rfl:v=Value.ref b:=E;have n:=(show aW X.prog X.w H s.heap a (.ext (lY X.w C i)) from I.hok a _ e)
 obtain rfl:=mQ n;obtain⟨⟨z,o,es,ep,Y,U,hd,l,Z⟩,_,_⟩:=n;have dd:Heap.DictOfH (kj X.prog X.w) s.heap C (i.map λx=>(x.1,x.2,Value.bool true)):=by
  refine⟨o,es,ep,Y,U,hd,?_,λx j=>?_,?_⟩
  ·rw[l,zcF];rfl
  ·obtain⟨y,S,rfl⟩:=zcE.mp j;obtain⟨P,O,L⟩:=hk y S;exact I.key P O L
  ·rw[zcF];exact Z
 have hu:=W.units;refine wpAny_in_heap (knd:=kj X.prog X.w) (show X.A.units+1+10<cLine by lia) (I.key h1 h2 h3) z dd ?_;rw[qW d i];exact⟨.bl (i.any λx=>decide (x.1=d)),H,I.tok _,rfl,by simpa using q⟩
theorem BJ:bN X (.builtin "len") (ON X.w):=by
 intro m s L H xs O Q I r h;obtain⟨a,F,i,rfl,e,S,q⟩:=h;obtain⟨u,rfl,ru⟩:=vals1 r;cases ru;have n:=(show aW X.prog X.w H s.heap a (.ext (lY X.w F i)) from I.hok a _ e)
 obtain rfl:=mQ n;obtain⟨⟨z,o,E,U,C,y,hd,l,P⟩,_,_⟩:=n;have j:E.size=i.length:=by have:=congrArg zcR l;simpa using this
 refine zak kind_len plain_len entry_len (args_len1 _) (M5.Bp z ⟨o,C,y,hd⟩ (by lia) ?_);rw[j];exact⟨.int i.length,H,I.tok _,⟨_,rfl⟩,q⟩
end L2
namespace M
open PySem PySem.Spec PyProof.Rows L2 M6
section
variable {w:yal}
theorem NZ{k:Nat}{sp:AN}(F:rg K x qual st f fd)(S:aE N ps (ah st))(len:∀ds S Q,sp ds S Q->ds.length=ps.length)(i:∀(f:Addr)(e:yaj)(A:yam)(outer:List Env)(s:yai)(H:Hp)(E:XK),aR k (A.deeper (PyProof.Rows.envOfC qual (ah st) s.heap.objs.size f e))->∃a,yC (d9 iF P w K mg base N qual (ah st) f e A outer s H E).DS (aT st) a/\∀ds S Q,sp ds S Q->a {nx:=λ_ l=>Q (.dat .aY) l,rt:=Q} (aL N ds) S):bL P w K mg base iF (k+1) f fd ps (aN K sp):=
 F.ok S (λo H Q E h=>by
  obtain⟨w,ds,S,m,ok,rep,q,bk⟩:=h;rw[rep.length];exact len ds S m q) λe A outer s H o Q E y h=>by
  obtain⟨a,C,hd⟩:=i f e A outer s H E y;obtain⟨w,ds,S,m,ok,rep,q,bk⟩:=h;refine⟨_,C.p,w,aL N ds,S,_,ok,eO rep,hd ds S m q,⟨λO l L n I le j env u=>?_,bk,λ_ _ _ _ _ _ _ _ z=>z.elim,λ_ _ _ _ _ _ _ _ z=>z.elim⟩⟩;exact bk (.dat .aY) l .aY n I le j (show Rep K n .aY .aY from .aY) u
theorem qP{m:Str}{k:Nat}{sp:AN}(F:iZ K C m qual ps st)(S:aE N ps (ah st))(len:∀ds S Q,sp ds S Q->ds.length=ps.length)(e:∀(f:Addr)(i:yaj)(A:yam)(outer:List Env)(s:yai)(H:Hp)(E:XK),aR k (A.deeper (PyProof.Rows.envOfC qual (ah st) s.heap.objs.size f i))->∃a,yC (d9 iF P w K mg base N qual (ah st) f i A outer s H E).DS (aT st) a/\∀ds S Q,sp ds S Q->a {nx:=λ_ n=>Q (.dat .aY) n,rt:=Q} (aL N ds) S):cX P w K mg base (k+1) C m ps sp:=by
 obtain⟨f,fd,F,j,l⟩:=F.ex;exact⟨f,fd,NZ F S len e,j,l⟩
theorem Sf{k:Nat}{sp:AN}(F:Src K mg x ps st)(S:aE N ps (ah st))(len:∀ds S Q,sp ds S Q->ds.length=ps.length)(i:∀(f:Addr)(e:yaj)(A:yam)(outer:List Env)(s:yai)(H:Hp)(E:XK),aR k (A.deeper (PyProof.Rows.envOfC x (ah st) s.heap.objs.size f e))->∃a,yC (d9 iF P w K mg base N x (ah st) f e A outer s H E).DS (aT st) a/\∀ds S Q,sp ds S Q->a {nx:=λ_ l=>Q (.dat .aY) l,rt:=Q} (aL N ds) S):Def P w K mg base (k+1) x ps (aN K sp):=
 F.def S (λo H Q E h=>by
  obtain⟨w,ds,S,m,ok,rep,q,bk⟩:=h;rw[rep.length];exact len ds S m q) λf e A outer s H o Q E y h=>by
  obtain⟨a,C,hd⟩:=i f e A outer s H E y;obtain⟨w,ds,S,m,ok,rep,q,bk⟩:=h;refine⟨_,C.p,w,aL N ds,S,_,ok,eO rep,hd ds S m q,⟨λO l L n I le j env u=>?_,bk,λ_ _ _ _ _ _ _ _ z=>z.elim,λ_ _ _ _ _ _ _ _ z=>z.elim⟩⟩;exact bk (.dat .aY) l .aY n I le j (show Rep K n .aY .aY from .aY) u
end
section
variable {o:Expr}{k:Nat}{m:Str}{sp:AN}
theorem jT(MK:Mk X.K C f)(F:bL X.prog X.w X.K X.mg X.base iF k f fd ps (aN X.K sp))(W:Binds X.K fd ps [])(O:aR (k+1) X.A)(U:Gl X x)(P:X.mg x=some (.ref C))(z:(x==("__debug__":Str))=false:=by decide+kernel):GE X (.Call (.Name x p) [] [] pos) (Fv C sp jx):=by
 refine⟨mE (L2.jT MK F O U P W .nil qx z) λσ H Q h=>?_⟩;obtain⟨w,δ,S,Qa,ok,env,q,bk⟩:=h;refine λa E L nd ne=>?_;have n:(upd H E (HO.own a)) a=none:=by rw[au (Ne.symm ne)];exact L
 have j:=(ok.alloc (o:=.own a) nd)
 obtain⟨I,y,mJ,e⟩:=store (j.alloc (o:=.ins C E []) n) (j.fresh n (m:=.ins C [] []) ⟨E,[],rfl,rfl,.nil⟩);refine⟨I,_,_,_,mJ,by rw[zbO];exact .cons e .nil,q,λr S2 v w3 H3 l u i ⟨Z,q4⟩=>?_⟩;subst Z;have Y:=GV i rfl;exact⟨Y,bk.dat (y.trans l) u (e.le l) q4⟩
structure FP(ks:List D):Prop where
 good:∀k∈ks,jj k
 fst:∀k∈ks,∃p r,py k=PyData.tuple (.str p::r)
 cmp:∀k∈ks,∀l∈ks,cz (py k) (py l)=true
def Js(ks:List D):Prop:=ks.Pairwise (λx y=>gJ (py y) (py x)=false)
def IV:AN:=λj S Q=>∃d i,∃e:List Str,j=[d]/\bq S d=.dct (e.map Sum.inr) i/\e.length<64/\∀a:List Str,a.Perm e->sortedS a=true->Q (.new (.lst (a.map D.str))) S
def Ql(W:yal):AN:=λe S Q=>∃n a,e=[.loc n]/\S[n]? =some (some (nO W a))/\a.length<=1000/\Q (.dat (.int a.length)) S
noncomputable def Bw(ks:List D)(k:D):Bool:=ks.any λj=>decide (py j=py k)
def Sv(W:yal)(a:Bool):A2:=λx y S Q=>∃n e,y=.loc n/\S[n]? =some (some (nO W e))/\jj x/\(∀k∈e,jj k)/\Q (.dat (.bl (a != Bw e x))) S
theorem iG{ks:List D}{bs:List Addr}(a:ks.length=bs.length):(∀x∈(ks.map py).zip bs,∃k∈ks,x.1=py k)/\(ks.map py).zip bs=(ks.zip bs).map (λx=>(py x.1,x.2))/\((ks.map py).zip bs).map (λk=>V.ref k.2)=bs.map V.ref/\((ks.map py).zip bs).map (·.1)=ks.map py:=by
 refine⟨λx i=>?_,by rw[List.zip_map_left];rfl,?_,zbD (by rw[zbN];lia)⟩
 ·obtain⟨k,j,e⟩:=zcE.mp (zbQ i).1;exact⟨k,j,e.symm⟩
 ·have:((ks.map py).zip bs).map (·.2)=bs:=zbE (by rw[zbN];lia);rw[<-this,zcF,this];rfl
theorem qe{w:Wd}{ks:List D}{bs:List Addr}{Qa:AK}{Q:VK}(ok:Ok K w H S)(u:av K w ks (bs.map V.ref))(bk:dX K w Qa Q)(q:∀e:List D,e.Perm ks->Js e->Qa (.new (.lst e)) S):
  ∀(p:Addr)(out:List (yan×Addr)),H p=none->out.Perm ((ks.map py).zip bs)->out.Pairwise (λx y=>gJ y.1 x.1=false)->Q (.ref p) (upd H p (.lst (out.map λk=>V.ref k.2))):=by
 intro p out z a i;have j:ks.length=bs.length:=by have:=u.length;rw[zbN] at this;exact this.symm
 obtain⟨_,E,_,_⟩:=iG j;rw[E] at a;obtain⟨l,n,rfl⟩:=dR a;have F:(List.map (λk:yan×Addr=>V.ref k.2) (l.map λx=>(py x.1,x.2)))=l.map λx=>V.ref x.2:=by rw[zcF];rfl
 rw[F];refine bk (.new (.lst (l.map (·.1)))) S _ w _ .refl (ok.alloc z) (ok.fresh z ⟨_,rfl,jc λx C=>yF u x (n.mem_iff.mp C)⟩) (q _ ?_ ?_)
 ·have:=n.map (·.1);rw[zbD (by lia)] at this;exact this
 ·show(l.map (·.1)).Pairwise _;rw[zbl] at i⊢;exact i
theorem Mg{w:Wd}{W:yal}{ks:List D}(ok:Ok K w H S)(r:Rep K w (.loc n) v)(z:S[n]? =some (some (nO W ks))):
  ∃(a e:Addr)(bs:List Addr),v=.ref a/\H a=some (.ext (lY W e ((ks.map py).zip bs)))/\av K w ks (bs.map V.ref)/\ks.length=bs.length:=by
 simp only[Rep] at r;obtain⟨a,q,rfl⟩:=r;obtain⟨C,u,j,y,l,e,bs,rfl,i⟩:=ok.live n _ z;rw[q] at j;cases j;exact⟨a,e,bs,rfl,l,i,by have:=i.length;rw[zbN] at this;exact this.symm⟩
theorem uI(y:aR j X.A):tO X (.builtin "sorted") IV:=⟨mC (vI y) λxs H Q h=>by
 obtain⟨w,O,S,P,ok,rep,⟨d,L,n,rfl,z,C,q⟩,bk⟩:=h;obtain⟨v,rfl,u⟩:=dw rep;obtain⟨a,e,rfl,h1,h2,I⟩:=gm ok u z;refine⟨a,e,n,rfl,h1,?_,C,λp i l F E=>bk (.new (.lst _)) S _ w _ .refl (ok.alloc l) (ok.fresh l ⟨_,rfl,eE i⟩) (q i F E)⟩;have:(e.map λx=>kV x.1)=(e.map (·.1)).map kV:=by rw[zcF];rfl
 rw[this,h2,zcF];rfl⟩
theorem DP:tO X (.builtin "len") (Ql X.w):=⟨mC BJ λxs H Q h=>by
 obtain⟨w,F,S,I,ok,rep,⟨n,i,rfl,z,E,q⟩,bk⟩:=h;obtain⟨v,rfl,l⟩:=dw rep;obtain⟨a,y,bs,rfl,u,C,j⟩:=Mg ok l z;have e:((i.map py).zip bs).length=i.length:=by rw[zbW,zbN];lia
 refine⟨a,y,_,rfl,u,by lia,?_⟩;rw[e];exact bk.dat .refl ok .int q⟩
theorem O0(O:aR j X.A):pL X (yao .In) (Sv X.w false):=⟨m2 (LZ O) λx y H Q h=>by
 obtain⟨w,d,e,S,Qa,ok,F,E,⟨n,l,rfl,z,u,U,q⟩,bk⟩:=h;obtain⟨a,Y,bs,rfl,L,I,i⟩:=Mg ok E z;obtain⟨b,rfl,P⟩:=oW ok F u;obtain⟨C,Z,e1,W⟩:=iG i;refine⟨a,Y,b,_,py d,rfl,rfl,L,ir ok I U,u.2.1,u.2.2.1,P,bk.dat .refl ok .bl ?_⟩;have:(((l.map py).zip bs).any λx=>decide (x.1=py d))=Bw l d:=by
  have h1:(((l.map py).zip bs).any λx=>decide (x.1=py d))=((((l.map py).zip bs).map (·.1)).any λz=>decide (z=py d)):=by rw[zcC];rfl
  rw[h1,W,zcC];rfl
 rw[this];exact q⟩
end
end M
namespace M6
open PySem PySem.Spec PyProof.Rows
mutual
theorem qt{h:Heap}:∀(x y:yan){u:yaj}{as bs:List Addr},cy x=true->cy y=true->Reads h u x as->Reads h u y bs->x=y
 |.int i,y,u,as,bs,hx,hy,r1,r2=>by cases r1;cases r2;rfl
 |.str i,y,u,as,bs,hx,hy,r1,r2=>by cases r1;cases r2;rfl
 |.tuple xs,y,u,as,bs,hx,hy,r1,r2=>by
  cases r1 with
  |@tuple _ o vs n _ _ ho hc hd ha=>
   cases r2 with
   |@tuple _ o2 vs2 n2 ys _ ho2 hc2 hd2 ha2=>
    rw[ho] at ho2;cases ho2;rw[hd] at hd2;cases hd2;rw[nQ xs ys hx hy ha ha2]
   |list _ _ _ _=>simp[cy] at hy
   |dict _ _ _ _ _=>simp[cy] at hy
 |.none,_,_,_,_,hx,_,_,_=>by simp[cy] at hx
 |.bool _,_,_,_,_,hx,_,_,_=>by simp[cy] at hx
 |.list _,_,_,_,_,hx,_,_,_=>by simp[cy] at hx
 |.dict _,_,_,_,_,hx,_,_,_=>by simp[cy] at hx
theorem nQ{h:Heap}:∀(xs ys:List yan){us:List yaj}{as bs:List Addr},eF xs=true->eF ys=true->ReadsAll h us xs as->ReadsAll h us ys bs->xs=ys
 |[],ys,us,as,bs,hx,hy,r1,r2=>by cases r1;cases r2;rfl
 |x::xs,ys,us,as,bs,hx,hy,r1,r2=>by
  cases r1 with
  |cons a1 a2=>
   cases r2 with
   |cons b1 b2=>
    simp only[eF,zbH] at hx hy;rw[qt x _ hx.1 hy.1 a1 b1,nQ xs _ hx.2 hy.2 a2 b2]
end
section
variable {w:yal}
noncomputable def jM(ks:List (yan×Addr))(d:yan):Nat:=ks.countP λz=>gJ z.1 d
theorem uB(a:∀k∈ks,∀l∈ks,cz k.1 l.1=true){x y:yan×Addr}(i:x∈ks)(j:y∈ks):(jM ks x.1<jM ks y.1)↔gJ x.1 y.1=true:=by
 constructor
 ·intro h;by_cases c:gJ x.1 y.1=true
  ·exact c
  ·exfalso;have:jM ks y.1<=jM ks x.1:=M10.ya λz hz h1=>by
    by_cases d:gJ z.1 x.1=true
    ·exact d
    ·exfalso;by_cases e:x.1=z.1
     ·rw[<-e] at h1;exact c h1
     ·rcases xO x.1 z.1 (a x i z hz) e with g|g
      ·exact c (D9 _ _ _ (a x i z hz) (a z hz y j) (a x i y j) g h1)
      ·exact d g
   lia
 ·intro h;exact M10.x9 (y:=x) (λz hz h1=>D9 _ _ _ (a z hz x i) (a x i y j) (a z hz y j) h1 h) i (Ea _) h
noncomputable def J6(ks:List (yan×Addr)):yaj->yan
 |.ref a=>match ks.find? λk=>decide (k.2=a) with
  |some k=>k.1
  |none=>.none
 |_=>.none
theorem ko{h:Heap}(a:∀k∈ks,isKey h k.1 k.2){k:yan×Addr}(m:k∈ks):J6 ks (.ref k.2)=k.1:=by
 show(match ks.find? λj=>decide (j.2=k.2) with|some k=>k.1|none=>PyData.none)=k.1;cases e:ks.find? λj=>decide (j.2=k.2) with
 |none=>exact absurd (yDt rfl) (List.find?_eq_none.mp e k m)
 |some j=>
  have h1:=zaj e;have h2:j.2=k.2:=of_decide_eq_true (by simpa using List.find?_some e);obtain⟨o,_,q,i⟩:=a j h1;obtain⟨n,_,bs,l⟩:=a k m;rw[h2] at i;exact qt j.1 k.1 o n i l
noncomputable def RK(ks:List (yan×Addr))(p:Keyed):Int:=jM ks (J6 ks p.1)
def TK(ks:List (yan×Addr))(p:Keyed):Prop:=∃k∈ks,p.1=.ref k.2
theorem EY(m:∀k∈ks,kN s.heap k)(L:∀k∈ks,∀l∈ks,cz k.1 l.1=true)(S:A.units+6<cLine):M10.tP prog w A s (tuples' true) (RK ks) (TK ks):=by
 rintro⟨x,C⟩ ⟨y,u⟩ ⟨k,mk,o⟩ ⟨l,ml,el⟩ E Q h;have o:x=.ref k.2:=o;have el:y=.ref l.2:=el;subst o;subst el;obtain⟨i,I,P⟩:=zaI mk;obtain⟨j,H,O⟩:=zaI ml;have Z:=ko (λk a=>(m k a).1) mk;have Y:=ko (λk a=>(m k a).1) ml;have e:decide (RK ks (Value.ref k.2,C)<RK ks (Value.ref l.2,u))=gJ k.1 l.1:=by
  have:=uB L mk ml;have X:RK ks (Value.ref k.2,C)=((jM ks k.1:Nat):Int):=by unfold RK;rw[Z]
  have U:RK ks (Value.ref l.2,u)=((jM ks l.1:Nat):Int):=by unfold RK;rw[Y]
  rw[X,U];cases g:gJ k.1 l.1 with
  |true=>rw[g] at this;exact yDt (by have:=this.mpr rfl;lia)
  |false=>exact yDf λz=>by have:=this.mp (by lia);rw[g] at this;cases this
 rw[e] at h;have q:=IK (prog:=prog) (w:=w) (A:=A) (s:=s) (λk h=>(m k h).g) L S i j Q I H (by rw[P,O];exact h);unfold W.kas_ask at q;have g:∀n (F:n<ks.length),(ks.map λk=>Value.ref k.2).getD n Value.none=.ref ks[n].2:=λn F=>by simp[zcY,F]
 rw[g i I,g j H,P,O] at q;exact yac q (λ_ _ z=>z) (λ_ _ z=>z.elim)
theorem lH{d:Addr}{R:yai->Prop}(hh:A.handled=none)(hk:∀k∈ks,kN s.heap k)(hc:∀k∈ks,∀l∈ks,cz k.1 l.1=true)(h64:ks.length<=1000)(hu:A.units+20<cLine)(Y:∀{A':yam}{Z:List yaj->yai->Prop}{I:yaj->yai->Prop},A'.handled=none->(∀s1 (a:List (yan×Addr)),(∀b o,s.heap.get? b=some o->s1.heap.get? b=some o)->R s1->a.Perm ks->Z (a.map λk=>Value.ref k.2) s1)->yas (model prog w) A' (collect (.ref d)) Z I s)(h:∀(s1:yai)(h2:Heap)(out:List (yan×Addr))(c:Nat),R s1->(∀b o,s.heap.get? b=some o->s1.heap.get? b=some o)->(∀b o,s1.heap.get? b=some o->h2.get? b=some o)->h2.get? s1.heap.objs.size=some (seqObj "list" (out.map λk=>Value.ref k.2).toArray c)->out.Perm ks->out.Pairwise (λx y=>gJ y.1 x.1=false)->Q (.ref s1.heap.objs.size) {s1 with heap:=h2}):
  yas (model prog w) A (call (.builtin "sorted") [.ref d]) Q E s:=by
 refine zak kind_sorted plain_sorted entry_sorted (args_sorted1 _) ?_;unfold Builtin.«sorted»;refine yaa (m:=checkCount "sorted" 1 1 _) (yab ?_);refine yaa (Y ?_ λs1 a kp hR i=>?_)
 ·exact hh
 have hol:a.length=ks.length:=i.length_eq;generalize n:(a.map λk=>Value.ref k.2)=vs;have hvl:vs.length=a.length:=by rw[<-n,zbN]
 refine yaa (wpAny_newList ?_ (by first|(rw[yag];lia)|(rw[zbc,yag];lia)));have H:(s1.heap.push (seqObj "list" vs.toArray 0)).get? s1.heap.objs.size=some (seqObj "list" vs.toArray 0):=zaM _ rfl;have u:∀k∈a,kN (dH (s1.heap.push (seqObj "list" vs.toArray 0)) s1.heap.objs.size vs) k:=λk j=>by
  obtain⟨⟨k1,k2,as,hr⟩,r⟩:=hk k (i.mem_iff.mp j);exact⟨⟨k1,k2,as,qp H (λz=>by injection z with z;exact absurd z (by decide)) (λc o U e=>qB U e) _ k1 (Reads.keeps (λb o e=>zar _ (kp b o e)) hr)⟩,r⟩
 have C:∀k∈a,∀l∈a,cz k.1 l.1=true:=λk h1 l h2=>hc k (i.mem_iff.mp h1) l (i.mem_iff.mp h2);have key:∀(A':yam),A'.units+8<cLine->∀{P:PySem.Fin->yai->Prop}{I:yaj->yai->Prop},(∀out:Array yaj,out.toList.Perm vs->out.toList.Pairwise (λx y=>RK a (x,x)<=RK a (y,y))->P (.done (.ret .none)) {s1 with heap:=sortedHeap (s1.heap.push (seqObj "list" vs.toArray 0)) s1.heap.objs.size vs out})->
   yas (model prog w) A' (Builtin.«list.sort» ⟨[.ref s1.heap.objs.size],[]⟩) P I {s1 with heap:=s1.heap.push (seqObj "list" vs.toArray 0)}:=λA' hA P I hP=>by
  refine M10.oK (s:={s1 with heap:=s1.heap.push (seqObj "list" vs.toArray 0)}) (R:=RK a) (T:=TK a) H (by rw[yag];lia) (λh2=>⟨tuples' true,λZ X=>?_,EY u C (by lia)⟩) (λv F=>?_) hP
  ·obtain⟨fs,f1,f2,f3⟩:=uY λk h=>(u k h).g;rw[n] at f1;exact W.kat_kind (T:=.type "str") f1 (by lia) (λv F A2 Q2 E2 s2 _ q=>wpAny_typeOf (f3 v F s2) q) (by decide) X
  ·rw[<-n] at F;obtain⟨k,mk,rfl⟩:=zcE.mp F;exact⟨k,mk,rfl⟩
 refine yaa (yad (wpAny_call_entry slot_list_sort ⟨_,H,rfl⟩ entry_list_sort (key _ ?_ λout q1 q2=>⟨_,rfl,?_⟩) (args_list_sort _)))
 ·show A.units+1+1+8<cLine;lia
 ·obtain⟨c,S⟩:=sortedHeap_at (out:=out) H;rw[<-n] at q1;obtain⟨o',L,p2⟩:=dR q1;have eo:out=(o'.map λk=>Value.ref k.2).toArray:=by rw[<-p2]
  refine yab ⟨_,rfl,h s1 _ o' c hR kp (λb o e=>?_) (by rw[<-eo];exact S) (L.trans i) ?_⟩
  ·have lb:=zcP e;show(sortedHeap _ _ _ _).get? b=some o;rw[sortedHeap_old (zcG lb) (by rw[size_push'];exact zbn lb)];exact zar _ e
  ·rw[p2,zbl] at q2;refine List.Pairwise.imp_of_mem (λ{x y} hx hy O=>?_) q2;have mx:=L.mem_iff.mp hx;have my:=L.mem_iff.mp hy;have d1:=ko (λk j=>(u k j).1) mx;have d2:=ko (λk j=>(u k j).1) my;have e1:RK a (Value.ref x.2,Value.ref x.2)=((jM a x.1:Nat):Int):=by unfold RK;rw[d1]
   have e2:RK a (Value.ref y.2,Value.ref y.2)=((jM a y.1:Nat):Int):=by unfold RK;rw[d2]
   rw[e1,e2] at O;cases g:gJ y.1 x.1 with
   |false=>rfl
   |true=>have:=(uB C my mx).mpr g;lia
end
end M6
namespace L2
open PySem PySem.Spec PyProof.Rows M6
def G0(K:yaM):List V->Hp->VK->Prop:=λi H Q=>∃(a:Addr)(e:List (yan×Addr)),i=[.ref a]/\b9 K H a (e.map λk=>V.ref k.2)/\q9 K H e/\(∀k∈e,∃p r,k.1=PyData.tuple (.str p::r))/\(∀k∈e,∀l∈e,cz k.1 l.1=true)/\e.length<=1000/\
 ∀(p:Addr)(out:List (yan×Addr)),H p=none->out.Perm e->out.Pairwise (λx y=>gJ y.1 x.1=false)->Q (.ref p) (upd H p (.lst (out.map λk=>V.ref k.2)))
def G1(K:yaM)(W:yal):List V->Hp->VK->Prop:=λi H Q=>∃(a j:Addr)(e:List (yan×Addr)),i=[.ref a]/\H a=some (.ext (lY W j e))/\q9 K H e/\(∀k∈e,∃p r,k.1=PyData.tuple (.str p::r))/\(∀k∈e,∀l∈e,cz k.1 l.1=true)/\e.length<=1000/\
 ∀(p:Addr)(out:List (yan×Addr)),H p=none->out.Perm e->out.Pairwise (λx y=>gJ y.1 x.1=false)->Q (.ref p) (upd H p (.lst (out.map λk=>V.ref k.2)))
theorem vG{k:Nat}(O:aR k X.A):bN X (.builtin "sorted") (G0 X.K):=by
 intro i s U H xs us Q I r h;obtain⟨a,j,rfl,ha,hk,h0,hc,hl,q⟩:=h;obtain⟨u,rfl,ru⟩:=vals1 r;cases ru;obtain⟨z,W,⟨o,n,e,E,hd,C⟩,_⟩:=I.list ha;have ei:z=j.map λk=>Value.ref k.2:=i7 (λk:yan×Addr=>k.2) W;subst ei;refine lH (R:=λF=>∃h1,F={s with heap:=h1}) O.hd (λy L=>?_) hc hl (by have:=O.units;lia) (λhh' hQ=>collect_list (vs:=j.map λk=>Value.ref k.2) ⟨o,e,E,n,C⟩ (hQ _ j (λb o e=>?_) ⟨_,rfl⟩ (.refl _)) (by rw[zbN,yag];lia)) λF h2 out c hR m l g P hs=>?_
 ·obtain⟨m,l,Z⟩:=hk y L;exact⟨I.key m l Z,h0 y L⟩
 ·have Y:=zcP e;exact(zas _ _ (zcI Y)).trans (zar _ e)
 ·obtain⟨h1,rfl⟩:=hR;have S:Inv X i U H {s with heap:=h1}:=I.kept (t':=s.toks) m;refine⟨.ref h1.objs.size,_,S.laid (a:=h1.objs.size) (t':=s.toks) (o:=.lst (out.map λk=>V.ref k.2)) l (zcS _) ⟨by rw[zbN,P.length_eq,yag];lia,_,c,iH (λk=>k.2) out,g⟩,rfl,q _ out (S.hok.fresh (zcS _)) P hs⟩
theorem vH{k:Nat}(O:aR k X.A):bN X (.builtin "sorted") (G1 X.K X.w):=by
 intro i s U H xs us Q I r h;obtain⟨a,a',l,rfl,e,hk,h0,hc,hl,q⟩:=h;obtain⟨u,rfl,ru⟩:=vals1 r;cases ru;have F:=(show aW X.prog X.w H s.heap a (.ext (lY X.w a' l)) from I.hok a _ e)
 obtain rfl:=mQ F;obtain⟨⟨z,o,es,ep,ho,Y,hd,j,hn⟩,_,_⟩:=F;have Z:es.size=l.length:=by have:=congrArg zcR j;simpa using this
 refine lH (R:=λE=>∃h1 tk,E={s with heap:=h1,toks:=tk}) O.hd (λy L=>?_) hc hl (by have:=O.units;lia) (λC hQ=>vC z C ⟨o,ho,Y,hd⟩ (by rw[yag];lia) λh1 tk kp=>?_) λE h2 out c hR n m g P hs=>?_
 ·obtain⟨n,m,W⟩:=hk y L;exact⟨I.key n m W,h0 y L⟩
 ·rw[j,zcF];exact hQ _ l kp ⟨h1,tk,rfl⟩ (.refl _)
 ·obtain⟨h1,tk,rfl⟩:=hR;have S:Inv X i U H {s with heap:=h1,toks:=tk}:=I.kept (t':=tk) n;refine⟨.ref h1.objs.size,_,S.laid (a:=h1.objs.size) (t':=tk) (o:=.lst (out.map λk=>V.ref k.2)) m (zcS _) ⟨by rw[zbN,P.length_eq,yag];lia,_,c,iH (λk=>k.2) out,g⟩,rfl,q _ out (S.hok.fresh (zcS _)) P hs⟩
end L2
namespace M
open PySem PySem.Spec PyProof.Rows L2 M6
def IS:AN:=λi S Q=>∃d e,i=[d]/\bq S d=.lst e/\FP e/\e.length<=1000/\∀a:List D,a.Perm e->Js a->Q (.new (.lst a)) S
def IU(W:yal):AN:=λi S Q=>∃n e,i=[.loc n]/\S[n]? =some (some (nO W e))/\FP e/\e.length<=1000/\∀a:List D,a.Perm e->Js a->Q (.new (.lst a)) S
theorem DM(I:aR j X.A):tO X (.builtin "sorted") IS:=⟨mC (vG I) λxs H Q h=>by
 obtain⟨w,Y,S,Z,ok,rep,⟨d,u,rfl,z,g,P,q⟩,bk⟩:=h;obtain⟨v,rfl,C⟩:=dw rep;obtain⟨a,xs,rfl,h1,h2⟩:=bC ok C z;obtain⟨bs,rfl⟩:=qj h2 λk m=>(g.good k m).2.2.2;have l:u.length=bs.length:=by have:=h2.length;rw[zbN] at this;exact this.symm
 obtain⟨i,U,L,W⟩:=iG l;refine⟨a,(u.map py).zip bs,rfl,by rw[L];exact b9.of h1,ir ok h2 g.good,λx n=>?_,λx n y F=>?_,by rw[zbW,zbN];lia,qe ok h2 bk q⟩
 ·obtain⟨k,m,e⟩:=i x n;rw[e];exact g.fst k m
 ·obtain⟨k,m,e⟩:=i x n;obtain⟨E,o,O⟩:=i y F;rw[e,O];exact g.cmp k m E o⟩
theorem DN(O:aR j X.A):tO X (.builtin "sorted") (IU X.w):=⟨mC (vH O) λxs H Q h=>by
 obtain⟨w,ds,S,Qa,ok,rep,⟨n,W,rfl,z,g,Y,q⟩,bk⟩:=h;obtain⟨v,rfl,E⟩:=dw rep;obtain⟨a,U,bs,rfl,F,C,l⟩:=Mg ok E z;obtain⟨i,Z,e1,e2⟩:=iG l;refine⟨a,U,_,rfl,F,ir ok C g.good,λx m=>?_,λx m y L=>?_,by rw[zbW,zbN];lia,qe ok C bk q⟩
 ·obtain⟨k,u,e⟩:=i x m;rw[e];exact g.fst k u
 ·obtain⟨k,u,e⟩:=i x m;obtain⟨I,o,P⟩:=i y L;rw[e,P];exact g.cmp k u I o⟩
end M
namespace L2
open PySem PySem.Spec PyProof.Rows
structure Q8(h:Heap)(e it l:Addr)(i:Nat):Prop where
 en:∃old,IsEnum h e it i old
 li:h.IsListIter it l i
noncomputable def Tj(K:yaM)(l:Addr):It:=
 ⟨λi H=>∃xs x,b9 K H l xs/\xs[i]? =some x,λi H v a=>∃T x,H T=none/\v=.ref T/\a=upd H T (.tup [.int i,x])/\∀xs,b9 K H l xs->xs[i]? =some x,λi H=>∃xs,b9 K H l xs/\xs.length<=i⟩
theorem Q8.at{h:Heap}{e it l:Addr}(Z:Q8 h e it l i)(kp:∀b∈[e,it],∀o,h.get? b=some o->h'.get? b=some o):Q8 h' e it l i:=
 ⟨by obtain⟨o,q⟩:=Z.en;exact⟨o,kp e (by simp) _ q⟩,Z.li.at λo q=>kp it (by simp) o q⟩
theorem Az{w:yal}{kk:Nat}{ps:Pos}{e it l:Addr}(L:e≠it)(hle:l≠e)(hli:l≠it):
  Turn P w K (.Tuple elts kk ps) (Tj K l) [e,it] e (λi h=>Q8 h e it l i) where
 mem:=by simp
 obj:=λi h st b a=>by
  obtain⟨⟨F,C⟩,⟨o1,e1,c1,d1⟩⟩:=st;simp only[zcn,zbC,or_false] at a;rcases a with rfl|rfl
  ·exact⟨_,C,(λv q=>by cases q)⟩
  ·exact⟨o1,e1,λv q=>by rw[d1] at q;cases q⟩
 keep:=λi h h' st k=>st.at λb a o e=>k b a o e
 item:=by
  intro X hP hw hK hc i u s σ H E I U st hg;subst hP hw hK;obtain⟨xs,x,S,hx⟩:=hg;obtain⟨j,W,⟨Y,Z,gl,cl,dl,tl⟩,_⟩:=I.list S;obtain⟨u1,hu1,r1⟩:=W.get hx;obtain⟨⟨F,C⟩,n⟩:=id st;have hL:s.heap.IsList l j.toArray:=⟨Y,gl,cl,Z,tl⟩
  have y:e<s.heap.objs.size:=zcP C;have Q:it<s.heap.objs.size:=by obtain⟨_,x,_⟩:=n;exact zcP x
  refine wpAny_pyNext_enum_item C n hL (x:=u1) (by simpa using hu1) L λh' ho O hT hsz kp=>?_;refine⟨_,rfl,wpAny_letOwnedTupleGo_enum ho λh2 he2 sb=>?_⟩;have m:=I.vc (H':=H) (zcS s.heap.objs.size) (I.hok.fresh (zcS _));have I1:Inv X u σ H {s with heap:=h2,toks:=s.toks+1}:=I.yJ (t':=s.toks+1) (ch:=[e,it]) (λb o a q=>(sb.2 b (λz=>a (by simp[z]))).trans (kp b o (λz=>a (by simp[z])) (λz=>a (by simp[z])) q)) U;have hTe:s.heap.objs.size≠e:=zcI y;have I2:=I1.tT (o:=.tup [.int i,x]) m.1 I.sz m.2.1 m.2.2.2.2.1 m.2.2.2.2.2 ⟨by rw[yag];show 2<=_;simp,[.int i s.toks,u1],.cons ⟨_,rfl⟩ (.cons r1 .nil),⟨_,(sb.2 _ hTe).trans hT,rfl,_,rfl⟩⟩;refine⟨.ref s.heap.objs.size,_,I2,rfl,⟨_,x,m.1,rfl,rfl,λxs' h=>by rw[I.uT h S];exact hx⟩,?_,λb a=>?_⟩
  ·exact⟨⟨_,by simpa using he2⟩,O.at λo q=>(sb.2 it L.symm).trans q⟩
  ·have:b<s.heap.objs.size:=by
    simp only[zcn,zbC,or_false] at a;rcases a with rfl|rfl
    ·exact y
    ·exact Q
   rw[au (zcG this)];exact(U b a).1
 done:=by
  intro X hP hw hK hc i u s σ H E I U st hg;subst hP hw hK;obtain⟨xs,S,hx⟩:=hg;obtain⟨j,W,⟨Y,Z,gl,cl,dl,tl⟩,_⟩:=I.list S;have n1:=W.length;obtain⟨⟨F,C⟩,n⟩:=id st;refine wpAny_pyNext_enum_end (I.ok.hd hc) C n (show s.heap.IsList l j.toArray from⟨Y,gl,cl,Z,tl⟩) (by simp;lia) λh' kp=>⟨rfl,?_⟩
  exact I.yJ (t':=s.toks) (ch:=[e,it]) (λb o a q=>kp b o (λz=>a (by simp[z])) q) U
 self:=λ_ _ _ _ _ st h=>by obtain⟨_,C⟩:=st.en;exact wpAny_pyIter_enum C h
def Ep(K:yaM)(j:TA):TI:=λe H R=>j e H λi a=>∃l xs,i=[.ref l]/\b9 K a l xs/\R (Tj K l) a
theorem mz{kk:Nat}{ps:Pos}{a:Expr}{o:TA}(W:Gl X "enumerate")(U:X.mg "enumerate"=none)(Y:PA X [a] o)(S:autoParam (yap [a] X.env=[(false,eval a X.env)]) r0):
  PI X (.Tuple elts kk ps) (.Call (.Name "enumerate" p) [a] [] pos) (Ep X.K o):=by
 intro j s F H R I h;refine Call_ (gD I W U (u:=.type "enumerate") (by decide+kernel) (PyProof.Rows.callWith_type1 (bS (Y pos j s F H _ I h) λus i ⟨vs,H1,n,L,O⟩=>?_) (by rw[S];rfl) (by rfl)) (by decide+kernel) (by decide+kernel));obtain⟨l,xs,e,h1,q⟩:=O;subst e;cases L with
 |cons r rr=>
  cases rr;cases r;obtain⟨m,v1,⟨P,Q,C,cl,dl,tl⟩,_⟩:=n.list h1;have E:l<i.heap.objs.size:=zcP C;have ne:∀{x y:Nat},x<y∨y<x->@Ne Addr x y:=λh e=>by have e:(_:Nat)=_:=e;lia
  refine call_enumerate_list (show i.heap.IsList l m.toArray from⟨P,C,cl,Q,tl⟩) λh' Z Zi _ kp=>wpAny_pyIter_enum Z ?_;refine⟨_,_,_,_,H1,rfl,n.kept (t':=i.toks) kp,Az (e:=i.heap.objs.size+1) (it:=i.heap.objs.size) (l:=l) (ne (.inr (Nat.lt_succ_self _))) (ne (.inl (zbn E))) (ne (.inl E)),⟨⟨_,Z⟩,Zi⟩,λb z=>?_,q⟩;simp only[zcn,zbC,or_false] at z;have:i.heap.objs.size<=b:=by rcases z with rfl|rfl<;>lia
  exact n.vc this (n.hok.fresh this)
end L2
namespace M
open PySem PySem.Spec PyProof.Rows L2
noncomputable def z7(es:List D):List D:=es.zipIdx.map λp=>.tup [.int (p.2:Nat),p.1]
def zQ(a:AA):AI:=λi S Q=>a i S λj l=>∃e,j=[.lst e]/\Q (z7 e) (λ_=>True) l
theorem z6{es:List D}{d:D}(e:(z7 es)[i]? =some d):∃x,es[i]? =some x/\d=.tup [.int (i:Nat),x]:=by
 unfold z7 at e;rw[zbe,List.getElem?_zipIdx] at e;cases h:es[i]? with
 |none=>rw[h] at e;cases e
 |some p=>
  rw[h] at e;refine⟨p,rfl,?_⟩;have:=(zcW.inj e).symm;simpa using this
theorem GH{a:AA}:∀o H R,x6 K (zQ a) o H R->Ep K (lq K a) o H R:=by
 rintro o H R ⟨w,L,S,Qa,ok,env,q,bk⟩;refine⟨w,L,S,_,ok,env,q,λds W Y O X C l j ⟨Z,hd,Q⟩=>?_⟩;subst hd;simp only[av,Rep] at j;obtain⟨x,r,rfl,⟨a,xs,rfl,n,E⟩,rfl⟩:=j;refine⟨a,xs,rfl,b9.of (l.base _ _ n),bk _ _ W _ O X C l ⟨λi H S F d le ok I e=>?_,λi H S F d v H' le ok I e y=>?_,λi H S F le ok I e=>?_⟩ Q⟩
 ·obtain⟨p,h1,_⟩:=z6 e;obtain⟨u,z,_⟩:=E.get h1;exact⟨xs,u,b9.of ((le.b.trans ok.base) _ _ n),z⟩
 ·obtain⟨p,h1,rfl⟩:=z6 e;obtain⟨u,z,P⟩:=E.get h1;obtain⟨T,c,U,rfl,rfl,m⟩:=y;have m:=m xs (b9.of ((le.b.trans ok.base) _ _ n));rw[z] at m;cases m;exact ok.kZ U (.cons (by simp[Rep]) (.cons (P.le le) .nil))
 ·refine⟨xs,b9.of ((le.b.trans ok.base) _ _ n),?_⟩;have n1:=E.length;rw[e];unfold z7;rw[zbN,List.length_zipIdx];lia
theorem mz{kk:Nat}{ps:Pos}{a:Expr}{e:AA}(l:Gl X "enumerate")(j:X.mg "enumerate"=none)(m:GA X [a] e)(i:autoParam (yap [a] X.env=[(false,eval a X.env)]) r0):
  GI X (.Tuple elts kk ps) (.Call (.Name "enumerate" p) [a] [] pos) (zQ e):=⟨mI (L2.mz l j m.p i) GH⟩
end M
namespace L2
open PySem
structure m7(K:yaM)(x:Str)(st:Stmt):Prop where
 ex:∃f oc od kV doc pm an cdv ct osl,zcO K yar x=some (some (.ref f))/\K.lookup f=some ⟨oc,od,.func (zcN x x (cI st) (aT st) (ah st) .none kV doc pm an cdv ct),osl⟩/\zcl K cdv x=true/\zcj K (.ref f)=true
structure tF(K:yaM)(C:Addr)(m q:Str)(st:Stmt):Prop where
 ex:∃f oc od kV doc pm an cdv ct osl,zci K (.ref C) m=some (some (.ref f))/\K.lookup f=some ⟨oc,od,.func (zcN m q (cI st) (aT st) (ah st) .none kV doc pm an cdv ct),osl⟩/\zcl K cdv q=true/\zcj K (.ref f)=true/\zcM K (.ref f)=true
theorem m7.of{od m:Option Addr}{kV i j e ct:yaj}(a:zcO K yar x=some (some (.ref f)))(l:K.lookup f=some ⟨oc,od,.func (zcN x x (cI st) (aT st) (ah st) .none kV i j m e ct),osl⟩)(c:zcl K e x=true)(k:zcj K (.ref f)=true):m7 K x st:=⟨_,_,_,_,_,_,_,_,_,_,a,l,c,k⟩
theorem tF.of{m q:Str}{od o:Option Addr}{kV j n e ct:yaj}(a:zci K (.ref C) m=some (some (.ref f)))(l:K.lookup f=some ⟨oc,od,.func (zcN m q (cI st) (aT st) (ah st) .none kV j n o e ct),osl⟩)(c:zcl K e q=true)(k:zcj K (.ref f)=true)(i:zcM K (.ref f)=true):tF K C m q st:=⟨_,_,_,_,_,_,_,_,_,_,a,l,c,k,i⟩
theorem m7.src{h:Heap}(e:m7 K x st)(X:K.In h)(G:h.Ns yar mg)(b:∀(kV i m:yaj)(n:Option Addr)(j ct:yaj)(us:List yaj),us.length=ps.length->yaC (zcN x x (cI st) (aT st) (ah st) .none kV i m n j ct) ⟨us,[]⟩=pure (ps.zip us)):Src K mg x ps st:=by
 obtain⟨f,u,q,kV,i,m,n,j,ct,o,a,l,c,k⟩:=e.ex;exact J.K8 X G a l c k b
theorem tF.src{m q:Str}(e:tF K C m q st)(b:∀(kV j o:yaj)(u:Option Addr)(n ct:yaj)(us:List yaj),us.length=ps.length->yaC (zcN m q (cI st) (aT st) (ah st) .none kV j o u n ct) ⟨us,[]⟩=pure (ps.zip us)):M.iZ K C m q ps st:=by
 obtain⟨f,E,z,kV,j,o,u,n,ct,y,a,l,c,k,i⟩:=e.ex;exact⟨f,_,jr (st:=st) l c k,⟨a,i,k⟩,(jr (st:=st) l c k).binds b⟩
end L2
namespace M6
open PySem PySem.Spec PyProof.Rows
section
variable {w:yal}
theorem vj{v:yaj}{Q:Bool->yai->Prop}(h:Q true s):yas (model prog w) A (eqBool v v) Q E s:=by
 unfold eqBool;refine yad ?_;rw[yIp (by simp)];exact yaa (wpAny_rule (yab h))
theorem uV{b fin:Bool}{Q:Bool->yai->Prop}:∀(l:List yaj)(i:Nat),Q fin s->W.KatLex prog w A b fin Q (l.zip l) i s
 |[],_,h=>h
 |v::l,i,h=>by
  rw[zaR,W.KatLex.eq_2];refine vj ?_;rw[yIp rfl];exact uV l (i+1) h
def Hd(h:Heap)(k:Str×Addr):Prop:=∃o a n t r,h.get? k.2=some o/\o.cls=.type "tuple"/\o.data=.seq a n/\a.toList=.str k.1 t::r
theorem Hd.uniq{h:Heap}{k l:Str×Addr}(a:Hd h k)(b:Hd h l)(e:k.2=l.2):k.1=l.1:=by
 obtain⟨o,z,n,t,r,h1,_,j,i⟩:=a;obtain⟨F,m,n2,C,E,y,_,u,q⟩:=b;rw[e,y] at h1;cases h1;rw[u] at j;cases j;rw[q] at i;injection i with i _;injection i with i _;exact i.symm
noncomputable def O5(ks:List (Str×Addr)):yaj->Str
 |.ref a=>match ks.find? λk=>decide (k.2=a) with
  |some k=>k.1
  |none=>Str.empty
 |_=>Str.empty
theorem mK{h:Heap}{ks:List (Str×Addr)}(a:∀k∈ks,Hd h k){k:Str×Addr}(m:k∈ks):O5 ks (.ref k.2)=k.1:=by
 show(match ks.find? λj=>decide (j.2=k.2) with|some k=>k.1|none=>Str.empty)=k.1;cases e:ks.find? λj=>decide (j.2=k.2) with
 |none=>exact absurd (yDt rfl) (List.find?_eq_none.mp e k m)
 |some j=>
  have h1:=zaj e;have h2:j.2=k.2:=of_decide_eq_true (by simpa using List.find?_some e);exact(a j h1).uniq (a k m) h2
noncomputable def RN(ks:List (Str×Addr))(p:Keyed):Int:=M10.jL (ks.map (·.1)) (O5 ks p.1)
def TN(ks:List (Str×Addr))(p:Keyed):Prop:=∃k∈ks,p.1=.ref k.2
theorem zM{h:Heap}:∀{ks:List (Str×Addr)},(∀k∈ks,Hd h k)->∃fs,W.KatTups h (ks.map λk=>.ref k.2) fs/\fs.length=ks.length/\∀f∈fs,∃i t,f=Value.str i t
 |[],_=>⟨[],.nil,rfl,by simp⟩
 |k::ks,hk=>by
  obtain⟨fs,h1,h2,j⟩:=zM λk a=>hk k (zaA _ a);obtain⟨o,y,n,t,r,u,q,m,l⟩:=hk k (by simp);refine⟨.str k.1 t::fs,.cons u q m ?_ h1,by simp[h2],λf e=>?_⟩
  ·rw[<-zax,l];rfl
  ·rcases zcn.mp e with rfl|e
   ·exact⟨_,t,rfl⟩
   ·exact j f e
theorem xG{n q:Type}{f:n->q}:∀{l:List n},(l.map f).Nodup->∀a∈l,∀b∈l,f a=f b->a=b
 |[],_,a,h,_,_,_=>by simp at h
 |x::l,hn,a,j,b,i,e=>by
  rw[zco,zbP] at hn;rcases zcn.mp j with o|j
  ·rcases zcn.mp i with m|i
   ·rw[o,m]
   ·exact absurd (show f x∈l.map f from zcE.mpr ⟨b,i,by rw[<-e,o]⟩) hn.1
  ·rcases zcn.mp i with m|i
   ·exact absurd (show f x∈l.map f from zcE.mpr ⟨a,j,by rw[e,m]⟩) hn.1
   ·exact xG hn.2 a j b i e
theorem PU{ks:List (Str×Addr)}(a:∀k∈ks,Hd s.heap k)(O:(ks.map (·.1)).Nodup):M10.tP prog w A s (tuples' true) (RN ks) (TN ks):=by
 rintro⟨x,C⟩ ⟨y,u⟩ ⟨k,mk,q⟩ ⟨l,ml,el⟩ E Q h;have q:x=.ref k.2:=q;have el:y=.ref l.2:=el;subst q;subst el;have e:decide (RN ks (Value.ref k.2,C)<RN ks (Value.ref l.2,u))=decide (k.1.cps.toList<l.1.cps.toList):=by
  have:=M10.zq (ss:=ks.map (·.1)) (y:=l.1) (zcE.mpr ⟨k,mk,rfl⟩);have Z:RN ks (Value.ref k.2,C)=((M10.jL (ks.map (·.1)) k.1:Nat):Int):=by unfold RN;rw[mK a mk]
  have Y:RN ks (Value.ref l.2,u)=((M10.jL (ks.map (·.1)) l.1:Nat):Int):=by unfold RN;rw[mK a ml]
  rw[Z,Y];by_cases g:k.1.cps.toList<l.1.cps.toList
  ·rw[yDt g];exact yDt (by have:=this.mpr g;omega)
  ·rw[yDf g];exact yDf λz=>g (this.mp (by lia))
 rw[e] at h;by_cases F:k=l
 ·subst F;obtain⟨o,L,n,t,r,j,P,i,H⟩:=a k mk;refine W.kat_lt j i j i (uV _ 0 ?_);rw[yDf (by simp)];rw[yDf (List.lt_irrefl _)] at h;exact h
 ·have m:k.1≠l.1:=λz=>F (xG O k mk l ml z);obtain⟨o,L,n,t,r,j,P,i,H⟩:=a k mk;obtain⟨o2,I,n2,t2,r2,X,f2,U,S⟩:=a l ml;refine W.kat_lt j i X U ?_;rw[H,S,zaR,W.KatLex.eq_2];refine wpAny_eqBool_str ?_;rw[yDf m,yIn (by decide)];exact PyProof.Rows.oneLt_str h
theorem t9{d:Addr}{R:yai->List (Str×Addr)->Prop}(hh:A.handled=none)(hu:A.units+20<cLine)(S:∀{A':yam}{U:List yaj->yai->Prop}{u:yaj->yai->Prop},A'.handled=none->(∀s1 (ks:List (Str×Addr)),(∀b o,s.heap.get? b=some o->s1.heap.get? b=some o)->(∀k∈ks,Hd s1.heap k)->(ks.map (·.1)).Nodup->ks.length<=1000->R s1 ks->U (ks.map λk=>Value.ref k.2) s1)->yas (model prog w) A' (collect (.ref d)) U u s)(h:∀(s1:yai)(ks:List (Str×Addr))(h2:Heap)(out:List (Str×Addr))(c:Nat),R s1 ks->(∀b o,s.heap.get? b=some o->s1.heap.get? b=some o)->(∀b o,s1.heap.get? b=some o->h2.get? b=some o)->h2.get? s1.heap.objs.size=some (seqObj "list" (out.map λk=>Value.ref k.2).toArray c)->out.Perm ks->out.Pairwise (λx y=>¬y.1.cps.toList<x.1.cps.toList)->Q (.ref s1.heap.objs.size) {s1 with heap:=h2}):
  yas (model prog w) A (call (.builtin "sorted") [.ref d]) Q E s:=by
 refine zak kind_sorted plain_sorted entry_sorted (args_sorted1 _) ?_;unfold Builtin.«sorted»;refine yaa (m:=checkCount "sorted" 1 1 _) (yab ?_);refine yaa (S ?_ λs1 ks kp hk hn h64 hR=>?_)
 ·exact hh
 generalize a:(ks.map λk=>Value.ref k.2)=vs;have hvl:vs.length=ks.length:=by rw[<-a,zbN]
 refine yaa (wpAny_newList ?_ (by first|(rw[yag];lia)|(rw[zbc,yag];lia)));have O:(s1.heap.push (seqObj "list" vs.toArray 0)).get? s1.heap.objs.size=some (seqObj "list" vs.toArray 0):=zaM _ rfl;have j:∀k∈ks,Hd (dH (s1.heap.push (seqObj "list" vs.toArray 0)) s1.heap.objs.size vs) k:=λk H=>by
  obtain⟨o,us,n,t,r,g1,g2,g3,g4⟩:=hk k H;refine⟨o,us,n,t,r,qB (λz=>?_) (zar _ g1),g2,g3,g4⟩;have:k.2<s1.heap.objs.size:=zcP g1;rw[z] at this;exact absurd this (zct _)
 have key:∀(A':yam),A'.units+8<cLine->∀{P:PySem.Fin->yai->Prop}{u:yaj->yai->Prop},(∀out:Array yaj,out.toList.Perm vs->out.toList.Pairwise (λx y=>RN ks (x,x)<=RN ks (y,y))->P (.done (.ret .none)) {s1 with heap:=sortedHeap (s1.heap.push (seqObj "list" vs.toArray 0)) s1.heap.objs.size vs out})->
   yas (model prog w) A' (Builtin.«list.sort» ⟨[.ref s1.heap.objs.size],[]⟩) P u {s1 with heap:=s1.heap.push (seqObj "list" vs.toArray 0)}:=λA' hA P u hP=>by
  refine M10.oK (s:={s1 with heap:=s1.heap.push (seqObj "list" vs.toArray 0)}) (R:=RN ks) (T:=TN ks) O (by rw[yag];lia) (λh2=>⟨tuples' true,λU L=>?_,PU j hn⟩) (λv l=>?_) hP
  ·obtain⟨fs,f1,f2,f3⟩:=zM j;rw[a] at f1;refine W.kat_kind (T:=.type "str") f1 (by lia) (λv l=>?_) (by decide) L;obtain⟨i,t,rfl⟩:=f3 v l;intro A2 Q2 E2 s2 _ q;exact wpAny_typeOf (typeIs_str s2 i t) q
  ·rw[<-a] at l;obtain⟨k,mk,rfl⟩:=zcE.mp l;exact⟨k,mk,rfl⟩
 refine yaa (yad (wpAny_call_entry slot_list_sort ⟨_,O,rfl⟩ entry_list_sort (key _ ?_ λout X q2=>⟨_,rfl,?_⟩) (args_list_sort _)))
 ·show A.units+1+1+8<cLine;lia
 ·obtain⟨c,I⟩:=sortedHeap_at (out:=out) O;rw[<-a] at X;obtain⟨Z,C,Y⟩:=dR X;have eo:out=(Z.map λk=>Value.ref k.2).toArray:=by rw[<-Y]
  refine yab ⟨_,rfl,h s1 ks _ Z c hR kp (λb o e=>?_) (by rw[<-eo];exact I) C ?_⟩
  ·have lb:=zcP e;show(sortedHeap _ _ _ _).get? b=some o;rw[sortedHeap_old (zcG lb) (by rw[size_push'];exact zbn lb)];exact zar _ e
  ·rw[Y,zbl] at q2;refine List.Pairwise.imp_of_mem (λ{x y} hx hy F=>?_) q2;have mx:=C.mem_iff.mp hx;have my:=C.mem_iff.mp hy;have e1:RN ks (Value.ref x.2,Value.ref x.2)=((M10.jL (ks.map (·.1)) x.1:Nat):Int):=by unfold RN;rw[mK j mx]
   have e2:RN ks (Value.ref y.2,Value.ref y.2)=((M10.jL (ks.map (·.1)) y.1:Nat):Int):=by unfold RN;rw[mK j my]
   rw[e1,e2] at F;intro z;have:=(M10.zq (ss:=ks.map (·.1)) (y:=x.1) (zcE.mpr ⟨y,my,rfl⟩)).mpr z;lia
end
end M6
namespace L2
open PySem PySem.Spec PyProof.Rows M6
def yM(K:yaM)(l:TE):TE:=λj H Q=>l j H λx i=>∃(p:Addr)(e:List Str),x=.ref p/\b9 K i p (e.map V.str)/\e.length<4000/\
 ∀a:List Str,a.Nodup->(∀y,y∈a↔y∈e)->Q (.int a.length) i
theorem kW{L:TE}(hc:X.calm=true)(hg:Gl X "len")(hm:X.mg "len"=none)(C:Gl X "set")(n:X.mg "set"=none)(he:PE X e L)(O:autoParam (notStar e=true) r0):
  PE X (.Call (.Name "len" p) [.Call (.Name "set" p2) [e] [] pos2] [] pos) (yM X.K L):=by
 intro l s S H Q I h;have hk:=I.ok.hd hc;refine wpAny_Call_Name_kw (gD I hg hm (u:=.builtin "len") (by decide+kernel) ?_ (by decide+kernel) (by decide+kernel));refine PyProof.Rows.callWith_builtin1 (E:=X.xe) ?_ (aU [] X.env rfl) rfl;rw[aU [] X.env rfl];refine zbb ?_;refine wpAny_Call_Name_kw (gD I C n (u:=.type "set") (by decide+kernel) ?_ (by decide+kernel) (by decide+kernel));refine PyProof.Rows.callWith_type1 (E:=X.xe) ?_ (aU [] X.env O) rfl;rw[aU [] X.env O];refine zbb (bS (he l s S H _ I h) λu W ⟨x,H1,P,Y,a,ss,ex,hq,hl,q⟩=>?_);subst ex;obtain rfl:u=Value.ref a:=Y;refine zbt ?_;obtain⟨its,Z,pl,hz⟩:=P.list hq;refine M5.set_list (its:=its.toArray) (ss:=ss) hk pl.isList (by simpa using jE Z) (by omega) λh' tk U kp=>?_;refine zbt ?_;obtain⟨o,ho,es,ep,t,F,hd,hel,m,hf,_⟩:=U;have hsz:es.size<=ss.length:=by
  have h1:=m.length_eq;have h2:=M5.pH (λi=>ss.getD i ⟨#[]⟩) ss.length;rw[zbN,zaK] at h1;lia
 have j:=m.length_eq;rw[zbN,zaK] at j;refine PySem.call_len_set (s:={W with heap:=h',toks:=tk}) ho F hd hf (by lia) ⟨.int _,H1,?_,⟨_,by rw[j]⟩,q _ (M5.oB _ _) λy=>M5.Bm ss y⟩;exact P.kept (t':=tk+1+1) λb o z=>kp b o (zcP z) z
end L2
namespace M
open PySem PySem.Spec PyProof.Rows L2 M6
noncomputable abbrev QU(k:Str×List D):D:=.tup (.str k.1::k.2)
def sS(a:AE):AE:=λl S Q=>a l S λr j=>∃i:List Str,bq j r.d=.lst (i.map D.str)/\i.length<4000/\∀e:List Str,e.Nodup->(∀y,y∈e↔y∈i)->Q (.dat (.int e.length)) j
theorem C4{a:AE}:∀j H Q,bx K (sS a) j H Q->yM K (bx K a) j H Q:=by
 rintro j H Q ⟨w,n,S,L,ok,env,q,bk⟩;refine⟨w,n,S,_,ok,env,q,.go λF I E C O m i e ⟨o,z,y,u⟩=>?_⟩;obtain⟨a,xs,rfl,h1,h2⟩:=bC i e z;rw[jm h2] at h1;exact⟨a,o,rfl,b9.of h1,y,λl n1 n2=>bk.dat m i .int (u l n1 n2)⟩
theorem kW(o:X.calm=true)(m:Gl X "len")(l:X.mg "len"=none)(i:Gl X "set")(a:X.mg "set"=none)(n:GE X e ta)(j:autoParam (notStar e=true) r0):
  GE X (.Call (.Name "len" p) [.Call (.Name "set" p2) [e] [] pos2] [] pos) (sS ta):=⟨mE (L2.kW o m l i a n.p j) C4⟩
end M
namespace L2
open PySem PySem.Spec PyProof.Rows
noncomputable def XN(C:Addr)(e:Option Addr)(x:Addr):HO:=.ext λh=>∃a:Addr,h.get? x=some (PySem.W.bO C e #[.ref a,.none,.none,.none,.bool false,.none])
noncomputable def XT(C:Addr)(e:Option Addr)(T x:Addr):HO:=.ext λh=>∃(a:Addr)(m l j i:yaj),h.get? x=some (PySem.W.bO C e #[.ref a,.ref T,m,l,j,i])
noncomputable def TB(T:Addr):HO:=.ext λh=>∃(e:Obj)(a:Array yaj),h.get? T=some e/\e.data=.fields a/\a[3]? =some .none
section
variable {w:yal}{h:Heap}
theorem XN.ok{x:Addr}(e:h.get? x=some (PySem.W.bO C d0 #[.ref t0,.none,.none,.none,.bool false,.none])):aW P w H h x (XN C d0 x):=
 ⟨⟨t0,e⟩,⟨_,e⟩,λh1 h2 ⟨t,q⟩ k=>⟨t,k _ q⟩⟩
theorem XN.get{x:Addr}(ok:gg P w H h)(e:H x=some (XN C d0 x)):∃a:Addr,h.get? x=some (PySem.W.bO C d0 #[.ref a,.none,.none,.none,.bool false,.none]):=(ok x _ e).1
theorem XT.ok{x T:Addr}{l j i a:yaj}(e:h.get? x=some (PySem.W.bO C d0 #[.ref t0,.ref T,l,j,i,a])):aW P w H h x (XT C d0 T x):=
 ⟨⟨t0,l,j,i,a,e⟩,⟨_,e⟩,λh1 h2 ⟨t,u,o,n,m,q⟩ k=>⟨t,u,o,n,m,k _ q⟩⟩
theorem XT.get{x T:Addr}(ok:gg P w H h)(e:H x=some (XT C d0 T x)):∃(a:Addr)(m l j i:yaj),h.get? x=some (PySem.W.bO C d0 #[.ref a,.ref T,m,l,j,i]):=(ok x _ e).1
theorem TB.ok{T:Addr}{ob:Obj}{ts:Array yaj}(e:h.get? T=some ob)(d:ob.data=.fields ts)(n:ts[3]? =some .none):aW P w H h T (TB T):=
 ⟨⟨ob,ts,e,d,n⟩,⟨_,e⟩,λh1 h2 ⟨o,t,q,r⟩ k=>⟨o,t,k _ q,r⟩⟩
theorem TB.get{T:Addr}(ok:gg P w H h)(e:H T=some (TB T)):∃(ob:Obj)(ts:Array yaj),h.get? T=some ob/\ob.data=.fields ts/\ts[3]? =some .none:=(ok T _ e).1
end
section
variable {M:Model}
theorem qM{L e:Addr}{O:Obj}{vs:Array yaj}{l:yaj}{z:Bool}{Q:Unit->yai->Prop}(W:A.frames=some (env::outer))(hl:s.heap.FunFrames base (env::outer))(hf:env.frame=some L)(he:s.heap.get? e=some O)(hd:O.data=.fields vs)(hsz:1<vs.size)(h:∀h' T,s.heap.objs.size<=T->h'.get? e=some (Obj.mapFields (·.setIfInBounds 1 (Value.ref T)) O)->(∃ob ts,h'.get? T=some ob/\ob.data=.fields ts/\ts[3]? =some .none)->(∀b o,b≠e->b ∉ frs (env::outer)->s.heap.get? b=some o->h'.get? b=some o)->(∀b o,b≠e->s.heap.get? b=some o->∃S,h'.get? b=some {o with slots:=S})->Q () {s with heap:=h'}):
  yas M A (do let a <-frameOf env;let pl <-entryPlaceOf L z;let b <-EntryCells.newEntry l a .none (rawInt L) .none pl;setField (.ref e) 1 b) (λ_ s'=>yas M A (setFlight (.ref e) none) Q E s') E s:=by
 have R7:e ∉ (env::outer).filterMap (·.frame):=λhm=>by
  obtain⟨_,o,P,U⟩:=hl.mem hm;rw[he] at P;injection P with P;subst P;exact U vs hd
 refine yaa (wpAny_frameOf_fun W hl hf λi j=>?_);refine yaa (wpAny_entryPlaceOf λpl H=>?_);unfold EntryCells.newEntry newFields;refine yaa (yaf ?_ (H.sizeOk5 _ _ _ _ _));have u:i.get? e=some O:=(j.2.1 e R7).trans he;have n:=zar (h:=i) {cls:=.type "traceback",dict:=none,data:=.fields ([l,.ref L,.none,rawInt L,.none]++(if pl.isEmpty then zce 6 Value.none else pl)).toArray} u;refine wpAny_setField n hd hsz ?_;have I:i.objs.size≠e:=zcI (zcP u);have y:=Obj.data_mapFields hd (·.setIfInBounds 1 (Value.ref i.objs.size));have m:=zaz (Obj.mapFields (·.setIfInBounds 1 (Value.ref i.objs.size))) n (Obj.isFreed_of_fields y);have C:=(zas (i.push {cls:=.type "traceback",dict:=none,data:=.fields ([l,.ref L,.none,rawInt L,.none]++(if pl.isEmpty then zce 6 Value.none else pl)).toArray}) (Obj.mapFields (·.setIfInBounds 1 (Value.ref i.objs.size))) (Ne.symm I)).trans (zaM i rfl);unfold setFlight;refine yaa (wpAny_field m y (x:=.ref i.objs.size) (by simp[hsz]) ?_);rw[yIp (show(Value.ref i.objs.size != Value.none)=true from by simp)];have keep:∀b o,b≠e->i.get? b=some o->
   (((i.push {cls:=.type "traceback",dict:=none,data:=.fields ([l,.ref L,.none,rawInt L,.none]++(if pl.isEmpty then zce 6 Value.none else pl)).toArray}).update e (Obj.mapFields (·.setIfInBounds 1 (Value.ref i.objs.size)))).update i.objs.size (Obj.mapFields (·.setIfInBounds 3 ((none:Option Addr).elim Value.none λf=>rawInt f)))).get? b=some o:=λb o Y F=>by
  have Z:i.objs.size≠b:=zcI (zcP F);rw[zas _ _ Z,zas _ _ (Ne.symm Y)];exact zar _ F
 refine wpAny_setField C rfl (by simp only[zbc,zaO,zbu,zbS]<;>lia) (h _ i.objs.size (by rw[j.1];exact zcS _) ?_ ⟨_,_,zaz _ C (Obj.isFreed_of_fields (Obj.data_mapFields rfl _)),Obj.data_mapFields rfl _,by first|(simp;done)|(rcases H with rfl|⟨_,_,_,_,_,_,_,rfl⟩<;>simp)⟩ (λb o F X e'=>keep b o F ((j.2.1 b X).trans e')) λb o F e'=>?_)
 ·rw[zas _ _ I];exact m
 ·obtain⟨S,q⟩:=j.2.2 b o e';exact⟨S,keep b _ F q⟩
end
structure yz(X:Cx)(A:yam):Prop where
 st:X.stack=X.env::X.outer
 fr:X.env.frame=some X.env.locals
 af:A.frames=some (X.env::X.outer)
section
variable {M:Model}{x T:Addr}{Q:Unit->yai->Prop}
theorem Inv.noted{u:HO}{j:HO}(I:Inv X pins σ H s)(P:X.stack=X.env::X.outer)(e:H x=some u)(mu:NJ (some u))(S:s.heap.objs.size<=T)(hx:∀H',aW X.prog X.w H' h' x j)(l:∃o,h'.get? x=some o)(ht:∃ob ts,h'.get? T=some ob/\ob.data=.fields ts/\ts[3]? =some .none)(O:∀b o,b≠x->b ∉ frs (X.env::X.outer)->s.heap.get? b=some o->h'.get? b=some o)(L:∀b o,b≠x->s.heap.get? b=some o->∃E,h'.get? b=some {o with slots:=E}):
  Inv X pins σ (upd (upd H x j) T (TB T)) {s with heap:=h'}:=by
 have F:H T=none:=I.hok.fresh S;have xT:x≠T:=λz=>by rw[z,F] at e;cases e
 have ne:∀{b o},s.heap.get? b=some o->b≠T:=λ{b o} q=>zcG (zaV (zcP q) S);have a:∀{b v},H b=some v->b≠x->upd (upd H x j) T (TB T) b=some v:=λ{b v} q i=>by
  rw[au (aF q F),au i];exact q
 have nx:∀{b v},H b=some v->(NJ (some v)->False)->b≠x:=λ{b v} q hm z=>by
  subst z;rw[e] at q;cases q;exact hm mu
 refine I.call (g':=s.gens) (d':=s.drawn) (t':=s.toks) (ch:=[]) ⟨λb o q n i _=>?_,λb o q n i _=>?_,λb o q n _=>?_,λb o q _=>?_,λb xs q=>?_,λb o v q=>?_,λb ps q=>?_⟩ (λb v q=>?_) I.bare (λb z=>absurd z (by simp))
 ·rw[P] at i;exact O b o (λz=>by rw[z,e] at n;cases n) i q
 ·exact L b o (λz=>by rw[z,e] at n;cases n) q
 ·rw[au (ne q),au (λz=>by rw[z,e] at n;cases n)];exact n
 ·by_cases i:b=x
  ·subst i;exact l
  ·obtain⟨E,q'⟩:=L b o i q;exact⟨_,q'⟩
 ·exact a q (nx q id)
 ·exact a q (nx q id)
 ·exact⟨#[],by rw[Array.append_empty];exact a q (nx q id)⟩
 ·by_cases h1:b=T
  ·subst h1;rw[aq] at q;cases q;obtain⟨ob,ts,Z,Y,W⟩:=ht;exact TB.ok Z Y W
  ·rw[au h1] at q;by_cases h2:b=x
   ·subst h2;rw[aq] at q;cases q;exact hx _
   ·rw[au h2] at q;refine(I.hok b v q).stay (λc o hc r=>?_) (λc r=>a r (nx r id)) λc xs r=>a r (nx r id);have m:∃C,H c=some C/\c≠x:=by
     rcases hc with z|z
     ·subst z;exact⟨v,q,h2⟩
     ·exact⟨_,z,nx z id⟩
    obtain⟨C,y,U⟩:=m;refine O c o U (λz=>?_) r;rw[<-P] at z;rw[I.rB c z] at y;cases y
theorem xE(I:Inv X pins σ H s)(a:yz X A)(e:H x=some (XN C d0 x))(h:∀T s',H T=none->T≠x->Inv X pins σ (upd (upd H x (XT C d0 T x)) T (TB T)) s'->Q () s'):
  yas M A (noteFrame (.ref x) X.env) (λ_ s'=>yas M A (setFlight (.ref x) none) Q E s') E s:=by
 obtain⟨o,i⟩:=XN.get I.hok e;have l:s.heap.FunFrames X.base (X.env::X.outer):=by have:=I.stack;rw[a.st] at this;exact this
 unfold noteFrame;simp only[a.fr];refine yaa (wpAny_field i rfl (x:=.none) rfl ?_);rw[yIn (by decide)];refine qM a.af l a.fr i rfl (by simp) λq T j h1 h2 n m=>h T _ (I.hok.fresh j) (λz=>?_) (I.noted a.st e trivial j (λu=>XT.ok h1) ⟨_,h1⟩ h2 n m);exact absurd (zcP i) (by rw[<-z];exact Nat.not_lt.mpr j)
theorem qA{a:Addr}(I:Inv X pins σ H s)(i:yz X A)(e:H x=some (XT C d0 a x))(F:H a=some (TB a))(Y:a≠x)(h:∀T s',H T=none->T≠x->Inv X pins σ (upd (upd H x (XT C d0 T x)) T (TB T)) s'->Q () s'):
  yas M A (noteFrame (.ref x) X.env) (λ_ s'=>yas M A (setFlight (.ref x) none) Q E s') E s:=by
 obtain⟨t0,a2,a3,a4,a5,W⟩:=XT.get I.hok e;obtain⟨ob,S,y,u,O⟩:=TB.get I.hok F;have l:3<S.size:=(Array.getElem?_eq_some_iff.mp O).1;unfold noteFrame;simp only[i.fr];refine yaa (wpAny_field W rfl (x:=.ref a) rfl ?_);rw[yIp (show(Value.ref a != Value.none)=true from by simp)];refine yaa (wpAny_field y u O ?_);rw[yIn (by simp[rawInt])];refine yaa (wpAny_setField y u l ?_);have P:=Obj.data_mapFields u (·.setIfInBounds 3 Value.none);have L:=zaz (Obj.mapFields (·.setIfInBounds 3 Value.none)) y (Obj.isFreed_of_fields P);have m:Inv X pins σ (upd H a (TB a)) {s with heap:=s.heap.update a (Obj.mapFields (·.setIfInBounds 3 Value.none)),toks:=s.toks}:=
  I.write (x:=a) (e:=a) (by rw[F];exact True.intro) (.inl rfl) (λb q n z=>by rw[zas _ _ (Ne.symm n)];exact z) ⟨_,L⟩ (TB.ok L P (by simp[l]))
 have eH:upd H a (TB a)=H:=by
  funext b;by_cases n:b=a
  ·subst n;rw[aq,F]
  ·rw[au n]
 rw[eH] at m;obtain⟨U,b2,b3,b4,b5,j⟩:=XT.get m.hok e;have Z:(s.heap.update a (Obj.mapFields (·.setIfInBounds 3 Value.none))).FunFrames X.base (X.env::X.outer):=by have:=m.stack;rw[i.st] at this;exact this
 refine qM (s:={s with heap:=s.heap.update a (Obj.mapFields (·.setIfInBounds 3 Value.none)),toks:=s.toks}) i.af Z i.fr j rfl (by simp) λh' T o h1 h2 h3 h4=>h T _ (m.hok.fresh o) (λz=>?_) (m.noted i.st e trivial o (λH'=>XT.ok h1) ⟨_,h1⟩ h2 h3 h4);exact absurd (zcP j) (by rw[<-z];exact Nat.not_lt.mpr o)
end
theorem Inv.re{A':yam}{c:Bool}{xe:yaj->yai->Prop}(I:Inv X pins σ H s)(a:A'.frames=X.A.frames)(e:c=true->A'.handled=none):
  Inv {X with A:=A',calm:=c,xe:=xe} pins σ H s:=
 ⟨⟨I.ok.mod,I.ok.kind,I.ok.glob,I.ok.blt,I.ok.above,I.ok.inj,I.ok.has,I.ok.N7,e,a.trans I.ok.frames,I.ok.stk,I.ok.QV,I.ok.bs,I.ok.Fb,I.ok.Bf,I.ok.EF,I.ok.j8,I.ok.Ia⟩,I.os,I.bare,I.base,I.loc,I.cell,I.free,I.e8,I.pin,I.hok,I.len⟩
noncomputable abbrev Cx.at(X:Cx)(e:yaj):Cx:={X with A:=X.A.mark (some e),calm:=false,xe:=λ_ _=>False}
theorem Inv.into(I:Inv X pins σ H s)(e:yaj):Inv (X.at e) pins σ H s:=I.re rfl (λz=>by cases z)
theorem Inv.OR{e:yaj}(I:Inv (X.at e) pins σ H s)(ok:X.Ok):Inv X pins σ H s:=⟨ok,I.os,I.bare,I.base,I.loc,I.cell,I.free,I.e8,I.pin,I.hok,I.len⟩
def tQ(P:yak)(w:yal):wA:=λouter H s E e a=>∃i,a.os=s.os/\AllBare a.gens/\Un (frs outer) [] H i s.heap a.heap/\gg P w i a.heap/\E e none i
section
variable {w:yal}{s1:yai}{H1:Hp}{E:XK}
theorem AW(I:Inv (d9 (tQ P w) P w K mg base N qual scope f cd A outer s H E) pins σ H1 s1)(e:H1 a=some (XN C d0 a))(h:∀T,H1 T=none->T≠a->E (.ref a) none (upd (upd H1 a (XT C d0 T a)) T (TB T))):(d9 (tQ P w) P w K mg base N qual scope f cd A outer s H E).xe (.ref a) s1:=by
 show yas _ _ (leaving _ _) _ _ _;unfold leaving;exact yaa (xE I ⟨rfl,rfl,I.ok.frames⟩ e λT m l j i=>⟨_,i.os,i.bare,i.base,i.hok,h T l j⟩)
theorem rg.QK{k:Nat}(F:rg K x qual st f fd)(S:aE N ps (ah st))(len:∀vs H Q E,sp vs H Q E->vs.length=ps.length)(e:∀(a:yaj)(A:yam)(outer:List Env)(s:yai)(H:Hp)(vs:List V)(Q:VK)(E:XK),aR k (A.deeper (envOfC qual (ah st) s.heap.objs.size f a))->sp vs H Q E->∃t,pQ (d9 (tQ P w) P w K mg base N qual (ah st) f a A outer s H E) (aT st) t/\t {nx:=λ_ H'=>Q .aY H',rt:=Q} (start N vs) H):bL P w K mg base (tQ P w) (k+1) f fd ps sp:=by
 obtain⟨y,u,kV,o,q,z,a,ct,l,rfl,m,j⟩:=F.ex;exact J1 m j S len λA outer s H vs Q E n i=>e a A outer s H vs Q E n i
end
structure Jo(P:yak)(w:yal)(K:yaM)(mg:Str->Option yaj)(base:Heap)(k:Nat)(x:Str)(ps:List Str)(sp:Sp):Prop where
 ex:∃f fd,bL P w K mg base (tQ P w) k f fd ps sp/\mg x=some (.ref f)/\zcj K (.ref f)=true/\Binds K fd ps []
def KZ(K:yaM)(R:Addr->Addr->Option Addr->Hp->Prop)(te:TE):TS:=λ_ j H=>te j H λv i=>∃a C e,v=.ref a/\i a=some (XN C e a)/\XCls K C/\R a C e i
theorem uG{R:Addr->Addr->Option Addr->Hp->Prop}(O:X.calm=true)(P:∀i l H s a C m,Inv X i l H s->H a=some (XN C m a)->R a C m H->X.xe (.ref a) s)(L:PE X e te):PS X (.Raise (some e) none pos) (KZ X.K R te):=by
 intro i s l H D I h;rw[arm_exec_Raise];refine yaa (yaz ?_);unfold raiseStmt;simp only[evalOpt,Option.map];refine yaa (yaa (bS (L i s l H _ I h) λu n ⟨v,H1,j,r,a,C,m,U,y,ec,q⟩=>yaa (yaz (yab ?_))));subst U;obtain rfl:u=Value.ref a:=r;obtain⟨t0,z⟩:=XN.get j.hok y;obtain⟨nm,qq,N,bs,bm,o,sn,sub,ab,Y,dd,k0,k1,k2,k3,k5,E,hB,_,_⟩:=sE ec.ex;have S:=j.fE _ _ E;have F:X.A.handled=none:=j.ok.hd O;have Q:=P i l H1 n a C m j y q;have Z:=PySem.W.looks_subIn (M:=model X.prog X.w) j.fE ec.sb;obtain⟨hp,g,d,tk,os⟩:=n
 repeat (first|with_reducible refine yae z ?_|with_reducible refine yae S ?_|with_reducible refine PySem.W.Looks.at Z ?_|wp_step)
 exact wpAny_raiseNew_none F Q
def LB(K:yaM)(m l:TE)(f:Str):TS:=λD i H=>l i H λy n=>m i n λx j=>∃a C,x=.ref a/\j a=some (XN C none a)/\XCls K C/\zci K (.ref C) f=some none/\
 ∀e,j e=none->D.nx i (upd (upd j a (XN C (some e) a)) e (yp [(f,y)] e))
def K4(K:yaM)(t:TA):TE:=λe H Q=>t e H λi a=>∃x rest C j,i=.ref x::rest/\rest.length<=1000/\a x=some (XN C j x)/\excIn K C=true/\Q .aY a
theorem CS{x:Addr}{f:Str}{y:V}{Q:Unit->yai->Prop}(I:Inv X pins σ H s)(e:H x=some (XN C none x))(c:XCls X.K C)(n:zci X.K (.ref C) f=some none)(m:RelV y u)(h:∀i s',H i=none->Inv X pins σ (upd (upd H x (XN C (some i) x)) i (yp [(f,y)] i)) s'->Q () s'):yas (model X.prog X.w) A (setAttr (.ref x) f u) Q E s:=by
 obtain⟨t0,l⟩:=XN.get I.hok e;refine PySem.W.CQ I.fE l c.sa c.ov n λY O a P=>h s.heap.objs.size _ (I.hok.fresh (zcS _)) ?_;have j:s.heap.objs.size≠x:=zcI (zcP l);have Iw:Inv X pins σ (upd H x (XN C (some s.heap.objs.size) x)) {s with heap:=Y,toks:=s.toks+2}:=
  I.write (x:=x) (e:=x) (by rw[e];exact True.intro) (.inl rfl) (λb q U z=>P b q U z) ⟨_,a⟩ (XN.ok a)
 refine Iw.tT (by rw[au j];exact I.hok.fresh (zcS _)) I.sz (zcI I.lt) (λz cc Z=>?_) (λp F=>?_) ?_
 ·obtain⟨v,o,L,_⟩:=I.cell z cc Z;exact zcG (zcP L)
 ·exact zcG (zcP (I.pin p F).1)
 ·exact yp.ok (by simp) O (λg=>Du (fs:=[]) (mA:=λ_=>none) m λg=>by trivial) (G7 (fs:=[]) (mA:=λ_=>none) λg S=>absurd rfl S)
section
variable {o:Expr}{f d:Str}{ta tv:TE}{t:TA}
theorem jO(F:PE X o ta)(z:PE X value tv)(E:autoParam (yau value (some (.Attribute o f pos')) pos.line X.env=pure false) r0)(L:autoParam (X.K=K) r0):PS X (.Assign [.Attribute o f pos'] value pos) (LB K ta tv f):=by
 subst L;intro e s i H D I h;refine plainObj_wpAny_Assign_Attribute (bS (z e s i H _ I h) λu j h1=>?_) E;obtain⟨y,W,U,l,q⟩:=h1;refine bS (F e j i W _ U q) λov Z h2=>?_;obtain⟨x,H2,S,m,a,C,ex,O,c,n,q2⟩:=h2;subst ex;obtain rfl:ov=Value.ref a:=m;exact CS S O c n l λP Y nd Q=>⟨i,_,Q,q2 P nd⟩
theorem jU{pl:Sem Bool}{B:Addr}(hg:Gl X d)(Z:X.mg d=some (.ref B))(b:Kr X.K B)(ha:PA X (e::es) t)(n:(d==("__debug__":Str))=false:=by decide+kernel)(m:autoParam ((e::es).all notStar=true) r0)(Y:autoParam (eval (.Call (.Attribute (.Name d p) "__init__" apos) (e::es) [] pos) X.env=(do
   let ov <-eval (.Name d p) X.env
   standAt apos.atName
   let(g0,first) <-holding [ov] (yaF ov "__init__" pl)
   yaB pos g0 first (yav pos (yap (e::es) X.env)) (yaH pos (yaG [] X.env)))) r0)(hK:autoParam (X.K=K) r0):
  PE X (.Call (.Attribute (.Name d p) "__init__" apos) (e::es) [] pos) (K4 K t):=by
 subst hK;have h2:=m;rw[zcq,zbH] at h2;intro a s y H Q I h;refine zay (pl:=pl) (fB I hg Z ?_ n) Y;refine PySem.W.method_cls I.fE b.ga (PySem.W.cls_value I.fE b.rd b.fc (by decide+kernel) ?_);refine PyProof.Rows.callWith_builtin1 (bS (ha pos a {s with toks:=s.toks+1} y H _ (I.tok _) h) λus E hh=>?_) (aU es X.env h2.1) (cE es h2.2);obtain⟨vs,l,u,P,x,rest,C,L,ev,hz,ex,ec,S⟩:=hh;subst ev;cases P with
 |@cons _ ux _ ur rx rr=>
  obtain rfl:ux=Value.ref x:=rx;obtain⟨t0,U⟩:=XN.get u.hok ex;obtain⟨nm,q,N,bs,bm,F,sn,sub,ab,col,dd,k0,k1,k2,k3,k5,hl,hB,_,_⟩:=sE ec;refine PySem.W.En (u.fE _ _ hl) hB U (by have:=rr.length;rw[yag];lia) λh' i hk=>⟨.aY,l,?_,rfl,S⟩
  have O:Inv X a y (upd l x (XN C L x)) {E with heap:=h',toks:=E.toks}:=
   u.write (x:=x) (e:=x) (by rw[ex];exact True.intro) (.inl rfl) (λb q j z=>hk b q j z) ⟨_,i⟩ (XN.ok i)
  have eH:upd l x (XN C L x)=l:=by
   funext b;by_cases j:b=x
   ·subst j;rw[aq,ex]
   ·rw[au j]
  rw[eH] at O;exact O
end
section
variable {k:Nat}{ds:List yaj}{E:XK}
theorem AU{Q:VK}(M:Sx X.K C f)(F:bL X.prog X.w X.K X.mg X.base CX k f fd ps sp)(S:aR (k+1) X.A)(Y:Binds X.K fd ps ds)(hd:Vals dvs ds)(P:Passes CX X E)(I:Inv X pins σ H s)(r:Vals vs us)(hz:vs.length<=1000)(h:∀x,H x=none->sp (.ref x::(vs++dvs)) (upd H x (XN C none x)) (λv H2=>v=.aY/\Q (.ref x) H2) E):
  yas (model X.prog X.w) X.A (call (.ref C) us) (EP X pins σ Q) X.xe s:=by
 have y:=h (s.heap.objs.size+1) (I.hok.fresh (zcU _));have kk:∀b o,s.heap.get? b=some o->((s.heap.push {cls:=.type "tuple",data:=.seq us.toArray}).push (PySem.W.bO C none #[.ref s.heap.objs.size,.none,.none,.none,.bool false,.none])).get? b=some o:=λb o e=>zar _ (zar _ e);have l:((s.heap.push {cls:=.type "tuple",data:=.seq us.toArray}).push (PySem.W.bO C none #[.ref s.heap.objs.size,.none,.none,.none,.bool false,.none])).get? (s.heap.objs.size+1)=some (PySem.W.bO C none #[.ref s.heap.objs.size,.none,.none,.none,.bool false,.none]):=by heap_get
 have j:Inv X pins σ (upd H (s.heap.objs.size+1) (XN C none (s.heap.objs.size+1))) {s with heap:=(s.heap.push {cls:=.type "tuple",data:=.seq us.toArray}).push (PySem.W.bO C none #[.ref s.heap.objs.size,.none,.none,.none,.bool false,.none]),toks:=s.toks}:=
  I.laid kk (zcU _) (XN.ok l)
 have n:Vals (V.ref (s.heap.objs.size+1)::(vs++dvs)) (Value.ref (s.heap.objs.size+1)::(us++ds)):=.cons rfl (r.append hd);have U:(Value.ref (s.heap.objs.size+1)::us++ds).length=ps.length:=by
  have e:=n.length;rw[F.len _ _ _ _ y] at e;exact e.symm
 obtain⟨nm,q,N,bs,bm,z,sn,sub,ab,col,dd,k0,k1,k2,k3,k5,m,hB,hA,Z⟩:=sE M.ex;obtain⟨i,g,d,t,os⟩:=s;refine yaL (PySem.W.D7 (f:=f) (I.fE _ _ m) hB hA Z (by have:=r.length;rw[yag];lia) (PySem.W.looks_findIn I.fE M.init) (λself=>PySem.W.bind_fn I.fE self (beq_iff_eq.mp M.fn)) (yay (F.run _ X.stack _ _ ⟨Value.ref (i.objs.size+1)::us,[]⟩ (Value.ref (i.objs.size+1)::(us++ds)) _ _ E (S.make C us []) (j.EJ.make C us []) (Y _ (Value.ref (i.objs.size+1)::us) j.fE U) n y) λr L a=>?_));cases r with
 |error e=>exact P pins σ _ _ e L j a
 |ok fl=>
  cases fl with
  |ret u=>
   obtain⟨v,H',I3,O,ev,q3⟩:=j.after a;subst ev;exact⟨O,⟨V.ref (i.objs.size+1),H',I3,rfl,q3⟩⟩
  |next=>exact False.elim a
  |brk=>exact False.elim a
  |cont=>exact False.elim a
def K2(C:Addr)(sp:Sp)(t:TA):TE:=λi H Q=>t i H λa e=>a.length<=1000/\∀x,e x=none->sp (.ref x::(a++[])) (upd e x (XN C none x)) (λv j=>v=.aY/\Q (.ref x) j) E0
theorem uH{t:TA}(D:lD X.prog X.w X.K X.mg X.base k x C ps sp)(o:aR (k+1) X.A)(y:Gl X x)(m:Passes iF X E0)(L:PA X (e::es) t)(i:(x==("__debug__":Str))=false:=by decide+kernel)(n:autoParam ((e::es).all notStar=true) r0):
  PE X (.Call (.Name x p) (e::es) [] pos) (K2 C sp t):=by
 obtain⟨⟨f,fd,M,F,z⟩,u⟩:=D;have h2:=n;rw[zcq,zbH] at h2;intro a s l H Q I h;refine wpAny_Call_Name_kw (fB I y u ?_ i);refine zaZ (h₀:=X.base) I.ok.mod.JU M.kp (bS (L pos a s l H _ I h) λP S ⟨O,U,j,r,hz,q⟩=>⟨j.fE,?_⟩) (aU es X.env h2.1) (cE es h2.2);exact AU (dvs:=[]) M F o z .nil m j r hz q
end
structure FQ(k:Nat)(A:yam):Prop where
 dp:A.depth+3*k+5<yaA
 un:A.units+16*k+200<cLine
 gd:A.guards=some []
theorem aR.h{k:Nat}(r:aR k A)(e:Option yaj):FQ k (A.mark e):=⟨r.dp,r.un,r.gd⟩
structure KD(P:yak)(w:yal)(K:yaM)(mg:Str->Option yaj)(base:Heap)(k:Nat)(f:Addr)(fd:yaq)(ps:List Str)(sp:Sp):Prop where
 len:∀vs H Q E,sp vs H Q E->vs.length=ps.length
 run:∀(A:yam)(outer:List Env)(s:yai)(H:Hp)(args:Args)(us:List yaj)(vs:List V)(Q:VK)(E:XK),FQ k A->tG P w K mg base A outer s H->yaD s fd args (ps.zip us)->Vals vs us->sp vs H Q E->
  codeAny (model P w) A (.call (.ref f) args) (CR iF outer P w H s Q E) s
noncomputable def QZ(P:yak)(w:yal)(K:yaM)(mg:Str->Option yaj)(base:Heap)(N:List Str)(a:Str)(scope:Scope)(f:Addr)(e:yaj)(A:yam)(outer:List Env)(s:yai)(H:Hp)(E:XK):Cx:=
 {d9 iF P w K mg base N a scope f e {A with handled:=none} outer s H E with A:=A.deeper (envOfC a scope s.heap.objs.size f e),calm:=false,xe:=λ_ _=>False}
section
variable {w:yal}
theorem fnH{k:Nat}(F:rg K x qual st f fd)(S:aE N ps (ah st))(len:∀vs H Q E,sp vs H Q E->vs.length=ps.length)(m:∀(i:yaj)(A:yam)(outer:List Env)(s:yai)(H:Hp)(vs:List V)(Q:VK)(E:XK),sp vs H Q E->∃t,pQ (QZ P w K mg base N qual (ah st) f i A outer s H E) (aT st) t/\t {nx:=λ_ H'=>Q .aY H',rt:=Q} (start N vs) H):KD P w K mg base (k+1) f fd ps sp:=by
 obtain⟨oc,od,kV,doc,pm,an,i,ct,osl,rfl,lk,Z⟩:=F.ex;refine⟨len,λA outer s H ab us vs Q E hr a hb r L=>?_⟩;have hl:=len _ _ _ _ L;have KX:K.In s.heap:=a.mod.JU.keeps λb o e=>(a.bs b o e).1;have Y:s.heap.NoLimit:=a.mod.nolimit.keeps λb o e=>(a.bs b o e).1;have l:∀y∈ps.zip us,(ah st).names.lookup y.1=some .local∨((ah st).names.lookup y.1=some .cell/\((cellsFrom (s.heap.objs.size+1) (ah st).names []).lookup y.1).isSome=true):=λ⟨n,v⟩ hy=>by
  rcases S.par n (zbQ hy).1 with q|q
  ·exact .inl q
  ·exact .inr ⟨q,zaq _ _ _ (.inl q)⟩
 refine codeAny_call_function (by have:=hr.dp;lia) (KX _ _ lk) rfl S.co S.gen rfl (PySem.W.codeRec_of KX Z) (hb _ _ _ _ ?_);refine wpAny_newFunctionEnv_cells S.kind l λenv he O x=>?_;subst he;refine⟨Y.keeps x.toInCall.keep,codeAny_func ?_⟩;obtain⟨t,ht,hq⟩:=m i A outer s H vs Q E L;have e1:tG P w K mg base {A with handled:=none} outer s H:=⟨a.frames,a.mod,a.bs,a.Fb,a.j8,a.Ia,a.hok,a.bare⟩
 have I0:Inv (d9 iF P w K mg base N qual (ah st) f i {A with handled:=none} outer s H E) [] (start N vs) H O:=qD S rfl e1 hl r x;have I:Inv (QZ P w K mg base N qual (ah st) f i A outer s H E) [] (start N vs) H O:=I0.re (Around.frames_deeper a.frames |>.trans (Around.frames_deeper (A:={A with handled:=none}) a.frames).symm) (λz=>by cases z);refine yac (ht [] O (start N vs) H _ I hq) (λfl U C=>?_) λe U C=>False.elim C;have fin:∀{j:St}{H':Hp}{v:V}{u:yaj},Inv (QZ P w K mg base N qual (ah st) f i A outer s H E) [] j H' U->RelV v u->Q v H'->CE outer P w H s Q u U:=
  λ{j H' v u} J X q=>⟨v,H',J.os,J.bare,J.base,J.hok,X,q⟩
 cases fl with
 |ret u=>
  obtain⟨v,j,H',J,X,q⟩:=C;exact fin J X q
 |next=>
  obtain⟨j,H',J,q⟩:=C;exact fin (v:=V.aY) (u:=Value.none) J rfl q
 |brk=>
  obtain⟨_,_,_,q⟩:=C;exact False.elim q
 |cont=>
  obtain⟨_,_,_,q⟩:=C;exact False.elim q
structure Jp(P:yak)(w:yal)(K:yaM)(mg:Str->Option yaj)(base:Heap)(k:Nat)(x:Str)(ps:List Str)(sp:Sp):Prop where
 ex:∃f fd,KD P w K mg base k f fd ps sp/\mg x=some (.ref f)/\zcj K (.ref f)=true/\Binds K fd ps []
theorem Src.Se{k:Nat}(F:Src K mg x ps st)(S:aE N ps (ah st))(len:∀vs H Q E,sp vs H Q E->vs.length=ps.length)(e:∀(f:Addr)(i:yaj)(A:yam)(outer:List Env)(s:yai)(H:Hp)(vs:List V)(Q:VK)(E:XK),sp vs H Q E->∃t,J.Ks (QZ P w K mg base N x (ah st) f i A outer s H E) (aT st) t/\t {nx:=λ_ H'=>Q .aY H',rt:=Q} (start N vs) H):Jp P w K mg base (k+1) x ps sp:=by
 obtain⟨f,fd,F,j,l⟩:=F.ex;refine⟨f,fd,fnH F S len λi A outer s H vs Q E h=>?_,j,F.kp,l⟩;obtain⟨t,a,b⟩:=e f i A outer s H vs Q E h;exact⟨t,a.p,b⟩
end
section
variable {t:TA}{k:Nat}
theorem Hg(D:Jp X.prog X.w X.K X.mg X.base k x ps sp)(O:FQ k X.A)(W:Gl X x)(Z:PA X (e::es) t)(o:(x==("__debug__":Str))=false:=by decide+kernel)(L:autoParam ((e::es).all notStar=true) r0):
  PE X (.Call (.Name x p) (e::es) [] pos) (yN sp [] E0 t):=by
 obtain⟨f,fd,F,P,U,Y⟩:=D.ex;have h2:=L;rw[zcq,zbH] at h2;intro a s E H Q I h;refine wpAny_Call_Name_kw (fB I W P ?_ o);refine zaZ (h₀:=X.base) I.ok.mod.JU U (bS (Z pos a s E H _ I h) λl z ⟨n,y,m,r,q⟩=>⟨m.fE,?_⟩) (aU es X.env h2.1) (cE es h2.2);have q:sp n y Q E0:=by
  have C:sp (n++[]) y Q E0:=q;rw[zbO] at C;exact C
 have S:l.length=ps.length:=by rw[<-r.length];exact F.len _ _ _ _ q
 have j:=Y z l m.fE (by rw[zbO];exact S);rw[zbO] at j;refine yaL (yay (F.run X.A X.stack z y ⟨l,[]⟩ l n Q E0 O m.EJ j r q) λr s' i=>?_);cases r with
 |error e=>exact False.elim i
 |ok fl=>
  cases fl with
  |ret u=>exact m.after i
  |next=>exact False.elim i
  |brk=>exact False.elim i
  |cont=>exact False.elim i
end
section
variable {M:Model}
theorem uQ{h:Heap}{g:Array yax}{d:Drawn}{t:Nat}{e B:Addr}{a:Obj}{Q:Bool->yai->Prop}(X:K.In h)(n:h.get? e=some a)(o:a.cls=.ref C)(u:excIn K B=true)(s1:zcz K (.ref B) (.type "BaseException")=some true)(j:zcz K (.ref C) (.ref B)=some true)(l:Q true ⟨h,g,d,t,os⟩):yas M A (excMatches (.ref e) (.ref B)) Q E ⟨h,g,d,t,os⟩:=by
 obtain⟨nm,H,N,bs,Y,i,F,sub,Z,y,U,S,P,O,L,I,m,_,_,_⟩:=sE u;have q:=X _ _ m;have z:=PySem.W.looks_subIn (M:=M) X s1;have L2:=PySem.W.looks_subIn (M:=M) X j;have f:=tc_notTuple;unfold excMatches
 repeat (first|(with_reducible refine yae n ?_;rw[o])|with_reducible refine yae q ?_|with_reducible refine PySem.W.Looks.at z ?_|with_reducible refine PySem.W.Looks.at L2 ?_|wp_step)
 exact l
end
theorem Inv.drop{M:Model}{n:Str}{Q:Unit->yai->Prop}(I:Inv X pins σ H s)(hN:X.N.Nodup)(hi:X.N[i]? =some n)(l:X.env.scope.names.lookup n=some .local)(hv:σ[i]? =some (some v))(h:∀s',Inv X pins (σ.set i none) H s'->Q () s'):yas M A (unbindBehindTheSuite X.env n pos) Q E s:=by
 obtain⟨m,hn,hl⟩:=id I.loc;obtain⟨u,ru,lk⟩:=hl i n v hi hv (.inl l);have hm:m n=some u:=by
  rcases lk with⟨_,z⟩|⟨z,_⟩
  ·exact z
  ·have W:X.env.kindOf n=some .local:=l;rw[W] at z;rcases z with z|z<;>cases z
 have P:(X.env.scope.kind== .class||(X.env.scope.kind== .module&&X.env.locals != X.env.globals))=false:=by rw[I.ok.kind];rfl
 obtain⟨oL,_,_,hoL,_⟩:=id hn;unfold unbindBehindTheSuite;refine wpAny_onRaise (wpAny_unbindName_local l hn hm P λh' u' Y C=>h _ ?_);have I0:Inv X pins (σ.set i none) H s:=I.weak (by simp) λj U e=>by
  by_cases F:j=i
  ·subst F;rw[zbh] at e;simp only[if_true] at e;split at e<;>cases e
  ·rw[zaC (Ne.symm F)] at e;exact e
 have a:gg X.prog X.w H h':=λb ob e=>by
  refine(I.hok b ob e).stay (λc U S q=>(C.2 c ?_).trans q) (λ_ q=>q) λ_ _ q=>q;rintro rfl;rcases S with rfl|S
  ·rw[I.free] at e;cases e
  ·rw[I.free] at S;cases S
 refine⟨I.ok,I.os,I.bare,⟨λb o e n Z l=>?_,λb o e n Z l=>?_,I.base.free,λb o e l=>?_,I.base.tups,I.base.oY,I.base.pS⟩,⟨_,Y,λj y v' O L e3=>?_⟩,λy c e=>?_,I.free,I.e8,λp hp=>?_,a,by simpa using I.len⟩
 ·exact(C.2 b (zcG (zaV (zcP e) I.ok.above))).trans (I.base.keep b o e n Z l)
 ·obtain⟨sl,O⟩:=I.base.slot b o e n Z l;exact⟨sl,(C.2 b (zcG (zaV (zcP e) I.ok.above))).trans O⟩
 ·obtain⟨o',O⟩:=I.base.there b o e l;exact⟨o',(C.2 b (zcG (zaV (zcP e) I.ok.above))).trans O⟩
 ·by_cases F:j=i
  ·subst F;rw[zbh] at L;simp only[if_true] at L;split at L<;>cases L
  ·rw[zaC (Ne.symm F)] at L;obtain⟨u',r',q⟩:=hl j y v' O L e3;refine⟨u',r',?_⟩;rcases q with⟨k,e⟩|⟨k,c,e,z⟩
   ·refine .inl ⟨k,?_⟩;have:y≠n:=λe=>F (oA hN O (e▸hi));simp[this,e]
   ·exact .inr ⟨k,c,e,z.sameBut C (I.ID y c e)⟩
 ·obtain⟨U,z⟩:=I.cell y c e;exact⟨U,z.sameBut C (I.ID y c e)⟩
 ·obtain⟨e,n,ne,nf,d⟩:=I.pin p hp;exact⟨(C.2 p.1 ne).trans e,n,ne,nf,d⟩
theorem Bx{M:Model}{x T:Addr}{Q:Unit->yai->Prop}(I:Inv X pins σ H s)(e:H x=some (XT C d0 T x))(l:H T=some (TB T))(h:∀s',Inv X pins σ (upd H x (XO C d0 x)) s'->Q () s'):yas M A (setFlight (.ref x) none) Q E s:=by
 obtain⟨U,a2,a3,a4,a5,O⟩:=XT.get I.hok e;obtain⟨W,F,u,o,P⟩:=TB.get I.hok l;have i:3<F.size:=(Array.getElem?_eq_some_iff.mp P).1;unfold setFlight;refine yaa (wpAny_field O rfl (x:=.ref T) rfl ?_);rw[yIp (show(Value.ref T != Value.none)=true from by simp)];refine wpAny_setField u o i (h _ ?_);have y:=Obj.data_mapFields o (·.setIfInBounds 3 ((none:Option Addr).elim Value.none λf=>rawInt f));have n:=zaz (Obj.mapFields (·.setIfInBounds 3 ((none:Option Addr).elim Value.none λf=>rawInt f))) u (Obj.isFreed_of_fields y);have m:Inv X pins σ (upd H T (TB T)) {s with heap:=s.heap.update T (Obj.mapFields (·.setIfInBounds 3 ((none:Option Addr).elim Value.none λf=>rawInt f))),toks:=s.toks}:=
  I.write (x:=T) (e:=T) (by rw[l];exact True.intro) (.inl rfl) (λb q j z=>by rw[zas _ _ (Ne.symm j)];exact z) ⟨_,n⟩ (TB.ok n y (by simp[i]))
 have S:upd H T (TB T)=H:=by
  funext b;by_cases j:b=T
  ·subst j;rw[aq,l]
  ·rw[au j]
 rw[S] at m;obtain⟨L,b2,b3,Z,Y,a⟩:=XT.get m.hok e;exact m.write (x:=x) (e:=x) (by rw[e];exact True.intro) (.inl rfl) (λb q j z=>z) ⟨_,a⟩ (XO.ok a)
structure Tc(K:yaM)(B:Addr)(H:Hp)(a C dx T:Addr)(fs:List (Str×V)):Prop where
 x:H a=some (XT C (some dx) T a)
 t:H T=some (TB T)
 d:H dx=some (yp fs dx)
 n1:T≠a
 n2:dx≠a
 sb:zcz K (.ref C) (.ref B)=some true
def lW(C:Addr)(fn:Str):Sp:=λe H Q _=>∃x v,e=[.ref x,v]/\H x=some (XN C none x)/\∀a,H a=none->Q .aY (upd (upd H x (XN C (some a) x)) a (yp [(fn,v)] a))
section
variable {w:yal}{E:XK}{B:Addr}{fn:Str}
theorem RQ:PassesOwn (model P w) (A.deeper (envOfC qual scope s.heap.objs.size f cd)) (envOfC qual scope s.heap.objs.size f cd) (d9 (tQ P w) P w K mg base N qual scope f cd A outer s H E).xe:=PassesOwn.leaving (Q₁:=λe a=>tQ P w outer H s E e a)
end
theorem bL.x0{w:yal}{k:Nat}(F:bL P w K mg base iF k f fd ps sp):bL P w K mg base CX k f fd ps sp:=
 ⟨F.len,λA outer s H a j i Q E l n m r h=>yay (F.run A outer s H a j i Q E l n m r h) λr o q=>by
  cases r with
  |ok fl=>cases fl<;>exact q
  |error e=>exact False.elim q⟩
theorem bL.or{w:yal}{k:Nat}{i:Sp}(F:bL P w K mg base CX k f fd ps sp)(G:bL P w K mg base CX k f fd ps i):bL P w K mg base CX k f fd ps λvs H Q E=>sp vs H Q E∨i vs H Q E:=
 ⟨λvs H Q E h=>h.elim (F.len vs H Q E) (G.len vs H Q E),λA outer s H a e vs Q E j m l r h=>h.elim (F.run A outer s H a e vs Q E j m l r) (G.run A outer s H a e vs Q E j m l r)⟩
section
variable {t:TA}{c n:Str}{p1 p3 p4 p5:Pos}{k:Nat}{b₀:Stmt}{suite:List Stmt}{u:TS}{B:Addr}
theorem rW{m:ExceptHandler}{j:List ExceptHandler}{tb:TS}{pos:Pos}(e:X.xe=λ_ _=>False)(l:pQ X body tb):PS X (.Try body (m::j) [] [] pos) tb:=by
 intro a s i H D I h;refine wpAny_Try_except (yac (l a s i H D I h) (λf o q=>?_) (λ_ _ z=>by rw[e] at z;exact False.elim z));cases f with
 |next=>exact yaI q
 |ret v=>exact q
 |brk=>exact q
 |cont=>exact q
end
end L2
namespace M
open PySem PySem.Spec PyProof.Rows L2
theorem rW{j:ExceptHandler}{e:List ExceptHandler}{tb:AS}(a:X.xe=λ_ _=>False)(i:yC X body tb):GS X (.Try body (j::e) [] [] pos) tb:=⟨L2.rW a i.p⟩
theorem zC{w:Wd}(ok:Ok K w H S)(h:cJ H H'):Ok K w H' S:=
 ⟨λb o e=>h b o (ok.base b o e),λn o e=>by
  obtain⟨a,u,h1,h2,j,i⟩:=ok.live n o e;exact⟨a,u,h1,h2,h a u j,i⟩,ok.inj,ok.top⟩
def XW(K:yaM)(q:Addr)(o:Nat->Addr)(fl:Nat->Str)(S:aD)(w:Wd)(j:Nat)(d:D):XK:=λn _ m=>∃i e a l T v,w.le i/\Ok K i e S/\Rep K i d v/\e a=none/\e l=none/\cJ e m/\n=.ref a/\Tc K q m a (o j) l T [(fl j,v)]
theorem XW.le{fl:Nat->Str}{w:Wd}{d:D}{i:yaj}{o:Option Addr}(h:XW K CP cs fl S w j d i o H')(e:w0.le w):XW K CP cs fl S w0 j d i o H':=by
 obtain⟨l,n,a,m,T,v,h1,h2⟩:=h;exact⟨l,n,a,m,T,v,e.trans h1,h2⟩
structure Qp(X:Cx)(CP:Addr)(cs:Nat->Addr)(fl:Nat->Str)(S:aD)(w:Wd)(j:Nat)(d:D):Prop where
 calm:X.calm=true
 pass:Passes (tQ X.prog X.w) X (XW X.K CP cs fl S w j d)
 out:∀pins σ H1 s1 a C d0,Inv X pins σ H1 s1->H1 a=some (XN C d0 a)->(∀T,H1 T=none->T≠a->XW X.K CP cs fl S w j d (.ref a) none (upd (upd H1 a (XT C d0 T a)) T (TB T)))->X.xe (.ref a) s1
section
variable {w:yal}{fl:Nat->Str}{d:D}
theorem Ga:Qp (d9 (tQ P w) P w K mg base N qual scope f cd A outer s H (XW K CP cs fl S0 w0 j d)) CP cs fl S0 w0 j d:=by
 refine⟨rfl,?_,λi y H1 F a C d0 I e h=>AW I e h⟩;intro i y H1 F e s' I h;obtain⟨H2,L,O,un,hok,E,H0,a,X,T,v,W,U,S,u,Q,q,rfl,R⟩:=h;have I2:=I.E7 (ch:=[]) L un hok O (λb z=>absurd z (by simp));show yas _ _ (leaving _ _) _ _ _;unfold leaving;refine yaa (qA I2 ⟨rfl,rfl,I.ok.frames⟩ R.x R.t R.n1 λZ s3 m n l=>⟨_,l.os,l.bare,l.base,l.hok,E,H0,a,X,Z,v,W,U,S,u,Q,λb o e=>?_,rfl,⟨?_,aq,?_,n,R.n2,R.sb⟩⟩)
 ·have Y:b≠a:=aF e u;rw[au (aF (q _ _ e) m),au Y];exact q _ _ e
 ·rw[au (Ne.symm n),aq]
 ·rw[au (aF R.d m),au R.n2];exact R.d
end
def PN(K:yaM)(l:Wd)(a:AE):TE:=λj H Q=>∃w e S i,l.le w/\Ok K w H S/\dU K w e j/\a e S i/\dX K w i Q
def PL(K:yaM)(l:Wd)(a:AS):TS:=λD j H=>∃w e S i,l.le w/\Ok K w H S/\dU K w e j/\a i e S/\wB K w i D
structure SH(X:Cx)(w0:Wd)(e:Expr)(a:AE):Prop where
 p:PE X e (PN X.K w0 a)
structure GW1(X:Cx)(w0:Wd)(s:Stmt)(a:AS):Prop where
 p:PS X s (PL X.K w0 a)
structure Ce(X:Cx)(w0:Wd)(s:List Stmt)(a:AS):Prop where
 p:pQ X s (PL X.K w0 a)
section
variable {rest p q:List Stmt}{a b:AS}{c:Expr}{tc:AT}{t:AE}
theorem GS.w(h:GS X st a):GW1 X w0 st a:=⟨mS h.p λD j H ⟨w,e,S,i,_,r⟩=>⟨w,e,S,i,r⟩⟩
theorem yC.w(h:yC X rest a):Ce X w0 rest a:=⟨QM h.p λD j H ⟨w,e,S,i,_,r⟩=>⟨w,e,S,i,r⟩⟩
theorem gP(h:GW1 X w0 st a):Ce X w0 [st] a:=⟨L2.aj h.p⟩
theorem gh(h:GW1 X w0 st a)(g:Ce X w0 rest b):Ce X w0 (st::rest) (fZ a b):=⟨QM (L2.aa h.p g.p) λD C H ⟨w,n,S,z,le,ok,env,q,bk⟩=>⟨w,n,S,_,le,ok,env,q,⟨λj y m o E e l i u=>⟨o,j,y,z,le.trans e,l,i,u,bk.le e⟩,bk.rt,bk.bk,bk.ct⟩⟩⟩
theorem wF(u:GT X c tc)(z:Ce X w0 p a)(y:Ce X w0 q b):GW1 X w0 (.If c p q pos) (vR tc a b):=⟨mS (L2.bh u.p z.p y.p) λD C H ⟨w,j,S,o,le,ok,env,q,bk⟩=>by
 refine⟨w,j,S,_,ok,env,q,λk n l E e i m=>?_⟩;cases k with
 |true=>exact u6 ⟨l,j,n,o,le.trans e,i,env.le e,by simpa using m,bk.le e⟩
 |false=>exact oR ⟨l,j,n,o,le.trans e,i,env.le e,by simpa using m,bk.le e⟩⟩
theorem rj(h:SH X w0 e t)(y:autoParam (yau e none pos.line X.env=pure false) r0):GW1 X w0 (.Expr e pos) (An t):=⟨mS (L2.bA h.p y) λD n H ⟨w,l,S,I,le,ok,env,q,bk⟩=>⟨w,l,S,_,le,ok,env,q,.go λF z E o C i j m u=>bk.nx l z n o C i j (env.le i) u⟩⟩
end
theorem l9{a:List Stmt}:Ce X w0 a (λ_ _ _=>False):=⟨λ_ _ _ _ _ _ ⟨_,_,_,_,_,_,_,z,_⟩=>z.elim⟩
def IY(i:Nat)(l:aD)(j:Nat)(d:D)(e:AE):AS:=λ_ a S=>e a S λr m=>j=i/\r=.dat d/\m=l
section
variable {fl:Nat->Str}{d:D}{k:Nat}{m:Str}
theorem jC{fn:Str}{ae:AE}{p1:Pos}(hx:Qp X CP cs fl S0 w0 j d)(Dx:lD X.prog X.w X.K X.mg X.base k x (cs i) ps (lW (cs i) fn))(hf:fl i=fn)(c:XCls X.K (cs i))(sb:zcz X.K (.ref (cs i)) (.ref CP)=some true)(hr:aR (k+1) X.A)(hg:Gl X x)(he:GE X e ae)(W:(x==("__debug__":Str))=false:=by decide+kernel)(U:autoParam ([e].all notStar=true) r0):
  GW1 X w0 (.Raise (some (.Call (.Name x p) [e] [] p1)) none pos) (IY i S0 j d ae):=by
 have ht:notStar e=true:=by rw[zcq,zbH] at U;exact U.1
 refine⟨mS (L2.uG (R:=λa C Y E=>∀T,E T=none->T≠a->XW X.K CP cs fl S0 w0 j d (.ref a) none (upd (upd E a (XT C Y T a)) T (TB T))) hx.calm (λy σ E s1 a C' Y I ex h=>hx.out y σ E s1 a C' Y I ex h) (uH Dx hr hg qx (L2.az he.p L2.ai ht) W U)) λD σ E h=>?_⟩;obtain⟨w1,δ,S,Da,le,ok,env,q,bk⟩:=h;refine⟨w1,δ,S,_,ok,env,q,λr S' v w2 H2 Q O rep hn=>?_⟩;obtain⟨rfl,rfl,rfl⟩:=hn;subst hf;have rep:Rep X.K w2 d v:=rep;refine⟨by show 1<=1000;decide,λx nx=>⟨x,v,rfl,aq,λu l=>⟨rfl,?_⟩⟩⟩;have xd:x≠u:=λz=>by rw[<-z,aq] at l;cases l
 have n:H2 u=none:=by rw[au (Ne.symm xd)] at l;exact l
 refine⟨x,cs j,some u,rfl,by rw[au xd,aq],c,λL F H=>?_⟩;have Td:L≠u:=λz=>by rw[z,aq] at F;cases F
 have P:H2 L=none:=by rw[au Td,au H,au H] at F;exact F
 refine⟨w2,H2,x,u,L,v,le.trans Q,O,rep,nx,n,λb o e=>?_,rfl,⟨?_,aq,?_,H,Ne.symm xd,sb⟩⟩
 ·have Z:b≠x:=aF e nx;have b2:b≠u:=aF e n;have b3:b≠L:=aF e P;rw[au b3,au Z,au b2,au Z,au Z];exact e
 ·rw[au (Ne.symm H),aq]
 ·rw[au (Ne.symm Td),au (Ne.symm xd),aq]
def BN(K:yaM)(q:Addr)(o:Nat->Addr)(fl:Nat->Str)(a:List D->aD->Nat->D->Prop):Sp:=λn H _ E=>∃w i S j d,Ok K w H S/\av K w i n/\a i S j d/\∀e l,XW K q o fl S w j d e none l->E e none l
def spW(K:yaM)(j:Addr)(i:Nat->Addr)(fl:Nat->Str)(sp:AN)(a:List D->aD->Nat->D->Prop):Sp:=λe H Q E=>aN K sp e H Q E∨BN K j i fl a e H Q E
def sR(C:Addr)(m:Str)(sp:AN)(e:List D->aD->Nat->D->Prop)(z:aD)(j:Nat)(d:D)(a:AE)(t:AA):AE:=λl S Q=>a l S λr u=>∃n o y,r=.dat (.loc n)/\u[n]? =some (some (.ins C o y))/\m ∉ o/\t l u λq i=>sp (.loc n::q) i Q∨(e (.loc n::q) i j d/\i=z)
structure lU(P:yak)(w:yal)(K:yaM)(mg:Str->Option yaj)(base:Heap)(k:Nat)(C0:Addr)(m:Str)(ps:List Str)(sp:AN)(CP:Addr)(cs:Nat->Addr)(fl:Nat->Str)(bad:List D->aD->Nat->D->Prop):Prop where
 ex:∃f fd,bL P w K mg base (tQ P w) k f fd ps (spW K CP cs fl sp bad)/\Meth K C0 m f/\Binds K fd ps []
theorem Cg{sp:AN}{o:Expr}{pl:Sem Bool}(hx:Qp X CP cs fl S0 w0 j d)(he:GE X o ta)(c:wz X.K C0)(Dm:lU X.prog X.w X.K X.mg X.base k C0 m ps sp CP cs fl bad)(P:aR k X.A)(Y:GA X (e::es) t)(O:autoParam (yap (e::es) X.env=(false,eval e X.env)::yap es X.env) r0)(U:autoParam ((yav pos (yap es X.env)).any (·.1)=false) r0)(ht:autoParam (eval (.Call (.Attribute o m apos) (e::es) [] pos) X.env=(do
   let ov <-eval o X.env
   standAt apos.atName
   let(g0,first) <-holding [ov] (yaF ov m pl)
   yaB pos g0 first (yav pos (yap (e::es) X.env)) (yaH pos (yaG [] X.env)))) r0):
  SH X w0 (.Call (.Attribute o m apos) (e::es) [] pos) (sR C0 m sp bad S0 j d ta t):=by
 obtain⟨f',fd,F,W,hb⟩:=Dm.ex;refine⟨mE (L2.cj he.p c W F P hb .nil hx.pass Y.p O U ht) ?_⟩;rintro σ H Q ⟨w,Z,S,Qa,le,ok,env,q,bk⟩;refine⟨w,Z,S,_,ok,env,q,λr S1 u w1 H1 l I C ⟨n,ks,ds,er,hS,W,q1⟩=>?_⟩;subst er;obtain⟨a,dx,fs,rfl,P,Y,hk,hd⟩:=k7 I C hS;subst hk;refine⟨a,dx,fs,rfl,Y,fT fs W,w1,Z,S1,_,I,env.le l,q1,λes S2 vs L H2 i E y q2=>?_⟩;have rr:av X.K L (.loc n::es) (.ref a::(vs++[])):=by
  rw[zbO];exact .cons (by simp only[Rep];exact⟨a,i.r _ _ P,rfl⟩) y
 rcases q2 with q2|⟨q2,rfl⟩
 ·exact .inl ⟨L,.loc n::es,S2,Qa,E,rr,q2,bk.le (l.trans i)⟩
 ·exact .inr ⟨L,.loc n::es,S2,j,d,E,rr,q2,λev H' z=>z.le (le.trans (l.trans i))⟩
end
section
variable {w:yal}{fl:Nat->Str}
theorem okW{k:Nat}(F:rg K x qual st f fd)(S:aE N ps (ah st))(len:∀ds S j d,bad ds S j d->ds.length=ps.length)(m:∀(i:yaj)(A:yam)(outer:List Env)(s:yai)(H:Hp)(L:Wd)(I:aD)(j:Nat)(d:D),aR k (A.deeper (envOfC qual (ah st) s.heap.objs.size f i))->∃a,Ce (d9 (tQ P w) P w K mg base N qual (ah st) f i A outer s H (XW K CP cs fl I L j d)) L (aT st) a/\∀ds,bad ds I j d->a {nx:=λ_ _=>False,rt:=λ_ _=>False} (aL N ds) I):bL P w K mg base (tQ P w) (k+1) f fd ps (BN K CP cs fl bad):=by
 have U:bL P w K mg base (tQ P w) (k+1) f fd ps (λl H _ E=>∃w ds S j d,Ok K w H S/\av K w ds l/\bad ds S j d/\E=XW K CP cs fl S w j d):=
  F.QK S (λl H Q E h=>by
   obtain⟨w,ds,S,j,d,_,rep,q,_⟩:=h;rw[rep.length];exact len ds S j d q) λi A outer s H l Q E o h=>by
   obtain⟨w,ds,S,j,d,ok,rep,q,rfl⟩:=h;obtain⟨a,X,hd⟩:=m i A outer s H w S j d o;exact⟨_,X.p,w,aL N ds,S,_,.refl,ok,eO rep,hd ds q,⟨λ_ _ _ _ _ _ _ _ z=>z.elim,λ_ _ _ _ _ _ _ _ z=>z.elim,λ_ _ _ _ _ _ _ _ z=>z.elim,λ_ _ _ _ _ _ _ _ z=>z.elim⟩⟩
 refine⟨λl H Q E h=>?_,λA outer s H n W l Q E o e0 y r h=>?_⟩
 ·obtain⟨w,ds,S,j,d,h1,h2,C,_⟩:=h;exact U.len l H (λ_ _=>False) _ ⟨w,ds,S,j,d,h1,h2,C,rfl⟩
 ·obtain⟨w,ds,S,j,d,h1,h2,C,Y⟩:=h;refine yay (U.run A outer s H n W l (λ_ _=>False) _ o e0 y r ⟨w,ds,S,j,d,h1,h2,C,rfl⟩) λr s' q=>?_;cases r with
  |ok fl=>
   cases fl with
   |ret u=>obtain⟨_,_,_,_,_,_,_,z⟩:=q;exact False.elim z
   |next=>exact q
   |brk=>exact q
   |cont=>exact q
  |error e=>
   obtain⟨O,g1,g2,g3,g4,Z⟩:=q;exact⟨O,g1,g2,g3,g4,Y e O Z⟩
theorem xY{m:Str}{k:Nat}{sp:AN}(F:iZ K C0 m qual ps st)(S:aE N ps (ah st))(G:∀f fd,rg K m qual st f fd->bL P w K mg base iF (k+1) f fd ps (aN K sp))(len:∀ds S j d,bad ds S j d->ds.length=ps.length)(e:∀(f:Addr)(i:yaj)(A:yam)(outer:List Env)(s:yai)(H:Hp)(n:Wd)(l:aD)(j:Nat)(d:D),aR k (A.deeper (envOfC qual (ah st) s.heap.objs.size f i))->∃a,Ce (d9 (tQ P w) P w K mg base N qual (ah st) f i A outer s H (XW K CP cs fl l n j d)) n (aT st) a/\∀ds,bad ds l j d->a {nx:=λ_ _=>False,rt:=λ_ _=>False} (aL N ds) l):cX P w K mg base (k+1) C0 m ps sp/\lU P w K mg base (k+1) C0 m ps sp CP cs fl bad:=by
 obtain⟨f,fd,F,o,q⟩:=F.ex;exact⟨⟨f,fd,G f fd F,o,q⟩,⟨f,fd,(G f fd F).x0.or (okW F S len (e f)),o,q⟩⟩
end
end M
namespace M12
open PySem PySem.Spec PyProof.Rows M9
section
variable {hb h0 h:Heap}{m' k:Nat}{os:List Obj}{o o0:Obj}
variable {w:yal}{l l1 l2 l3:Addr}{xs ys zs:Array yaj}{x y v f0 f1 a b c:yaj}
def Fr(hb h:Heap)(f0 f1:yaj):Prop:=∃(T:Nat)(e:Obj)(f:Bool),f0=rawInt T/\f1=.bool f/\h.get? T=some e/\hb.objs.size+6<T
end
noncomputable abbrev SW(l:Addr):Obj:={cls:=.type "list_iterator",data:=.fields #[.ref l,.int 0 0]}
noncomputable def pu:Heap->List Obj->Heap
 |h,[]=>h
 |h,o::os=>pu (h.push o) os
noncomputable abbrev p3(i e a:Addr):List Obj:=[SW i,NT e,SW a]
end M12
namespace M
open PySem PySem.Spec PyProof.Rows L2
def wC(S:aD)(d:D)(ss:List Int):Prop:=(bq S d=.tup (ss.map D.int)∨bq S d=.lst (ss.map D.int))/\ss.length<4000
end M
namespace L2
open PySem PySem.Spec PyProof.Rows
abbrev TX:=(St->Hp->Prop)->(yaj->St->Hp->Prop)->St->Hp->Prop
def PX(X:Cx)(m:List Stmt)(t:TX):Prop:=∀(a:List (Addr×Obj))(s:yai)(l:St)(H:Hp)(nx:St->Hp->Prop)(ex:yaj->St->Hp->Prop),Inv X a l H s->t nx ex l H->
 yas (model X.prog X.w) X.A (execs m X.env) (λfl n=>fl=.next/\∃i j,Inv X a i j n/\nx i j) (λe n=>∃j,Inv X a l j n/\ex e l j) s
section
variable {t:TA}{c n:Str}{p1 p3 p4 p5:Pos}{k:Nat}{b₀:Stmt}{suite:List Stmt}{u:TS}{B:Addr}
def Oj(K:yaM)(B:Addr)(i:Nat)(t:TX)(u:TS):TS:=λD j H=>t D.nx (λy j q=>∃a C m T fs,y=.ref a/\Tc K B q a C m T fs/\∀l,l a=some (XO C (some m) a)->(∀b o,q b=some o->b≠a->l b=some o)->u {nx:=λe z=>(∃v,e[i]? =some (some v))/\D.nx (e.set i none) z,rt:=λ_ _=>False} (j.set i (some (.ref a))) l) j H
theorem G8{t:TX}(y:X.stack=X.env::X.outer)(hfr:X.env.frame=some X.env.locals)(hb:PX X body t)(hgc:Gl X c)(W:X.mg c=some (.ref B))(hB:excIn X.K B=true)(sB:zcz X.K (.ref B) (.type "BaseException")=some true)(hN:X.N.Nodup)(Z:X.N[i]? =some n)(m:X.env.scope.names.lookup n=some .local)(hu:∀a:Addr,pQ (X.at (.ref a)) (b₀::suite) u)(hdc:(c==("__debug__":Str))=false:=by decide+kernel):
  PS X (.Try body [.ExceptHandler (some (.Name c p3)) (some n) (b₀::suite) p4] [] [] pos) (Oj X.K B i t u):=by
 intro j s σ H D I h;have im:yz X X.A:=⟨y,hfr,by rw[I.ok.frames,y]⟩
 refine wpAny_Try_except (yac (hb j s σ H _ _ I h) (λfl s1 ⟨e,l,H',I',q⟩=>?_) (λev s' ⟨H2,I2,a,C,dx,T,fs,eva,R,U⟩=>?_))
 ·subst e;exact yaI ⟨l,H',I',q⟩
 ·subst eva;refine qA I2 im R.x R.t R.n1 λL s3 Q hT' P=>?_;have aT':a≠L:=Ne.symm hT';refine wpAny_handleBy_cons (codeAny_handlers_test (fB (X:=X.at (.ref a)) (P.into (.ref a)) hgc W ?_ hdc)) (by intro q;cases q);have F:upd (upd H2 a (XT C (some dx) L a)) L (TB L) a=some (XT C (some dx) L a):=by rw[au aT',aq]
  obtain⟨t0,a2,a3,a4,a5,S⟩:=XT.get P.hok F;obtain⟨hp,g,d,tk,os⟩:=s3;refine uQ P.fE S rfl hB sB R.sb ?_;refine codeAny_handlers_suite_as (Bx (P.into (.ref a)) F aq λs4 I4=>?_);refine gW (X:=X.at (.ref a)) I4 hN Z (.inl m) (v:=.ref a) rfl (λs5 I5=>?_) (.inr m);refine yac (hu a j s5 _ _ _ I5 (U _ aq λb o eb E=>?_)) (λfl s6 O=>?_) (λ_ _ z=>False.elim z)
  ·rw[au E,au (aF eb Q),au E];exact eb
  ·cases fl with
   |next=>
    obtain⟨l,H',I6,⟨v,hv⟩,q6⟩:=O;have I6:=I6.OR I.ok;have Y:i<l.length:=(zae.mp hv).1;refine yaa (wpAny_bindName (gW I6 hN Z (.inl m) (v:=.aY) rfl (λs7 I7=>?_) (.inr m)));refine I7.drop hN Z m (v:=.aY) (by rw[List.getElem?_set_self Y]) λs8 I8=>?_;rw[zcD] at I8;exact⟨_,_,I8,q6⟩
   |ret u=>obtain⟨_,_,_,_,_,z⟩:=O;exact False.elim z
   |brk=>obtain⟨_,_,_,z⟩:=O;exact False.elim z
   |cont=>obtain⟨_,_,_,z⟩:=O;exact False.elim z
end
end L2
namespace M
open PySem PySem.Spec PyProof.Rows L2
theorem EU{w j:Wd}{C:Hp}{y:aD}{d:D}(ok:Ok K w H S0)(le:w.le j)(l:Ok K j C y)(u:y.take S0.length=S0)(F:bY d=true)(rep:Rep K j d v):∃a,w.le a/\Ok K a C S0/\Rep K a d v:=by
 refine nJ (r:=.dat d) (v:=v) (Qa:=λr z=>r=.dat d/\z=S0) (Q:=λv H=>∃a,w.le a/\Ok K a H S0/\Rep K a d v) ok le l rep ⟨.dat d,mH F,λk o I e=>.inl ?_,rfl,u⟩ λr z v E L n m i q=>?_
 ·rw[<-u,zaQ,yIp I];exact e
 ·obtain⟨rfl,rfl⟩:=q;exact⟨E,n,m,i⟩
end M
namespace M
open PySem L2
section
variable {c:AT}{a b r:AS}{D:fL}
theorem lN(h:∀Q:Bool->aD->Prop,Q false S->c δ S Q)(k:r D δ S):fZ (vR c a vP) r D δ S:=h _ (by rw[yIn (by decide)];exact k)
theorem e7(h:∀Q:Bool->aD->Prop,Q true S->c δ S Q)(k:a {D with nx:=r D} δ S):fZ (vR c a vP) r D δ S:=h _ (by rw[yIp rfl];exact k)
theorem qF{p:Prop}[Decidable p]{Q:Bool->aD->Prop}(h:¬p)(q:Q false S):Q (decide p) S:=by rw[yDf h];exact q
theorem qT{p:Prop}[Decidable p]{Q:Bool->aD->Prop}(h:p)(q:Q true S):Q (decide p) S:=by rw[yDt h];exact q
end
end M
namespace M
open PySem PySem.Spec PyProof.Rows L2
def IZ(i:Nat)(a:aD)(j:Nat)(d:D)(l:AE):AS:=λ_ e S=>l e S λr m=>j=i/\r=.dat d/\bY d=true/\m.take a.length=a
def Ft(C:Addr)(m:Str)(sp:AN)(e:List D->aD->Nat->D->Prop)(y:aD)(j:Nat)(d:D)(a:AE)(t:AA):AE:=λl S Q=>a l S λr u=>∃n o z,r=.dat (.loc n)/\u[n]? =some (some (.ins C o z))/\m ∉ o/\t l u λq i=>sp (.loc n::q) i Q∨(e (.loc n::q) i j d/\bY d=true/\i.take y.length=y)
section
variable {fl:Nat->Str}{d:D}{k:Nat}{m:Str}
theorem Cf{H0:Hp}{fn:Str}{ae:AE}{p1:Pos}(P:Ok X.K w0 H0 S0)(hx:Qp X CP cs fl S0 w0 j d)(Dx:lD X.prog X.w X.K X.mg X.base k x (cs i) ps (lW (cs i) fn))(hf:fl i=fn)(c:XCls X.K (cs i))(sb:zcz X.K (.ref (cs i)) (.ref CP)=some true)(hr:aR (k+1) X.A)(hg:Gl X x)(he:GE X e ae)(Y:(x==("__debug__":Str))=false:=by decide+kernel)(W:autoParam ([e].all notStar=true) r0):
  GW1 X w0 (.Raise (some (.Call (.Name x p) [e] [] p1)) none pos) (IZ i S0 j d ae):=by
 have ht:notStar e=true:=by rw[zcq,zbH] at W;exact W.1
 refine⟨mS (L2.uG (R:=λa C Z E=>∀T,E T=none->T≠a->XW X.K CP cs fl S0 w0 j d (.ref a) none (upd (upd E a (XT C Z T a)) T (TB T))) hx.calm (λy σ E s1 a C' Z I ex h=>hx.out y σ E s1 a C' Z I ex h) (uH Dx hr hg qx (L2.az he.p L2.ai ht) Y W)) λD σ E h=>?_⟩;obtain⟨w1,δ,S,Da,le,ok,env,q,bk⟩:=h;refine⟨w1,δ,S,_,ok,env,q,λr S' v w2 H2 U O rep hn=>?_⟩;obtain⟨rfl,rfl,hp,hS⟩:=hn;subst hf;have rep:Rep X.K w2 d v:=rep;obtain⟨w4,l1,l2,l3⟩:=EU P (le.trans U) O hS hp rep;refine⟨by show 1<=1000;decide,λx nx=>⟨x,v,rfl,aq,λu l=>⟨rfl,?_⟩⟩⟩;have xd:x≠u:=λz=>by rw[<-z,aq] at l;cases l
 have n:H2 u=none:=by rw[au (Ne.symm xd)] at l;exact l
 refine⟨x,cs j,some u,rfl,by rw[au xd,aq],c,λL F H=>?_⟩;have Td:L≠u:=λz=>by rw[z,aq] at F;cases F
 have Q:H2 L=none:=by rw[au Td,au H,au H] at F;exact F
 refine⟨w4,H2,x,u,L,v,l1,l2,l3,nx,n,λb o e=>?_,rfl,⟨?_,aq,?_,H,Ne.symm xd,sb⟩⟩
 ·have b1:b≠x:=aF e nx;have b2:b≠u:=aF e n;have b3:b≠L:=aF e Q;rw[au b3,au b1,au b2,au b1,au b1];exact e
 ·rw[au (Ne.symm H),aq]
 ·rw[au (Ne.symm Td),au (Ne.symm xd),aq]
theorem yG{H0:Hp}{sp:AN}{o:Expr}{pl:Sem Bool}(O:Ok X.K w0 H0 S0)(hx:Qp X CP cs fl S0 w0 j d)(he:GE X o ta)(c:wz X.K C0)(Dm:lU X.prog X.w X.K X.mg X.base k C0 m ps sp CP cs fl bad)(U:aR k X.A)(Z:GA X (e::es) t)(P:autoParam (yap (e::es) X.env=(false,eval e X.env)::yap es X.env) r0)(W:autoParam ((yav pos (yap es X.env)).any (·.1)=false) r0)(ht:autoParam (eval (.Call (.Attribute o m apos) (e::es) [] pos) X.env=(do
   let ov <-eval o X.env
   standAt apos.atName
   let(g0,first) <-holding [ov] (yaF ov m pl)
   yaB pos g0 first (yav pos (yap (e::es) X.env)) (yaH pos (yaG [] X.env)))) r0):
  SH X w0 (.Call (.Attribute o m apos) (e::es) [] pos) (Ft C0 m sp bad S0 j d ta t):=by
 obtain⟨f',fd,F,Y,hb⟩:=Dm.ex;refine⟨mE (L2.cj he.p c Y F U hb .nil hx.pass Z.p P W ht) ?_⟩;rintro σ H Q ⟨w,δ,S,Qa,le,ok,env,q,bk⟩;refine⟨w,δ,S,_,ok,env,q,λr S1 u w1 H1 l I C ⟨n,ks,ds,er,hS,Y,q1⟩=>?_⟩;subst er;obtain⟨a,dx,fs,rfl,U,Z,hk,hd⟩:=k7 I C hS;subst hk;refine⟨a,dx,fs,rfl,Z,fT fs Y,w1,δ,S1,_,I,env.le l,q1,λes S2 vs L H2 i E y q2=>?_⟩;have rr:av X.K L (.loc n::es) (.ref a::(vs++[])):=by
  rw[zbO];exact .cons (by simp only[Rep];exact⟨a,i.r _ _ U,rfl⟩) y
 rcases q2 with q2|⟨q2,hp,hS⟩
 ·exact .inl ⟨L,.loc n::es,S2,Qa,E,rr,q2,bk.le (l.trans i)⟩
 ·refine .inr ⟨L,.loc n::es,S2,j,d,E,rr,q2,λev H' z=>?_⟩;obtain⟨w',H1,b,dx',T,v,g1,g2,g3,g4⟩:=z;obtain⟨w3,l1,l2,l3⟩:=EU O (le.trans (l.trans (i.trans g1))) g2 hS hp g3;exact⟨w3,H1,b,dx',T,v,l1,l2,l3,g4⟩
theorem Od{g:AG}{b:AS}(hp:PassesOwn (model X.prog X.w) X.A X.env X.xe)(hc:X.calm=true)(hi:GI X tg iter wi)(hg:GG X tg g)(hb:Ce X w0 body b)(hs:∀x,foldedSetIterable iter X.env x=pure x:=by intro _;rfl):GW1 X w0 (.For tg iter body [] pos) (kG wi g b):=⟨mS (L2.d8 hp hc hi.p hg.p hb.p hs) λD σ H h=>by
 obtain⟨w,δ,S,Da,le0,ok,env,q,bk⟩:=h;refine⟨w,δ,S,_,ok,env,q,λu P S1 J w1 H1 Y ok1 it q1=>?_⟩;refine⟨λi m σ H=>m=u.length - i/\i<=u.length/\∃C n F,w1.le C/\Ok X.K C H F/\dU X.K C n σ/\j0 P g b (u.drop i) Da n F,⟨u.length,by simp,zcT _,w1,δ,S1,.refl,ok1,env.le Y,by simpa using q1⟩,?_⟩;rintro i m σ2 H2 ⟨rfl,hi,C,n,F,a,l,j,O⟩;by_cases Z:i<u.length
 ·rw[zag Z] at O;obtain⟨hP,O⟩:=O;have hd:u[i]? =some u[i]:=zal Z;refine .inr ⟨it.go i H2 F C _ a l hP hd,λσ' H'=>∃w3 z S3,w1.le w3/\Ok X.K w3 H' S3/\dU X.K w3 z σ'/\j0 P g b (u.drop (i+1)) Da z S3,λσ' H' h=>⟨_,by omega,rfl,Z,h⟩,λx H' y=>?_⟩;obtain⟨w2',E,l,rx⟩:=it.B6 i H2 F C _ x H' a l hP hd y
  replace j:=j.le E
  replace a:=a.trans E
  refine⟨w2',u[i],n,F,_,l,j,rx,O,λz S3 σ3 w3 H3 W mJ ab q3=>?_⟩;have Q:=Y.trans (a.trans W);refine⟨w3,z,S3,_,le0.trans Q,mJ,ab,q3,⟨?_,bk.rt.le Q,bk.nx.le Q,?_⟩⟩
  ·exact λI S4 σ4 w4 H4 U L o q4=>⟨w4,I,S4,a.trans (W.trans U),L,o,q4⟩
  ·exact λI S4 σ4 w4 H4 U L o q4=>⟨w4,I,S4,a.trans (W.trans U),L,o,q4⟩
 ·have e:i=u.length:=by lia
  subst e;rw[zbz] at O;exact .inl ⟨it.stop _ H2 F C a l O.1 rfl,bk.nx n F σ2 C H2 (Y.trans a) l j O.2⟩⟩
end
section
variable {w:yal}{fl:Nat->Str}
theorem QK{k:Nat}(F:rg K x qual st f fd)(S:aE N ps (ah st))(len:∀ds S j d,bad ds S j d->ds.length=ps.length)(m:∀(i:yaj)(A:yam)(outer:List Env)(s:yai)(H:Hp)(y:Wd)(o:aD)(j:Nat)(d:D),aR k (A.deeper (envOfC qual (ah st) s.heap.objs.size f i))->Ok K y H o->∃a,Ce (d9 (tQ P w) P w K mg base N qual (ah st) f i A outer s H (XW K CP cs fl o y j d)) y (aT st) a/\∀ds,bad ds o j d->a {nx:=λ_ _=>False,rt:=λ_ _=>False} (aL N ds) o):bL P w K mg base (tQ P w) (k+1) f fd ps (BN K CP cs fl bad):=by
 have U:bL P w K mg base (tQ P w) (k+1) f fd ps (λl H _ E=>∃w ds S j d,Ok K w H S/\av K w ds l/\bad ds S j d/\E=XW K CP cs fl S w j d):=
  F.QK S (λl H Q E h=>by
   obtain⟨w,ds,S,j,d,_,rep,q,_⟩:=h;rw[rep.length];exact len ds S j d q) λi A outer s H l Q E C h=>by
   obtain⟨w,ds,S,j,d,ok,rep,q,rfl⟩:=h;obtain⟨a,X,hd⟩:=m i A outer s H w S j d C ok;exact⟨_,X.p,w,aL N ds,S,_,.refl,ok,eO rep,hd ds q,⟨λ_ _ _ _ _ _ _ _ z=>z.elim,λ_ _ _ _ _ _ _ _ z=>z.elim,λ_ _ _ _ _ _ _ _ z=>z.elim,λ_ _ _ _ _ _ _ _ z=>z.elim⟩⟩
 refine⟨λl H Q E h=>?_,λA outer s H n W l Q E C e0 I r h=>?_⟩
 ·obtain⟨w,ds,S,j,d,h1,h2,L,_⟩:=h;exact U.len l H (λ_ _=>False) _ ⟨w,ds,S,j,d,h1,h2,L,rfl⟩
 ·obtain⟨w,ds,S,j,d,h1,h2,L,Y⟩:=h;refine yay (U.run A outer s H n W l (λ_ _=>False) _ C e0 I r ⟨w,ds,S,j,d,h1,h2,L,rfl⟩) λr s' q=>?_;cases r with
  |ok fl=>
   cases fl with
   |ret u=>obtain⟨_,_,_,_,_,_,_,z⟩:=q;exact False.elim z
   |next=>exact q
   |brk=>exact q
   |cont=>exact q
  |error e=>
   obtain⟨O,g1,g2,g3,g4,Z⟩:=q;exact⟨O,g1,g2,g3,g4,Y e O Z⟩
theorem PC{k:Nat}(F:Src K mg x ps st)(S:aE N ps (ah st))(len:∀ds S j d,bad ds S j d->ds.length=ps.length)(e:∀(f:Addr)(i:yaj)(A:yam)(outer:List Env)(s:yai)(H:Hp)(m:Wd)(l:aD)(j:Nat)(d:D),aR k (A.deeper (envOfC x (ah st) s.heap.objs.size f i))->Ok K m H l->∃a,Ce (d9 (tQ P w) P w K mg base N x (ah st) f i A outer s H (XW K CP cs fl l m j d)) m (aT st) a/\∀ds,bad ds l j d->a {nx:=λ_ _=>False,rt:=λ_ _=>False} (aL N ds) l):Jo P w K mg base (k+1) x ps (BN K CP cs fl bad):=by
 obtain⟨f,fd,F,n,o⟩:=F.ex;exact⟨f,fd,QK F S len (e f),n,F.kp,o⟩
end
def qH(a:AA):AI:=λe S Q=>a e S λl m=>∃i j:Int,l=[.int i,.int j]/\(-(2 ^ 62)<=i/\i<2 ^ 62/\-(2 ^ 62)<=j/\j<2 ^ 62)/\Q (cC i (j - i).toNat) (λ_=>True) m
theorem GF{a:AA}:∀m H R,x6 K (qH a) m H R->L2.qH (lq K a) m H R:=by
 rintro m H R ⟨w,E,S,Qa,ok,env,q,bk⟩;refine⟨w,E,S,_,ok,env,q,λZ Q W I U z u l n=>?_⟩;obtain⟨O,j,hd,P,L⟩:=n;refine⟨O,j,?_,P,?_⟩
 ·subst hd;simp only[av,Rep] at l;obtain⟨x,r,rfl,rfl,y,X,rfl,rfl,rfl⟩:=l;rfl
 ·refine bk _ _ Q _ I U z u ⟨λi H S o d le ok C e=>?_,λi H S o d x H' le ok C e y=>?_,λi H S o le ok C e=>?_⟩ L
  ·exact(rQ e).1
  ·obtain⟨y1,F⟩:=y;obtain⟨Y,rfl⟩:=rQ e;subst F y1;exact⟨o,.refl,ok,.int⟩
  ·show _<=_;rw[e];simp[cC]
theorem kT{a b:Expr}(l:Gl X "range")(j:X.mg "range"=none)(m:GA X [a,b] t)(i:autoParam (yap [a,b] X.env=[(false,eval a X.env),(false,eval b X.env)]) r0)(e:autoParam (yap [b] X.env=[(false,eval b X.env)]) r0):GI X tg (.Call (.Name "range" p) [a,b] [] pos) (qH t):=⟨mI (L2.kT l j m.p i e) GF⟩
end M
namespace L2
open PySem PySem.Spec PyProof.Rows M6
noncomputable def over(F:Addr->Option (List V))(H:Hp):Hp:=λb=>match F b with
 |some xs=>some (.tup xs)
 |none=>H b
section
variable {F:Addr->Option (List V)}
theorem iO{b:Addr}(h:F b=none):over F H b=H b:=by unfold over;rw[h]
theorem qz{b:Addr}{xs:List V}(h:F b=some xs):over F H b=some (.tup xs):=by unfold over;rw[h]
theorem Inv.Pg(I:Inv X pins σ H s)(k:∀b u,s.heap.get? b=some u->h'.get? b=some u)(a:∀b xs,F b=some xs->s.heap.objs.size<=b/\∀H',aW X.prog X.w H' h' b (.tup xs)):Inv X pins σ (over F H) {s with heap:=h',toks:=t'}:=by
 have nn:∀b o,H b=some o->F b=none:=λb o e=>by
  cases z:F b with
  |none=>rfl
  |some xs=>rw[I.hok.fresh (a b xs z).1] at e;cases e
 have kp:∀b o,H b=some o->over F H b=some o:=λb o e=>by rw[iO (nn b o e)];exact e
 refine I.un ⟨λb u q _ _ _=>k b u q,λb u q _ _ _=>⟨u.slots,k b u q⟩,λb u q n _=>?_,λb u q _=>⟨u,k b u q⟩,λb xs q=>kp _ _ q,λb u xs q=>kp _ _ q,λb i q=>⟨#[],by rw[kp _ _ q];simp⟩⟩ λb u e=>?_
 ·rw[iO]
  ·exact n
  ·cases z:F b with
   |none=>rfl
   |some xs=>exact absurd (zcP q) (Nat.not_lt.mpr (a b xs z).1)
 ·cases z:F b with
  |none=>
   rw[iO z] at e;exact(I.hok b u e).stay (λc v _ q=>k c v q) (λc q=>kp _ _ q) λc xs q=>kp _ _ q
  |some xs=>
   rw[qz z] at e;cases e;exact(a b xs z).2 _
end
def ni(n:TE):TE:=λm H Q=>n m H λx l=>∃(a:Addr)(e:List (Str×V)),x=.ref a/\l a=some (.dK (e.map λj=>(.inr j.1,j.2)))/\e.length<=1000/\
 ∀(i:Hp)(p:Addr)(out:List ((Str×V)×Addr)),cJ l i->(∀x∈out,i x.2=some (.tup [.str x.1.1,x.1.2]))->i p=none->(out.map (·.1)).Perm e->out.Pairwise (λx y=>¬y.1.1.cps.toList<x.1.1.cps.toList)->Q (.ref p) (upd i p (.lst (out.map λx=>V.ref x.2)))
section
variable {o:Expr}{ta:TE}
theorem JS{κ:Type}{kvs:List (κ×V)}{vs:List (κ×yaj)}(h:KV kvs vs):∀{j:Nat}{k:κ}{x:yaj},vs[j]? =some (k,x)->∃v,kvs[j]? =some (k,v)/\RelV v x:=by
 induction h with
 |nil=>intro j k x e;simp at e
 |@cons a b l1 l2 r t ih=>
  intro j k x e;cases j with
  |zero=>
   have e:b=(k,x):=by simpa using e
   subst e;exact⟨a.2,by rw[show a=(k,a.2) from Prod.ext r.1 rfl];rfl,r.2⟩
  |succ j=>exact ih (by simpa using e)
theorem Ph{kvs:List (Str×V)}{vs:List (Key×yaj)}(h:KV (kvs.map λi=>((.inr i.1:Key),i.2)) vs)(a:(vs.map (·.1)).Nodup):(kvs.map (·.1)).Nodup:=by
 have e:vs.map (·.1)=(kvs.map (·.1)).map Sum.inr:=by
  generalize j:(kvs.map λi=>((.inr i.1:Key),i.2))=ks at h;have l:(kvs.map (·.1)).map (Sum.inr:Str->Key)=ks.map (·.1):=by rw[<-j,zcF,zcF];rfl
  rw[l];clear j l a
  induction h with
  |nil=>rfl
  |cons r t ih=>rw[zco,zco,ih,r.1]
 rw[e] at a;have a:(List.map (Sum.inr:Str->Key) (kvs.map (·.1))).Pairwise (· ≠·):=a;rw[zbl] at a;exact a.imp λh e=>h (congrArg _ e)
theorem gy{k:Nat}(hr:aR k X.A)(hg:Gl X "sorted")(hm:X.mg "sorted"=none)(ho:PE X o ta)(ad:autoParam (attributeBase o "items" X.env (eval o X.env)=eval o X.env) r0)(ac:autoParam ((apos.endLine==cpos.line)=true) r0):
  PE X (.Call (.Name "sorted" p) [.Call (.Attribute o "items" apos) [] [] cpos] [] pos) (ni ta):=by
 intro Z s σ H Q I h;refine wpAny_Call_Name_kw (gD I hg hm (u:=.builtin "sorted") (by decide+kernel) ?_ (by decide+kernel) (by decide+kernel));refine PyProof.Rows.callWith_builtin1 (E:=X.xe) ?_ (aU [] X.env rfl) rfl;rw[aU [] X.env rfl];refine zbb ?_;refine wpAny_Call_method0_late ad ac (bS (ho Z s σ H _ I h) λv Y z1'=>?_);obtain⟨x,H1,I1,rx,a,l,ex,ea,hl,q⟩:=z1';subst ex;obtain⟨h1,h2⟩:=Cj (T:="dict") I1 rx (.inr (.inr (.inl ⟨rfl,.inl ⟨_,ea⟩⟩)));obtain rfl:v=Value.ref a:=rx;refine⟨"dict","dict.items",PySem.F.plainAttrs_dict,PySem.F.slot_dict_items,PySem.F.type_dict_items,h1,h2,Calls.callWith_builtin rfl (PySem.evalArgs_none ?_)⟩;obtain⟨z,hd,vs,U,dd⟩:=z8 I1.hok ea;refine call_meetsIn PySem.F.slot_dict_items dd.typeIs PySem.F.entry_dict_items (PySem.F.args_dict_items_1 _) (meets_dict_items (bu X.prog X.w) a hd) ⟨⟨vs,dd⟩,?_⟩;refine zbt ?_;have ab:vs.length=l.length:=by rw[<-U.length,zbN]
 have nd:=dd;obtain⟨od,es,ep,g1,g2,g3,g4,g5,g6⟩:=dd;have hnd:=Ph U g6;let C:Obj:={cls:=.type "dict_items",data:=.fields #[.ref a]}
 refine t9 (s:={Y with heap:=Y.heap.push C}) (R:=λs2 ks=>∃P tk n,s2={Y with heap:=P,toks:=tk}/\(∀b o,Y.heap.get? b=some o->P.get? b=some o)/\n.length=l.length/\W.KdxG (bu X.prog X.w) vs (Y.heap.push C).objs.size P n/\ks=(l.map (·.1)).zip n) hr.hd (by have:=hr.units;lia) (λhh' hQ=>?_) λs2 ks h2 out c hR k1 k2 g hp hs=>?_
 ·refine W.kdx_collect (d:=a) (ep:=ep) hh' ⟨C,zaM _ rfl,rfl,rfl⟩ ⟨od,es,zar _ g1,g2,g3,g4,g5,g6⟩ (by rw[ab,yag];lia) λP tk n kp la G=>?_;have la':n.length=l.length:=la.trans ab;have em:((l.map (·.1)).zip n).map (λk=>Value.ref k.2)=n.map Value.ref:=by
   rw[show(λk:Str×Addr=>Value.ref k.2)=Value.ref ∘ Prod.snd from rfl,<-zcF,zbE (by rw[zbN];lia)]
  have:=hQ {Y with heap:=P,toks:=tk} ((l.map (·.1)).zip n) kp (λk hk=>?_) (by rw[zbD (by rw[zbN];lia)];exact hnd) (by rw[zbW,zbN];lia) ⟨P,tk,n,rfl,λb o e=>kp b o (zar _ e),la',G,rfl⟩
  ·rw[em] at this;exact this
  ·obtain⟨j,L,e⟩:=zaI hk;have e:=e.symm;rw[zbF] at e;rw[zbW,zbN] at L;obtain⟨key,k',x,v1,v2,v3⟩:=G.pairs j n[j] (zal (by omega));obtain⟨v,O,w2⟩:=JS U v1;rw[zbe,zal (by lia)] at O;have O:((Sum.inr l[j].1:Key),l[j].2)=(k',v):=by simpa using O
   have w3:(.inr l[j].1:Key)=k':=congrArg Prod.fst O;rw[<-w3] at v2;obtain⟨t,rfl⟩:∃t,key=.str l[j].1 t:=xP (k:=.inr l[j].1) v2;subst e;exact⟨_,#[.str l[j].1 t,x],0,t,[x],v3,rfl,rfl,by simp⟩
 ·obtain⟨P,tk,n,rfl,kp,la,G,rfl⟩:=hR;have low:∀b∈n,Y.heap.objs.size<=b:=λb hb=>by
   have:=G.above b hb;rw[zcm] at this;exact Nat.le_of_lt (Nat.lt_of_succ_lt this)
  let F:Addr->Option (List V):=λb=>((n.zip l).find? λx=>decide (x.1=b)).map λx=>[.str x.2.1,x.2.2]
  have So:n.Nodup:=G.rise.imp λh=>zcG h;have hFa:∀(j:Nat)(L:j<l.length),F (n[j]'(by lia))=some [.str l[j].1,l[j].2]:=λj L=>by
   have hz:(n.zip l).find? (λx=>decide (x.1=n[j]'(by lia)))=some (n[j]'(by lia),l[j]):=by
    cases ef:(n.zip l).find? (λx=>decide (x.1=n[j]'(by lia))) with
    |none=>
     exact absurd (yDt rfl) (List.find?_eq_none.mp ef (n[j]'(by lia),l[j]) (List.mem_iff_getElem.mpr ⟨j,by rw[zbW];lia,by rw[zbF]⟩))
    |some y=>
     have m:=zaj ef;have e1:y.1=n[j]'(by lia):=of_decide_eq_true (by simpa using List.find?_some ef);obtain⟨i,hi,S⟩:=zaI m;rw[zbF] at S;rw[zbW] at hi;have:i=j:=(List.getElem_inj So (h₀:=by lia) (h₁:=by lia)).mp (by rw[<-e1,<-S]);subst this;rw[<-S]
   show((n.zip l).find? λx=>decide (x.1=n[j]'(by lia))).map (λx=>[V.str x.2.1,x.2.2])=_;rw[hz];rfl
  have hF:∀b xs,F b=some xs->∃(j:Nat)(L:j<l.length),n[j]'(by lia)=b/\xs=[.str l[j].1,l[j].2]:=λb xs e=>by
   have e:((n.zip l).find? λx=>decide (x.1=b)).map (λx=>[V.str x.2.1,x.2.2])=some xs:=e;cases ef:(n.zip l).find? (λx=>decide (x.1=b)) with
   |none=>rw[ef] at e;cases e
   |some y=>
    rw[ef] at e;have m:=zaj ef;have e1:y.1=b:=of_decide_eq_true (by simpa using List.find?_some ef);obtain⟨j,L,S⟩:=zaI m;rw[zbF] at S;rw[zbW] at L;refine⟨j,by lia,by rw[<-e1,<-S],?_⟩;rw[<-S] at e;exact(zcW.inj e).symm
  have I2:Inv X Z σ (over F H1) {Y with heap:=P,toks:=tk}:=I1.Pg (t':=tk) kp λb xs e=>by
   obtain⟨j,L,e1,rfl⟩:=hF b xs e;refine⟨low b (by rw[<-e1];exact zbB _),λH'=>⟨ySz 2,?_⟩⟩;obtain⟨key,k',x,v1,v2,v3⟩:=G.pairs j _ (zal (by lia));obtain⟨v,O,w2⟩:=JS U v1;rw[zbe,zal L] at O;have O:((Sum.inr l[j].1:Key),l[j].2)=(k',v):=by simpa using O
   have w3:(.inr l[j].1:Key)=k':=congrArg Prod.fst O;have w4:l[j].2=v:=congrArg Prod.snd O;rw[<-w3] at v2;rw[<-w4] at w2;rw[e1] at v3;exact⟨[key,x],.cons (xP (k:=.inr l[j].1) v2) (.cons w2 .nil),_,v3,rfl,0,rfl⟩
  obtain⟨o',p1,p2⟩:∃o':List ((Str×V)×Addr),o'.Perm (l.zip n)/\out=o'.map λx=>(x.1.1,x.2):=by
   have e:(l.map (·.1)).zip n=(l.zip n).map λx=>(x.1.1,x.2):=by rw[List.zip_map_left];rfl
   rw[e] at hp;exact dR hp
  subst p2;have em:((o'.map λx=>(x.1.1,x.2)).map λk:Str×Addr=>Value.ref k.2)=o'.map λx=>Value.ref x.2:=by rw[zcF];rfl
  rw[em] at g;have hpl:=p1.length_eq;rw[zbW] at hpl;refine⟨.ref P.objs.size,_,I2.laid (a:=P.objs.size) (t':=tk) (o:=.lst (o'.map λx=>V.ref x.2)) k2 (zcS _) ⟨by rw[zbN,hpl,yag];lia,_,c,iH (λx=>x.2) o',g⟩,rfl,q _ _ o' (λb u e=>?_) (λx hx=>?_) (I2.hok.fresh (zcS _)) ?_ ?_⟩
  ·rw[iO]
   ·exact e
   ·cases z:F b with
    |none=>rfl
    |some xs=>
     obtain⟨j,L,e1,_⟩:=hF b xs z;rw[I1.hok.fresh (low b (by rw[<-e1];exact zbB _))] at e;cases e
  ·have m:=p1.mem_iff.mp hx;obtain⟨j,L,S⟩:=zaI m;rw[zbW] at L;rw[zbF] at S;rw[<-S];exact qz (hFa j (by lia))
  ·have:=p1.map (·.1);rw[zbD (by lia)] at this;exact this
  ·rw[zbl] at hs;exact hs
end
end L2
namespace M
open PySem PySem.Spec PyProof.Rows L2 M6
def jw(a:AE):AE:=λm S Q=>a m S λr l=>∃i:List (Str×D),bq l r.d=.dct (i.map λj=>.inr j.1) (i.map (·.2))/\i.length<=1000/\∀e:List (Str×D),e.Perm i->e.Pairwise (λx y=>¬y.1.cps.toList<x.1.cps.toList)->Q (.new (.lst (e.map λj=>.tup [.str j.1,j.2]))) l
theorem zL{K:yaM}{w:Wd}:∀{a:List (Str×D)}{kvs:List (Key×V)},kvs.map (·.1)=a.map (λi=>.inr i.1)->av K w (a.map (·.2)) (kvs.map (·.2))->∃l:List ((Str×D)×V),l.map (·.1)=a/\kvs=l.map (λx=>(.inr x.1.1,x.2))/\∀x∈l,Rep K w x.1.2 x.2
 |[],[],_,_=>⟨[],rfl,rfl,by simp⟩
 |[],_::_,h,_=>by simp at h
 |_::_,[],h,_=>by simp at h
 |k::a,i::kvs,h,g=>by
  rw[zco,zco] at h;injection h with h1 h2;simp only[zco,av] at g;obtain⟨x,r,e,u,q⟩:=g;injection e with e1 e2;subst e1;subst e2;obtain⟨l,o,n,m⟩:=zL h2 q;refine⟨(k,i.2)::l,by rw[zco,o],by rw[zco,<-n,<-h1],λx j=>?_⟩;rcases zcn.mp j with rfl|j
  ·exact u
  ·exact m x j
theorem Ok.Og{w:Wd}{p:Addr}{xs:List V}(k:Ok K w H S)(j:H p=some (.tup xs))(h:av K w ds xs):∃l,w.le l/\Ok K l H S/\Rep K l (.tup ds) (.ref p):=by
 have sb:cJ w.B (upd w.B p (.tup xs)):=λb o e=>by
  by_cases i:b=p
  ·subst i;rw[k.base _ _ e] at j;rw[aq];exact j.symm
  ·rw[au i];exact e
 have le:w.le ⟨upd w.B p (.tup xs),w.r⟩:=⟨sb,λ_ _ e=>e⟩
 refine⟨⟨upd w.B p (.tup xs),w.r⟩,le,⟨λb o e=>?_,λn o e=>?_,k.inj,k.top⟩,?_⟩
 ·by_cases i:b=p
  ·subst i;have e:upd w.B b (.tup xs) b=some o:=e;rw[aq] at e;rw[j];exact e
  ·have e:upd w.B p (.tup xs) b=some o:=e;rw[au i] at e;exact k.base b o e
 ·obtain⟨a,u,h1,h2,q,y⟩:=k.live n o e;have m:a≠p:=λz=>by
   subst z;rw[j] at q;cases q;cases o<;>simp[jy] at y
  exact⟨a,u,h1,by show upd w.B p _ a=none;rw[au m];exact h2,q,y.le le⟩
 ·simp only[Rep];exact⟨p,xs,rfl,ee.of aq,av.le le _ _ h⟩
theorem tR{w:Wd}{H:Hp}{S:aD}(ok:Ok K w H S):∀{out:List (((Str×D)×V)×Addr)},(∀x∈out,H x.2=some (.tup [.str x.1.1.1,x.1.2])/\Rep K w x.1.1.2 x.1.2)->∃i,w.le i/\Ok K i H S/\av K i (out.map λx=>D.tup [.str x.1.1.1,x.1.1.2]) (out.map λx=>V.ref x.2)
 |[],_=>⟨w,.refl,ok,.nil⟩
 |x::out,h=>by
  obtain⟨u,e,l,o⟩:=tR ok (out:=out) λy q=>h y (by simp[q]);obtain⟨h1,h2⟩:=h x (by simp);obtain⟨m,a,j,n⟩:=l.Og (ds:=[.str x.1.1.1,x.1.1.2]) h1 (.cons .str (.cons (h2.le e) .nil));exact⟨m,e.trans a,j,.cons n (o.le a)⟩
theorem ug{a:AE}:∀L H Q,bx K (jw a) L H Q->ni (bx K a) L H Q:=by
 rintro L H Q ⟨w,δ,S,Qa,ok,env,q,bk⟩;refine⟨w,δ,S,_,ok,env,q,.go λr1 S1 v1 w1 H1 U C o O=>?_⟩;obtain⟨kds,z,hl,q1⟩:=O;obtain⟨a,W,rfl,h1,h2,h3⟩:=gm C o z;obtain⟨l,l1,l2,l3⟩:=zL h2 h3;have Y:W=(l.map λx=>(x.1.1,x.2)).map λE:Str×V=>((Sum.inr E.1:Key),E.2):=by rw[l2,zcF];rfl
 rw[Y] at h1;refine⟨a,l.map λx=>(x.1.1,x.2),rfl,h1,by rw[zbN,<-zbN (f:=(·.1)),l1];exact hl,λH2 p out sm ht hp n F=>?_⟩;obtain⟨i,p1,Z⟩:=dR n;have ab:out.length=i.length:=by have:=congrArg zcR Z;simpa using this
 have zl:∀{out:List ((Str×V)×Addr)}{i:List ((Str×D)×V)},out.map (·.1)=i.map (λx=>(x.1.1,x.2))->∃j:List (((Str×D)×V)×Addr),j.map (·.1)=i/\out=j.map λx=>((x.1.1.1,x.1.2),x.2):=by
  intro out
  induction out with
  |nil=>intro i e;cases i with|nil=>exact⟨[],rfl,rfl⟩|cons _ _=>cases e
  |cons x out ih=>
   intro i e;cases i with
   |nil=>cases e
   |cons y i=>
    rw[zco,zco] at e;injection e with Y X;obtain⟨j,I,g2⟩:=ih X;exact⟨(y,x.2)::j,by rw[zco,I],by rw[zco,<-g2,<-Y]⟩
 obtain⟨j,I,rfl⟩:=zl Z;obtain⟨w2,P,u,m⟩:=tR (zC C sm) (out:=j) λx hx=>⟨ht _ (zcE.mpr ⟨x,hx,rfl⟩),l3 _ (p1.mem_iff.mp (by rw[<-I];exact zcE.mpr ⟨x,hx,rfl⟩))⟩
 have X:(j.map λx=>(((x.1.1.1,x.1.2),x.2):(Str×V)×Addr)).map (λx=>V.ref x.2)=j.map λx=>V.ref x.2:=by rw[zcF];rfl
 rw[X];have e3:(j.map λx=>D.tup [.str x.1.1.1,x.1.1.2])=(i.map (·.1)).map λE=>D.tup [.str E.1,E.2]:=by rw[<-I,zcF,zcF];rfl
 rw[e3] at m;refine bk (.new (.lst _)) S1 _ w2 _ (U.trans P) (u.alloc hp) (u.fresh hp ⟨_,rfl,m⟩) (q1 _ ?_ ?_)
 ·have:=p1.map (·.1);rw[l1] at this;exact this
 ·rw[<-I,zcF,zbl];rw[zbl] at F;exact F
theorem gy{o:Expr}{k:Nat}(i:aR k X.A)(m:Gl X "sorted")(l:X.mg "sorted"=none)(j:GE X o ta)(e:autoParam (attributeBase o "items" X.env (eval o X.env)=eval o X.env) r0)(a:autoParam ((apos.endLine==cpos.line)=true) r0):
  GE X (.Call (.Name "sorted" p) [.Call (.Attribute o "items" apos) [] [] cpos] [] pos) (jw ta):=⟨mE (L2.gy i m l j.p e a) ug⟩
end M
namespace L2
open PySem PySem.Spec PyProof.Rows
abbrev S9:=(yaj->St->Hp->Prop)->St->Hp->Prop
def Oa(X:Cx)(e:Expr)(t:S9):Prop:=∀(a:List (Addr×Obj))(s:yai)(i:St)(H:Hp)(ex:yaj->St->Hp->Prop),Inv X a i H s->t ex i H->
 yas (model X.prog X.w) X.A (eval e X.env) (λ_ _=>False) (λm l=>∃j,Inv X a i j l/\ex m i j) s
section
variable {e1 o:Expr}{t:TA}{tx:S9}{m:Str}{p1 p5:Pos}{k:Nat}
theorem DB(E:X.xe=λ_ _=>False)(Df:Jo X.prog X.w X.K X.mg X.base k x ps sp)(W:aR k X.A)(hg:Gl X x)(ha:PA X (e::es) t)(O:(x==("__debug__":Str))=false:=by decide+kernel)(L:autoParam ((e::es).all notStar=true) r0):
  Oa X (.Call (.Name x p) (e::es) [] p1) (λex y H=>t y H λvs Q=>sp vs Q (λ_ _=>False) λU _ P=>ex U y P):=by
 obtain⟨f,fd,F,Z,hk,hb⟩:=Df.ex;have h2:=L;rw[zcq,zbH] at h2;intro i s y H ex I h;refine wpAny_Call_Name_kw (fB I hg Z ?_ O);refine zaZ (h₀:=X.base) I.ok.mod.JU hk (yac (ha p1 i s y H _ I h) (λC S z=>?_) (λ_ _ z=>by rw[E] at z;exact False.elim z)) (aU es X.env h2.1) (cE es h2.2);obtain⟨vs,Q,n,r,q⟩:=z;refine⟨n.fE,?_⟩;have hl:C.length=ps.length:=by rw[<-r.length];exact F.len _ _ _ _ q
 have l:=hb S C n.fE (by rw[zbO];exact hl);rw[zbO] at l;refine yaL (yay (F.run X.A X.stack S Q ⟨C,[]⟩ C vs _ _ W n.EJ l r q) λr s' j=>?_);cases r with
 |ok fl=>
  cases fl with
  |ret u=>obtain⟨_,_,_,z⟩:=n.after j;exact z.2
  |next=>exact False.elim j
  |brk=>exact False.elim j
  |cont=>exact False.elim j
 |error U=>
  obtain⟨P,Y,a,un,hok,q2⟩:=j;exact⟨P,n.E7 (ch:=[]) Y un hok a (λb z=>absurd z (by simp)),q2⟩
theorem AY{pl:Sem Bool}(j:Oa X o tx)(i:autoParam (eval (.Call (.Attribute o m apos) [] [] pos) X.env=(do
   let ov <-eval o X.env
   standAt apos.atName
   let(f,first) <-holding [ov] (yaF ov m pl)
   yaB pos f first (yav pos (yap [] X.env)) (yaH pos (yaG [] X.env)))) r0):Oa X (.Call (.Attribute o m apos) [] [] pos) tx:=by
 intro a s e H ex I h;exact zay (pl:=pl) (yac (j a s e H ex I h) (λ_ _ z=>z.elim) (λ_ _ z=>z)) i
theorem DA{x1}(j:X.xe=λ_ _=>False)(y:PE X e te)(h1:Oa X e1 tx)(n:autoParam (notStar e=true) r0)(s1:autoParam (notStar e1=true) r0):Oa X (.Tuple [e,e1] x1 pos) (λex i H=>te i H λ_ l=>tx ex i l):=by
 intro a s i H ex I h;refine wpAny_Tuple_spliced ?_;rw[aU [e1] X.env n,aU [] X.env s1];refine zbb (yac (y a s i H _ I h) (λu s1 z=>?_) (λ_ _ z=>by rw[j] at z;exact False.elim z));obtain⟨v,l,C,_,q⟩:=z;exact zbb (yac (h1 a s1 i l ex C q) (λ_ _ z=>z.elim) (λ_ _ z=>z))
theorem LR(l:Oa X e tx)(j:autoParam (yau e (some (.Name y p5)) p2.line X.env=pure false) r0):PX X [.Assign [.Name y p5] e p2] (λ_ ex i H=>tx ex i H):=by
 intro a s i H nx ex I h;exact yaJ (wpAny_Assign_Name (yac (l a s i H ex I h) (λ_ _ z=>z.elim) (λ_ _ z=>z)) j)
end
end L2
theorem L2.cL{P:List PySem.Str}{a:PySem.Scope}(h1:autoParam (a.kind=.function) r0)(h2:autoParam (a.isCoroutine=false) r0)(m:autoParam (a.isGenerator=false) r0)(l:N.Nodup:=by decide+kernel)(j:autoParam (N.take P.length=P) r0)(i:∀x∈P,a.names.lookup x=some .local∨a.names.lookup x=some .cell:=by decide+kernel)(e:∀y∈a.names,y.2≠ .free:=by decide+kernel):L2.aE N P a:=⟨h1,h2,m,l,j,i,e⟩
namespace M
open PySem L2
theorem ow{k:Nat}{sp:AN}(D:Def X.prog X.w X.K X.mg X.base k x ps (aN X.K sp))(l:aR j X.A)(o:GA X (e::es) t)(m:autoParam (k<=j) r1)(n:autoParam (Gl X x) r0)(a:(x==("__debug__":Str))=false:=by decide+kernel)(i:autoParam ((e::es).all notStar=true) r0):GE X (.Call (.Name x p) (e::es) [] pos) (aCall sp t):=M.xA D (l.mono m) n o a i
section
variable {a b:Expr}
theorem ixs(j:GE X a ta)(i:GE X b tb)(e:kL b:=by exact λ_ _=>rfl):GE X (.Subscript a b pos) (yj sU ta tb):=fS OY j i e
theorem iT{i:Int}{j}(l:GE X a ta)(e:kL (.Constant (.int i) j pos'):=by exact λ_ _=>rfl):GE X (.Subscript a (.Constant (.int i) j pos') pos) (yj sU ta (aC (.int i))):=fS OY l ao e
theorem fq(i:Nat)(q:X.N.Nodup)(o:GE X e ta)(m:autoParam (X.N[i]? =some x) r0)(j:Loc X.env.scope x:=by first|exact .inl rfl|exact .inr rfl)(l:autoParam (yau e (some (.Name x pos')) pos.line X.env=pure false) r0)(n:X.fn x=true∨X.env.scope.names.lookup x=some .local:=by first|exact .inl rfl|exact .inr rfl|assumption):GS X (.Assign [.Name x pos'] e pos) (yo ta (bg i)):=bR q m j o l n
theorem B9(i:Nat)(m:X.N.Nodup)(j:autoParam (X.N[i]? =some x) r0)(e:Loc X.env.scope x:=by first|exact .inl rfl|exact .inr rfl)(l:X.fn x=true∨X.env.scope.names.lookup x=some .local:=by first|exact .inl rfl|exact .inr rfl|assumption):GG X (.Name x pos) (bg i):=c9 m j e l
theorem kb{id:String}{r:AN}(q:tO X (.builtin id) r)(n:X.mg x=none)(u:GA X (e::es) t)(o:autoParam (Gl X x) r0)(j:bootBuiltins x=some (.builtin id):=by decide+kernel)(m:x≠"__name__":=by decide+kernel)(i:(x==("__debug__":Str))=false:=by decide+kernel)(l:autoParam ((e::es).all notStar=true) r0):GE X (.Call (.Name x p) (e::es) [] pos) (aCall r t):=mF q o n j u m i l
theorem kt{T:String}{r:AN}(q:tO X (.type T) r)(n:X.mg x=none)(u:GA X (e::es) t)(o:autoParam (Gl X x) r0)(j:bootBuiltins x=some (.type T):=by decide+kernel)(m:x≠"__name__":=by decide+kernel)(i:(x==("__debug__":Str))=false:=by decide+kernel)(l:autoParam ((e::es).all notStar=true) r0):GE X (.Call (.Name x p) (e::es) [] pos) (aCall r t):=RS q o n j u m i l
theorem Ka(N:List Str)(caps:List (Option Nat)){l:AT}(y:GI X (.Name x p) a wi)(o:∀s₀ H₀ C fp,Oc (iX X scope N s₀ H₀ C fp) ifs l)(E:∀s₀ H₀ C fp,GE (iX X scope N s₀ H₀ C fp) e ta)(m:Nc scope N=true:=by decide+kernel)(i:autoParam (jh X.N X.env scope N caps=true) r0)(j:autoParam (freeOk X.env scope=true) r0)(F:autoParam (X.calm=true) r0)(n:autoParam (N[0]? =some x) r0)(u:∀s₀ H₀ C fp,Loc (iX X scope N s₀ H₀ C fp).env.scope x:=by exact λ_ _ _ _=>.inl rfl)(z:∀s₀ H₀ C fp,(iX X scope N s₀ H₀ C fp).fn x=true∨(iX X scope N s₀ H₀ C fp).env.scope.names.lookup x=some .local:=by first|exact λ_ _ _ _=>.inl rfl|exact λ_ _ _ _=>.inr rfl)(q:∀x,foldedSetIterable a X.env x=pure x:=by intro _;rfl):GE X (.ListComp e [⟨.Name x p,a,ifs,0⟩] scope pos) (dS caps wi (bg 0) l ta):=r6 (lT m) i j F y (λs H C f=>c9 (lT m).nd n (u s H C f) (z s H C f)) o E q
theorem bG(j:GE X e ta)(i:autoParam (notStar e=true) r0):GA X [e] (fH ta jx):=az j ai i
end
end M
open M renaming pv -> Tn, az -> To, bG -> Tp, aa -> Tr, ai -> Tt, ao -> Tu, ak -> Tv, aj -> Tw, aA -> Tz, fq -> TF, aZ -> TH, ow -> TJ, aJ -> TL, kb -> TM, aK -> TQ, iT -> TR, aH -> TU, bH -> TV, aG -> TZ, aO -> T4, aQ -> T5, bh -> T6, aM -> T7, br -> T8, cO -> T9, gK -> Ua, ixs -> Ub, b7 -> Uc, dg -> Ud, cutD -> Ue, yg -> Ug, bA -> Uh, bY -> Ui, b6 -> Uj, dz -> Uk, B9 -> Ul, cH -> Um, kt -> Uo, eY -> Uq, gP -> Ur, cj -> Us, bP -> Ut, d8 -> Uu, gh -> Uv, Ka -> Uw, d7 -> Ux, cY -> Uy, ret -> Uz, signs -> UA, c9 -> UB, eZ -> UC, wF -> UD, dO -> UE, Be -> UG, g7 -> UH, Bd -> UI, dQ -> UJ, pw_pt -> UO, pw_or -> UU, pw_or1 -> UW, m_split -> UX
namespace K14
open PySem PySem.Spec L2 PyProof.Rows
noncomputable def top(i:Nat):Stmt:=PySem.Challenge.pw_pathask_k14_lines_that_write_no_web.main.body.getD i (.Pass ⟨0,0,0,0⟩)
noncomputable def Ca:Nat->Str
 |4=>"word"
 |5=>"tie"
 |6=>"knot"
 |7=>"at"
 |8=>"at"
 |_=>"name"
structure Txt(K:yaM)(mg:Str->Option yaj)(ec:Nat->Addr)(EP C fi:Addr):Prop where
 len:mg "len"=none
 isinstance:mg "isinstance"=none
 str:mg "str"=none
 bool:mg "bool"=none
 int:mg "int"=none
 tuple:mg "tuple"=none
 list:mg "list"=none
 dict:mg "dict"=none
 all:mg "all"=none
 max:mg "max"=none
 min:mg "min"=none
 repr:mg "repr"=none
 range:mg "range"=none
 reversed:mg "reversed"=none
 sorted:mg "sorted"=none
 ValueError:mg "ValueError"=none
 set:mg "set"=none
 enumerate:mg "enumerate"=none
 longest:∃t,mg "LONGEST"=some (.int 8 t)
 Pj:∃t,mg "MOST_KNOTS"=some (.int 40 t)
 KU:∃t,mg "MOST_TIES"=some (.int 300 t)
 marks:∃t,mg "MOST_MARKS"=some (.int 5 t)
 DZ:mg "Web"=some (.ref C)
 cl:wz K C
 Gb:Mk K C fi
 cP:fh K C "marked"
 n_tied:fh K C "tied"
 n_near:fh K C "near"
 at_PathError:mg "PathError"=some (.ref EP)
 base_PathError:Kr K EP
 ex_PathError:excIn K EP=true
 sb_PathError:zcz K (.ref EP) (.type "BaseException")=some true
 g_NoKnot:mg "NoKnot"=some (.ref (ec 0))
 g_NoMark:mg "NoMark"=some (.ref (ec 1))
 g_NoName:mg "NoName"=some (.ref (ec 2))
 g_Twice:mg "Twice"=some (.ref (ec 3))
 g_TooMany:mg "TooMany"=some (.ref (ec 4))
 g_NoTie:mg "NoTie"=some (.ref (ec 5))
 g_NoMeet:mg "NoMeet"=some (.ref (ec 6))
 g_NoText:mg "NoText"=some (.ref (ec 7))
 g_NoLine:mg "NoLine"=some (.ref (ec 8))
 g_NoWay:mg "NoWay"=some (.ref (ec 9))
 g_TooLong:mg "TooLong"=some (.ref (ec 10))
 g_GoesRound:mg "GoesRound"=some (.ref (ec 11))
 g_NoSuch:mg "NoSuch"=some (.ref (ec 12))
 g_NoPair:mg "NoPair"=some (.ref (ec 13))
 xi:∀i,i<9->Sy K (ec i)
 kit:∀i j,i<9->j<14->zck K (.ref (ec i)) (.ref (ec j))=some (i==j)
 kitV:∀i,i<9->zck K (.ref (ec i)) (.type "ValueError")=some true
 sub:∀i,i<9->zcz K (.ref (ec i)) (.ref EP)=some true
 fld:∀i,i<9->zci K (.ref (ec i)) (Ca i)=some none
section
variable {EP:Addr}
theorem gx{c:Addr}(h:mg x=some (.ref c))(e:autoParam (Gl X x) r0)(a:autoParam (X.mg=mg) r0)(hd:(x==("__debug__":Str))=false:=by decide+kernel):J.QE X (.Name x pos) (tC (.ref c)):=⟨mD e (by rw[a];exact h) rfl hd⟩
theorem zW{i:Int}(e:∃t,mg x=some (.int i t))(j:Gl X x)(a:X.mg=mg)(hd:(x==("__debug__":Str))=false):M.GE X (.Name x pos) (M.aC (.int i)):=by
 obtain⟨t,e⟩:=e;exact M.mD (v:=.int i) j (by rw[a];exact e) ⟨t,rfl⟩ (λ_=>.int) hd
theorem Txt.jd(T:Txt K mg ec EP C fi)(e:autoParam (Gl X "MOST_KNOTS") r0)(a:autoParam (X.mg=mg) r0):M.GE X (.Name "MOST_KNOTS" pos) (M.aC (.int 40)):=zW T.Pj e a (by decide+kernel)
theorem Txt.xB(T:Txt K mg ec EP C fi)(e:autoParam (Gl X "LONGEST") r0)(a:autoParam (X.mg=mg) r0):M.GE X (.Name "LONGEST" pos) (M.aC (.int 8)):=zW T.longest e a (by decide+kernel)
theorem Txt.jX(T:Txt K mg ec EP C fi)(e:autoParam (Gl X "MOST_TIES") r0)(a:autoParam (X.mg=mg) r0):M.GE X (.Name "MOST_TIES" pos) (M.aC (.int 300)):=zW T.KU e a (by decide+kernel)
theorem Txt.pX(T:Txt K mg ec EP C fi)(e:autoParam (Gl X "MOST_MARKS") r0)(a:autoParam (X.mg=mg) r0):M.GE X (.Name "MOST_MARKS" pos) (M.aC (.int 5)):=zW T.marks e a (by decide+kernel)
end
noncomputable def cZ(c:Nat):Bool:=decide (97<=c)&&decide (c<=122)
open M M6
abbrev Jh(a b:Str):Prop:=a.cps.toList<b.cps.toList
theorem rH(a:Str):¬Jh a a:=List.lt_irrefl _
theorem Ld{a b:Str}(h:¬Jh a b)(g:¬Jh b a):a=b:=by
 have e:a.cps.toList=b.cps.toList:=List.le_antisymm (List.not_lt.mp g) (List.not_lt.mp h);obtain⟨a⟩:=a;obtain⟨b⟩:=b;have e:a.toList=b.toList:=e;rw[zbI.mp e]
def SU(l:List Str):Prop:=l.Pairwise Jh
theorem zj:∀(l:List Str)(p:Str),risingS p l=true->(p::l).Pairwise λa b=>¬Jh b a
 |[],p,_=>List.pairwise_singleton ..
 |x::r,p,h=>by
  have h:(!ltCps x.cps.toList p.cps.toList&&risingS x r)=true:=h;rw[zbH] at h;have j:=zj r x h.2;have m:¬Jh x p:=by
   have:=h.1;rw[ltCps_eq] at this;simpa using this
  refine zaT.mpr ⟨λy e=>?_,j⟩;rcases zcn.mp e with rfl|e
  ·exact m
  ·intro i;have h2:¬Jh y x:=(zaT.mp j).1 y e;exact m (List.lt_of_le_of_lt (List.not_lt.mp h2) i)
theorem AH(h:sortedS l=true):l.Pairwise λa b=>¬Jh b a:=by
 cases l with
 |nil=>exact .nil
 |cons x r=>exact zj r x h
theorem JB(e:l.Nodup)(h:sortedS l=true):SU l:=by
 have h2:l.Pairwise λa b=>a≠b:=e;refine((AH h).and h2).imp λ{a b} ⟨h1,h2⟩=>?_;by_cases c:Jh a b
 ·exact c
 ·exact absurd (Ld c h1) h2
theorem JC:∀{l m:List Str},SU l->SU m->(∀y,y∈l↔y∈m)->l=m
 |[],[],_,_,_=>rfl
 |[],y::m,_,_,h=>by have:=(h y).mpr (by simp);simp at this
 |x::l,[],_,_,h=>by have:=(h x).mp (by simp);simp at this
 |x::l,y::m,hl,hm,h=>by
  have h1:=zaT.mp hl;have h2:=zaT.mp hm;have e:x=y:=by
   have a:=(h x).mp (by simp);have b:=(h y).mpr (by simp);rcases zcn.mp a with a|a
   ·exact a
   ·rcases zcn.mp b with b|b
    ·exact b.symm
    ·exact absurd (List.lt_trans (h1.1 y b) (h2.1 x a)) (rH x)
  subst e;rw[JC (m:=m) h1.2 h2.2 λz=>?_];have:=h z;simp only[zcn] at this;constructor
  ·intro hz;rcases this.mp (.inr hz) with e|e
   ·subst e;exact absurd (h1.1 z hz) (rH z)
   ·exact e
  ·intro hz;rcases this.mpr (.inr hz) with e|e
   ·subst e;exact absurd (h2.1 z hz) (rH z)
   ·exact e
theorem Gr{m n:List Str}(a:n.Nodup)(h1:l.Perm n)(h2:m.Perm n)(s1:sortedS l=true)(e:sortedS m=true):l=m:=
 JC (JB (h1.nodup_iff.mpr a) s1) (JB (h2.nodup_iff.mpr a) e) λy=>h1.mem_iff.trans h2.mem_iff.symm
noncomputable abbrev T3(t:Str×Str×Str):D:=.tup [.str t.1,.str t.2.1,.str t.2.2]
theorem qv(t:Str×Str×Str):py (T3 t)=.tuple [.str t.1,.str t.2.1,.str t.2.2]:=by simp[T3,py,dY]
theorem nU{a b:Str×Str×Str}(h:py (T3 a)=py (T3 b)):a=b:=by
 obtain⟨n,m,l⟩:=a;obtain⟨j,i,e⟩:=b;simp only[qv,PyData.tuple.injEq,List.cons.injEq,PyData.str.injEq] at h;rw[h.1,h.2.1,h.2.2.1]
noncomputable def lX(t:Str×Str×Str):Bool:=gf t.1&&gf t.2.1&&gf t.2.2
theorem good3{t:Str×Str×Str}(h:lX t=true):jj (T3 t):=by
 unfold lX at h;rw[zbH,zbH] at h;refine⟨by simp[T3,bY,bQ],?_,?_,_,rfl⟩
 ·rw[qv];simp[cy,eF,PyData.canLay0,ou h.1.1,ou h.1.2,ou h.2]
 ·rw[qv];simp[PyData.depth,PyData.depthAll]
theorem PV(a b:Str×Str×Str):cz (py (T3 a)) (py (T3 b))=true:=by
 rw[qv,qv];simp[cz,ff]
theorem qf(h:∀t∈ts,lX t=true):FP (ts.map T3):=
 ⟨λk a=>by obtain⟨t,e,rfl⟩:=zcE.mp a;exact good3 (h t e),λk a=>by obtain⟨t,_,rfl⟩:=zcE.mp a;exact⟨_,_,qv t⟩,λk a l i=>by obtain⟨t,_,rfl⟩:=zcE.mp a;obtain⟨u,_,rfl⟩:=zcE.mp i;exact PV t u⟩
theorem My(ts:List (Str×Str×Str))(t:Str×Str×Str):Bw (ts.map T3) (T3 t)=decide (t∈ts):=by
 unfold Bw;rw[zcC];by_cases h:t∈ts
 ·rw[yDt h];exact zbG.mpr ⟨t,h,by simp⟩
 ·rw[yDf h];refine zbd.mpr λx a z=>h ?_;have:py (T3 x)=py (T3 t):=of_decide_eq_true z;rw[<-nU this];exact a
theorem put3{t:Str×Str×Str}(h:t ∉ ts):putN (ts.map T3) (T3 t)=(ts++[t]).map T3:=by
 have:=My ts t;rw[yDf h] at this;unfold putN;unfold Bw at this;rw[this,yIn (by decide),zbU];rfl
theorem yI:∀{l m:List (Str×Str×Str)},l.Nodup->Js (l.map T3)->Js (m.map T3)->m.Perm l->l=m
 |[],m,_,_,_,hp=>by rw[hp.eq_nil]
 |a::l,[],_,_,_,hp=>by have:=hp.length_eq;simp at this
 |a::l,b::m,hn,hl,hm,hp=>by
  have u:∀{x y:Str×Str×Str},x≠y->gJ (py (T3 y)) (py (T3 x))=false->gJ (py (T3 x)) (py (T3 y))=true:=λ{x y} i h=>by
   rcases xO _ _ (PV x y) (λe=>i (nU e)) with z|z
   ·exact z
   ·rw[h] at z;cases z
  have h1:=zaT.mp (show((a::l).map T3).Pairwise _ from hl);have h2:=zaT.mp (show((b::m).map T3).Pairwise _ from hm);have e:a=b:=by
   apply Classical.byContradiction;intro i;have n:a∈m:=by
    rcases zcn.mp (hp.mem_iff.mpr (zaN ..)) with z|z
    ·exact absurd z i
    ·exact z
   have j:b∈l:=by
    rcases zcn.mp (hp.mem_iff.mp (zaN ..)) with z|z
    ·exact absurd z.symm i
    ·exact z
   have q:=h1.1 (T3 b) (zcE.mpr ⟨b,j,rfl⟩);have o:=h2.1 (T3 a) (zcE.mpr ⟨a,n,rfl⟩);have:=u i q;rw[o] at this;cases this
  subst e;rw[yI (zbP.mp hn).2 h1.2 h2.2 hp.cons_inv]
theorem Ci{ks:List D}(a:ks.Perm (ts.map T3)):∃us:List (Str×Str×Str),us.Perm ts/\ks=us.map T3:=dR a
open PySem L2
noncomputable abbrev Cb:=M.Cb
noncomputable abbrev Jk:List Str:=["_law_script","_law_k","_law_seed"]
noncomputable abbrev gI:=Jk.take 2
theorem wW:aE Jk gI (ah (top 31)):=L2.cL
noncomputable abbrev Jj:List Str:=["_law_cell"]
noncomputable abbrev gH:=Jj
theorem Ll:aE Jj gH (ah (top 32)):=L2.cL
noncomputable abbrev Ji:List Str:=["_law_feed_here","_law_many","_law_found","_law_one","_law_two"]
noncomputable abbrev dM:=Ji.take 2
theorem rM:aE Ji dM (ah (top 33)):=L2.cL
noncomputable abbrev wc:List Str:=["_law_feed_here","_law_many","_law_letters","_law_word","_law_way","_law_turn","_law_names_here","_law_place","_law_start","_law_k","_law_sign"]
noncomputable abbrev iz:=wc.take 2
theorem cT:aE wc iz (ah (top 34)):=L2.cL
def pN(H:Hp)(p:Addr)(d:Nat):Prop:=∃l s:Int,H p=some (.dK (Cb l s d))/\0<=l/\0<=s/\s<1000003
theorem Hl{l s d z:Int}:putK (Cb l s d) (Sum.inr "drawn") (.int z)=Cb l s z:=rfl
theorem LV{l s d z:Int}:putK (Cb l s d) (Sum.inr "left") (.int z)=Cb z s d:=rfl
section
variable {w:yal}{EP:Addr}
def CN(K:yaM):Sp:=λe H Q _=>∃(a:Addr)(ns:List Int)(k:Nat),e=[.ref a,.int k]/\b9 K H a (ns.map V.int)/\k<1000/\∀z,Q (.int z) H
theorem MZ(T:Txt K mg ec EP C fi)(F:Src K mg "_law_cell_at" gI (top 31)):Def P w K mg base 1 "_law_cell_at" gI (CN K):=by
 refine J.MJ F wW (λo H Q E h=>?_) (λf L A outer s H o Q E S h=>?_)
 ·obtain⟨a,ns,k,rfl,_⟩:=h;rfl
 ·obtain⟨a,ns,k,rfl,n,U,q⟩:=h;refine⟨_,(J.aa (J.bh (J.aG JO (J.pv 1) (J.mF E8 (by rfl) T.len (by decide+kernel) (J.az (J.pv 0) J.ai)) (aS _)) (J.aj (J.aJ (J.fS R1 (J.pv 0) (J.pv 1) (λ_ _=>rfl)))) J.aM) (J.aa (J.bR (i:=2) wW.nd rfl (Or.inl rfl) J.ao) (J.aa (J.bh (J.aG DH (J.mF E8 (by rfl) T.len (by decide+kernel) (J.az (J.pv 0) J.ai)) J.ao (aS _)) (J.aj (J.bR (i:=2) wW.nd rfl (Or.inl rfl) (J.fS R1 (J.pv 0) (J.aA gA (J.pv 1) (J.mF E8 (by rfl) T.len (by decide+kernel) (J.az (J.pv 0) J.ai))) (λ_ _=>rfl)))) J.aM) (J.aj (J.aJ (J.aA g8 (J.aA g8 (J.aA gz (J.aA gA (J.pv 2) J.ao) J.ao) (J.aA gz J.ao (J.pv 1))) J.ao)))))),?_⟩;have m:NK K (.ref a) H ns.length:=.inl ⟨_,n,by simp⟩;refine⟨_,rfl,_,rfl,_,_,rfl,m,_,_,rfl,rfl,_,rfl,?_⟩;refine jq (λh=>?_) (λh=>?_)
  ·have l:k<ns.length:=by simpa using h
   have e:(ns.map V.int)[k]? =some (V.int ns[k]):=by simp[l]
   exact⟨_,rfl,_,rfl,a,_,_,_,rfl,rfl,n,bU e,q _⟩
  ·refine⟨_,rfl,_,_,rfl,m,_,_,rfl,rfl,_,rfl,?_⟩;have fin:∀z:Int,(Cs (AD (Ds λi j=>.int (i+j)) (AD (Ds λi j=>.int (i+j)) (AD (rI B5 λi j=>.int (i*j)) (AD (rI (λ_ j=>0<j) λi j=>.int (i % j)) (tV 2) (tC (.int 1000003))) (tC (.int 48271))) (AD (rI B5 λi j=>.int (i*j)) (tC (.int 7919)) (tV 1))) (tC (.int 1)))) {nx:=λ_ O=>Q .aY O,rt:=Q} [some (.ref a),some (.int k),some (.int z)] H:=λz=>by
    refine⟨_,rfl,_,_,rfl,rfl,(by show(0:Int)<1000003;decide),_,_,rfl,rfl,.inr ⟨by decide,by decide⟩,_,rfl,_,_,rfl,rfl,.inl ⟨by decide,by decide⟩,_,_,rfl,rfl,_,_,rfl,rfl,q _⟩
   refine jq (λh=>?_) (λh=>?_)
   ·have u:0<ns.length:=by simpa using h
    have y:k % ns.length<ns.length:=Nat.mod_lt _ u;have e:(ns.map V.int)[k % ns.length]? =some (V.int ns[k % ns.length]):=by simp[y]
    have I:((k:Int) % (ns.length:Int))=((k % ns.length:Nat):Int):=by simp
    refine⟨_,rfl,_,rfl,_,rfl,_,_,rfl,m,_,_,rfl,rfl,(by show(0:Int)<(ns.length:Int);lia),a,_,_,_,rfl,rfl,n,(by rw[I];exact bU e),fin _⟩
   ·exact fin 0
def CM:Sp:=λe H Q _=>∃z:Int,e=[.int z]/\∀p a,H p=none->pN a p 0->(∀b o,H b=some o->a b=some o)->Q (.ref p) a
theorem MY(T:Txt K mg ec EP C fi)(F:Src K mg "_law_feed" gH (top 32)):Def P w K mg base 1 "_law_feed" gH CM:=by
 refine J.MJ F Ll (λi H Q E h=>?_) (λf j A outer s H i Q E l h=>?_)
 ·obtain⟨z,rfl,_⟩:=h;rfl
 ·obtain⟨z,rfl,q⟩:=h;refine⟨_,(J.aj (J.aJ (J.rZ (J.gY J.ak (J.mF (BI rfl) (by rfl) T.max (by decide+kernel) (J.az J.ao (J.az (J.aA DG (J.pv 0) (J.aA LX J.ao J.ao)) J.ai))) (J.gY J.ak (J.aA gA (J.pv 0) J.ao) (J.gY J.ak J.ao J.rX))) rfl rfl (by simp) (by decide)))),?_⟩;intro p a;refine⟨_,rfl,_,_,rfl,rfl,⟨by decide,by decide,by decide⟩,_,_,rfl,rfl,_,_,rfl,?_⟩;refine⟨_,rfl,_,_,rfl,rfl,(by show(0:Int)<1000003;decide),aq,Cb _ _ 0,rfl,(by show 3<=15;decide),?_⟩;refine q p _ a ⟨_,_,aq,?_,?_,?_⟩ λb o e=>?_
  ·split<;>lia
  ·exact zbZ _ (by decide)
  ·exact zaW _ (by decide)
  ·rw[au (aF e a),au (aF e a)];exact e
def CJ:Sp:=λe H Q _=>∃(p:Addr)(n:Int)(d:Nat),e=[.ref p,.int n]/\pN H p d/\d<1000/\0<n/\n<1000/\
 ∀(z:Int)(a:Hp),0<=z->z<n->pN a p (d+1)->(∀b o,H b=some o->b≠p->a b=some o)->Q (.int z) a
theorem MR(T:Txt K mg ec EP C fi)(F:Src K mg "_law_next" dM (top 33)):Def P w K mg base 1 "_law_next" dM CJ:=by
 refine J.MJ F rM (λU H Q E h=>?_) (λf cdv A outer s H U Q E W h=>?_)
 ·obtain⟨p,n,d,rfl,_⟩:=h;rfl
 ·obtain⟨p,n,d,rfl,⟨l,m,O,S,y,u⟩,hd,a,X,q⟩:=h;have j:=j6 W;refine⟨_,(J.aa (J.jP j (J.pv 0) J.ak (J.aA g8 (J.dc j (J.pv 0) J.ak (λ_ _=>rfl)) J.ao) rfl) (J.aa (J.bh (J.aG DH (J.dc j (J.pv 0) J.ak (λ_ _=>rfl)) J.ao (aS _)) (J.aa (J.bR (i:=2) rM.nd rfl (Or.inl rfl) (J.aA gA (J.dc j (J.pv 0) J.ak (λ_ _=>rfl)) (J.pv 1))) (J.aa (J.jP j (J.pv 0) J.ak (J.aA zB (J.dc j (J.pv 0) J.ak (λ_ _=>rfl)) (J.pv 1)) rfl) (J.aj (J.aJ (J.pv 2))))) J.aM) (J.aa (J.bR (i:=3) rM.nd rfl (Or.inl rfl) (J.aA gA (J.aA gz (J.aA g8 (J.dc j (J.pv 0) J.ak (λ_ _=>rfl)) J.ao) (J.aA g8 (J.aA gz (J.dc j (J.pv 0) J.ak (λ_ _=>rfl)) (J.dc j (J.pv 0) J.ak (λ_ _=>rfl))) J.ao)) J.ao)) (J.aa (J.bR (i:=4) rM.nd rfl (Or.inl rfl) (J.aA gA (J.aA g8 (J.aA gz (J.pv 3) (J.pv 3)) (J.aA gz J.ao (J.dc j (J.pv 0) J.ak (λ_ _=>rfl)))) J.ao)) (J.aj (J.aJ (J.aA gA (J.aA gA (J.aA g8 (J.aA gz (J.pv 4) (J.pv 4)) (J.aA gz J.ao (J.pv 3))) J.ao) (J.pv 1)))))))),?_⟩;have e1:((d:Int)+1)=((d+1:Nat):Int):=by lia
  refine⟨_,rfl,p,_,rfl,i6.k (k:=Sum.inr "drawn") O,_,_,rfl,rfl,_,rfl,p,_,rfl,yE.k (k:=Sum.inr "drawn") O (by show 3<yah;decide+kernel),?_⟩;have h1:(upd H p (.dK (putK (Cb l m d) (Sum.inr "drawn") (.int ((d:Int)+1))))) p=some (.dK (Cb l m (d+1:Nat))):=by rw[aq,Hl,e1]
  generalize Y:upd H p (.dK (putK (Cb l m d) (Sum.inr "drawn") (.int ((d:Int)+1))))=H1 at h1;have I:∀b o,H b=some o->b≠p->H1 b=some o:=λb o e z=>by rw[<-Y,au z];exact e
  refine⟨_,rfl,p,_,rfl,i6.k (k:=Sum.inr "left") h1,_,_,rfl,rfl,_,rfl,?_⟩;refine jq (λh=>?_) (λh=>?_)
  ·have L:0<l:=by simpa using h
   refine⟨_,rfl,p,_,rfl,i6.k (k:=Sum.inr "left") h1,_,rfl,_,_,rfl,rfl,a,?_⟩;refine⟨_,rfl,p,_,rfl,i6.k (k:=Sum.inr "left") h1,_,rfl,_,_,rfl,rfl,⟨a,by lia⟩,_,rfl,p,_,rfl,yE.k (k:=Sum.inr "left") h1 (by show 3<yah;decide+kernel),_,rfl,?_⟩;refine q _ _ (zbZ _ (by lia)) (zaW _ a) ⟨_,_,by rw[aq,LV],Int.ediv_nonneg S (by lia),y,u⟩ λb o e z=>?_;rw[au z];exact I b o e z
  ·have Z:=i6.k (k:=Sum.inr "seed") h1;have gd:=i6.k (k:=Sum.inr "drawn") h1;have b1:=zbZ ((m+1)*(((d+1:Nat):Int)*((d+1:Nat):Int)+48271)) (show(65537:Int)≠0 by decide);have b2:=zaW ((m+1)*(((d+1:Nat):Int)*((d+1:Nat):Int)+48271)) (show(0:Int)<65537 by decide);refine⟨_,rfl,p,_,rfl,Z,_,_,rfl,rfl,_,rfl,p,_,rfl,gd,_,rfl,p,_,rfl,gd,_,_,rfl,rfl,.inl ⟨by lia,by lia⟩,_,_,rfl,rfl,_,_,rfl,rfl,.inl ⟨by lia,by lia⟩,_,_,rfl,rfl,(by show(0:Int)<65537;decide),?_⟩;generalize ((m+1)*(((d+1:Nat):Int)*((d+1:Nat):Int)+48271)) % 65537=one at b1 b2⊢;have c1:=zbZ (one*one+30269*((d+1:Nat):Int)) (show(65521:Int)≠0 by decide);have c2:=zaW (one*one+30269*((d+1:Nat):Int)) (show(0:Int)<65521 by decide);refine⟨_,rfl,_,rfl,_,_,rfl,rfl,.inl ⟨by lia,by lia⟩,_,rfl,p,_,rfl,gd,_,_,rfl,rfl,.inl ⟨by decide,by decide⟩,_,_,rfl,rfl,_,_,rfl,rfl,(by show(0:Int)<65521;decide),?_⟩;generalize (one*one+30269*((d+1:Nat):Int)) % 65521=two at c1 c2⊢;refine⟨_,rfl,_,rfl,_,_,rfl,rfl,.inl ⟨by omega,by omega⟩,_,rfl,_,_,rfl,rfl,.inl ⟨by decide,by decide⟩,_,_,rfl,rfl,_,_,rfl,rfl,(by show(0:Int)<65519;decide),_,rfl,_,_,rfl,rfl,a,?_⟩;exact q _ _ (zbZ _ (by lia)) (zaW _ a) ⟨l,m,h1,S,y,u⟩ I
end
theorem alloc{p:Addr}{o:HO}(h:H p=none):cJ H (upd H p o):=λb u e=>by rw[au (aF e h)];exact e
def yx(x:Str):Prop:=∀c∈x.cps.toList,cZ c=true
theorem yx.append(h:yx x)(g:yx y):yx (x++y):=λc a=>by
 have e:(x++y).cps.toList=x.cps.toList++y.cps.toList:=by show(x.cps++y.cps).toList=_;simp
 rw[e,zbM] at a;exact a.elim (h c) (g c)
noncomputable def Mi(x:Str):Bool:=x.cps.toList.all cZ
theorem Ec(h:Mi x=true):yx x:=λc a=>zby.mp h c a
theorem wU{l u:Option Int}(h:yx y):yx (Txt.slice y l u):=by
 unfold Txt.slice;split
 ·exact h
 ·intro c a;have a:c∈(Builtin.Str.strSliceIndices l u 1 y.length).filterMap (y.cps[·]?):=by simpa using a
  obtain⟨i,_,e⟩:=List.mem_filterMap.mp a;exact h c (by
   have:y.cps.toList[i]? =some c:=by rw[<-e];simp
   exact List.mem_of_getElem? this)
theorem zN:∀ys:List Str,(∀y∈ys,y.length=1/\yx y)->(Str.join "" ys).length=ys.length/\yx (Str.join "" ys)
 |[],_=>⟨rfl,λc i=>absurd i (by simp[Str.join,Str.empty])⟩
 |[y],h=>⟨(h y (by simp)).1,(h y (by simp)).2⟩
 |y::z::r,h=>by
  obtain⟨h1,h2⟩:=zN (z::r) λx a=>h x (zaA _ a);obtain⟨l,j⟩:=h y (by simp);have e:Str.join "" (y::z::r)=y++""++Str.join "" (z::r):=rfl;rw[e];refine⟨?_,(j.append (Ec (by decide+kernel))).append h2⟩;rw[strLen_append,strLen_append,h1,l];show 1+0+_=_;simp;lia
theorem L7{c:Nat}(h:cZ c=true):(⟨#[c]⟩:Str).length=1/\yx ⟨#[c]⟩:=⟨rfl,λd hd=>by
 have:d=c:=by simpa using hd
 rw[this];exact h⟩
theorem yO:∀ys:List Str,(∀y∈ys,y.length=1/\yx y)->(ys.map (·.length)).sum=ys.length
 |[],_=>rfl
 |y::r,h=>by
  rw[zco,List.sum_cons,yO r λx a=>h x (zaA _ a),(h y (by simp)).1,zbu];lia
def Nm(y:Str):Prop:=1<=y.length/\y.length<=8/\yx y
theorem Nm.asc(h:Nm y):KH y:=λc a=>by
 have:=h.2.2 c a;unfold cZ at this;simp at this;lia
theorem wR{a b:Nat}(i:a<=b)(j:b<=x.length):(Txt.slice x (some (a:Int)) (some (b:Int))).length=b - a:=by
 unfold Txt.slice;have e:=PySem.StrLaws.sliced_plain x i j;have l:(Builtin.Str.strSliceIndices (some (a:Int)) (some (b:Int)) 1 x.length).length=b - a:=by rw[PySem.StrLaws.strSliceIndices_plain i j];simp
 split
 ·rename_i h;simp only[zbH,beq_iff_eq] at h;lia
 ·show((Builtin.Str.strSliceIndices (some (a:Int)) (some (b:Int)) 1 x.length).filterMap (x.cps[·]?)).toArray.size=_;rw[zbc,e,zbv,zbw,zaK];have:x.cps.size=x.length:=rfl;lia
theorem zb{u:Int}:Txt.slice x none (some u)=Txt.slice x (some ((0:Nat):Int)) (some u):=by
 have e:Builtin.Str.strSliceIndices none (some u) 1 x.length=Builtin.Str.strSliceIndices (some ((0:Nat):Int)) (some u) 1 x.length:=by
  unfold Builtin.Str.strSliceIndices;have a:max (0:Int) (min 0 (x.length:Int))=0:=by rfl
  simp[a]
 unfold Txt.slice;rw[e]
theorem DV(h:(decide (1<=y.length)&&decide (y.length<=8)&&Mi y)=true):Nm y:=by
 rw[zbH,zbH] at h;exact⟨of_decide_eq_true h.1.1,of_decide_eq_true h.1.2,Ec h.2⟩
open M
section
variable {w:Wd}
theorem G6{o o':MO}{j:HO}(k:Ok K w H S)(e:S[n]? =some (some o))(E:w.r n=some a)(h:jy K w o' j)(O:H' a=some j)(C:∀b q,H b=some q->b≠a->H' b=some q):Ok K w H' (S.set n (some o')):=by
 have g:=k.put e E h;obtain⟨U,P,h1,h2,Q,_⟩:=k.live n o e;rw[E] at h1;cases h1;refine⟨λb q z=>C b q (k.base b q z) (by intro y;subst y;rw[h2] at z;cases z),λm q z=>?_,g.inj,g.top⟩;obtain⟨b,u,L,I,i,F⟩:=g.live m q z;by_cases l:b=a
 ·subst l;rw[aq] at i;cases i;exact⟨b,j,L,I,O,F⟩
 ·rw[au l] at i;exact⟨b,u,L,I,C b u i l,F⟩
theorem Ic{p:Nat}(ok:Ok K w H S)(h:Rep K w (.loc p) v)(e:S[p]? =some (some (.feed n))):∃a,v=.ref a/\w.r p=some a/\pN H a n:=by
 simp only[Rep] at h;obtain⟨a,h1,rfl⟩:=h;obtain⟨q,u,i,o,m,l,s,rfl,j⟩:=ok.live p _ e;rw[h1] at i;cases i;exact⟨a,rfl,h1,l,s,m,j⟩
theorem qm(h:pN H' a n):∃u,H' a=some u/\jy K w (.feed n) u:=by
 obtain⟨l,s,h1,h2⟩:=h;exact⟨_,h1,l,s,rfl,h2⟩
end
def gj:AN:=λa S Q=>∃(p:Nat)(m:Int)(n:Nat),a=[.loc p,.int m]/\S[p]? =some (some (.feed n))/\n<1000/\0<m/\m<1000/\∀z,0<=z->z<m->Q (.dat (.int z)) (S.set p (some (.feed (n+1))))
def yZ:AN:=λa S Q=>∃z:Int,a=[.int z]/\Q (.dat (.loc S.length)) (S++[some (.feed 0)])
def y9:AN:=λa S Q=>∃(ns:List Int)(k:Nat),a=[.kQ ns,.int k]/\k<1000/\∀z,Q (.dat (.int z)) S
section
variable {w:yal}{EP:Addr}
theorem Nh(D:Def P w K mg base 1 "_law_next" dM CJ):Def P w K mg base 1 "_law_next" dM (aN K gj):=D.imp λX H Q E h=>by
 obtain⟨w,Z,S,Qa,ok,rep,⟨p,m,n,rfl,i,I,W,h1,q⟩,bk⟩:=h;obtain⟨v,u,rfl,y,o⟩:=zo rep;obtain⟨a,rfl,U,O⟩:=Ic ok y i;refine⟨a,m,n,by rw[bD o rfl],O,I,W,h1,λz H' l j e L=>?_⟩;obtain⟨Y,C,F⟩:=qm (K:=K) (w:=w) e;exact bk.dat .refl (G6 ok i U F C L) .int (q z l j)
theorem Ni(D:Def P w K mg base 1 "_law_feed" gH CM):Def P w K mg base 1 "_law_feed" gH (aN K yZ):=D.imp λvs H Q E h=>by
 obtain⟨w,ds,S,Qa,ok,rep,⟨z,rfl,q⟩,bk⟩:=h;obtain⟨v,rfl,U⟩:=dw rep;refine⟨z,by rw[bD U rfl],λp I y Z C=>?_⟩;obtain⟨L,X,Y⟩:=qm (K:=K) (w:=w) Z;have l:Ok K w I S:=⟨λb o e=>C b o (ok.base b o e),λn o e=>by
  obtain⟨a,u,h1,h2,j,F⟩:=ok.live n o e;exact⟨a,u,h1,h2,C a u j,F⟩,ok.inj,ok.top⟩
 have O:yu K w I S (.new (.feed 0)) (.ref p):=⟨p,L,rfl,ok.free y,X,Y,λn W e z=>by
  obtain⟨a,u,h1,h2,j,F⟩:=ok.live n W e;rw[z] at h1;cases h1;rw[y] at j;cases j⟩
 obtain⟨w2,m,mJ,i⟩:=store l O;exact bk.dat m mJ i q
theorem Nj(D:Def P w K mg base 1 "_law_cell_at" gI (CN K)):Def P w K mg base 1 "_law_cell_at" gI (aN K y9):=D.imp λl H Q E h=>by
 obtain⟨w,m,S,n,ok,rep,⟨ns,k,rfl,j,q⟩,bk⟩:=h;obtain⟨v,u,rfl,i,e⟩:=zo rep;obtain⟨a,rfl,h1⟩:=iJ ok i (uf (S:=S));exact⟨a,ns,k,by rw[bD e rfl],h1,j,λz=>bk.dat .refl ok .int (q z)⟩
end
open PySem PySem.Spec L2 M M6 PyProof.Rows
abbrev Kn:=Str×List Str
abbrev Ti:=Str×Str×Str
noncomputable abbrev fl:List Str:=["marked","tied","near"]
structure Kc where
 nm:Str
 ml:List Str
 mc:Nat
 nc:Nat
noncomputable def Kc.kn(c:Kc):Kn:=(c.nm,c.ml)
noncomputable def oE(a:List Kc):List Str:=a.map (·.nm)
noncomputable def kk(a:List Kc):List Key:=a.map λc=>.inr c.nm
noncomputable def mO(a:List Str):MO:=.dct (a.map Sum.inr) (a.map λ_=>.bl true)
def stp(ts:List Ti)(x:Str)(j:Ti):Prop:=(j.1="on"/\(x,j.2.1,j.2.2)∈ts)∨(j.1="back"/\(j.2.2,j.2.1,x)∈ts)
noncomputable def cells(n m t e:Nat)(a:List Kc):List Nat:=n::m::t::e::(a.map (·.mc)++a.map (·.nc))
structure cu(C:Addr)(W:yal)(S:aD)(n m t e:Nat)(cs:List Kc)(ts:List Ti)(N:Str->Ti->Prop):Prop where
 at_:S[n]? =some (some (.ins C fl [.loc m,.loc t,.loc e]))
 B7:S[m]? =some (some (.dct (kk cs) (cs.map λc=>.loc c.mc)))
 ti:S[t]? =some (some (nO W (ts.map T3)))
 ne:S[e]? =some (some (.dct (kk cs) (cs.map λc=>.loc c.nc)))
 Gb:∀c∈cs,S[c.mc]? =some (some (mO c.ml))
 Hw:∀c∈cs,∃js:List Ti,S[c.nc]? =some (some (nO W (js.map T3)))/\js.Nodup/\js.length<=900/\(∀j∈js,lX j=true)/\∀j,j∈js↔N c.nm j
 nd:(cells n m t e cs).Nodup
 kn:(oE cs).Nodup
 tn:ts.Nodup
 mn:∀c∈cs,c.ml.Nodup
 okn:∀c∈cs,gf c.nm=true/\∀m∈c.ml,gf m=true
 DK:∀t∈ts,lX t=true
 tk:∀t∈ts,t.1∈oE cs/\t.2.2∈oE cs
 kb:cs.length<64
 mb:∀c∈cs,c.ml.length<64
 tb:ts.length<=302
def di(C:Addr)(W:yal)(S:aD)(n:Nat)(own:List Nat)(ks:List Kn)(ts:List Ti):Prop:=∃m t e a,own=cells n m t e a/\a.map Kc.kn=ks/\cu C W S n m t e a ts (stp ts)
noncomputable abbrev nms(ks:List Kn):List Str:=ks.map (·.1)
theorem ic(a:List Kc):nms (a.map Kc.kn)=oE a:=by unfold nms oE Kc.kn;rw[zcF];rfl
structure Fr(S S':aD)(own own':List Nat):Prop where
 out:∀k,k<S.length->k ∉ own->S'[k]? =S[k]?
 len:S.length<=S'.length
 new:∀c∈own',c∈own∨S.length<=c
theorem fu(h:S[n]? =some o):n<S.length:=by
 rcases zcJ n S.length with z|z
 ·exact z
 ·rw[zau z] at h;cases h
theorem bE{o':Option MO}(h:S[n]? =some o):(S.set n o')[n]? =some o':=by
 rw[zbh,yIp rfl,yIp (fu h)]
theorem bB{k:Nat}{o':Option MO}(h:k≠n):(S.set n o')[k]? =S[k]?:=zaC (Ne.symm h)
theorem cW{X:aD}(h:S[n]? =some o):(S++X)[n]? =some o:=by
 rw[zaf (fu h)];exact h
theorem fO{X:aD}(h:n<S.length):(S++X)[n]? =S[n]?:=zaf h
theorem bJ:(S++[o])[S.length]? =some o:=by
 rw[zab (zcS _),Nat.sub_self];rfl
theorem aV{o:MO}(h:S[n]? =some (some o)):bq S (.loc n)=o.d:=by simp only[bq,h]
theorem xX{ks a:List Str}{e:List D}{f:Str}{o:MO}{v:AE}{l:fL}(j:δ[i]? =some (some (.loc n)))(y:S[n]? =some (some (.ins C ks ds)))(u:ks.length<1000)(m:∀Q:AK,Q (.dat (.loc S.length)) (S++[some o])->v δ S Q)(q:putD f (.loc S.length) ks ds=(a,e))(nx:l.nx δ ((S++[some o]).set n (some (.ins C a e)))):JH C (cQ i) v f l δ S:=by
 refine m _ ⟨_,j,n,ks,ds,rfl,cW y,u,?_⟩;show l.nx δ ((S++[some o]).set n (some (.ins C (putD f (.loc S.length) ks ds).1 (putD f (.loc S.length) ks ds).2)));rw[q];exact nx
section
variable {t e:Nat}{cs:List Kc}
theorem S8:n∈cells n m t e cs:=by simp[cells]
theorem Sm:m∈cells n m t e cs:=by simp[cells]
theorem Sl:t∈cells n m t e cs:=by simp[cells]
theorem Sn:e∈cells n m t e cs:=by simp[cells]
theorem PY{c:Kc}(h:c∈cs):c.mc∈cells n m t e cs:=by
 simp only[cells,zcn,zbM,zcE];exact .inr (.inr (.inr (.inr (.inl ⟨c,h,rfl⟩))))
theorem IG{c:Kc}(h:c∈cs):c.nc∈cells n m t e cs:=by
 simp only[cells,zcn,zbM,zcE];exact .inr (.inr (.inr (.inr (.inr ⟨c,h,rfl⟩))))
structure Apart(n m t e:Nat)(cs:List Kc):Prop where
 nm:n≠m
 nt:n≠t
 ne:n≠e
 mt:m≠t
 me:m≠e
 te:t≠e
 nc:∀c∈cs,n≠c.mc/\n≠c.nc
 mc:∀c∈cs,m≠c.mc/\m≠c.nc
 tc:∀c∈cs,t≠c.mc/\t≠c.nc
 ec:∀c∈cs,e≠c.mc/\e≠c.nc
 cc:∀c∈cs,∀c'∈cs,c.mc≠c'.nc
 mm:(cs.map (·.mc)).Nodup
 nn:(cs.map (·.nc)).Nodup
theorem apart(h:(cells n m t e cs).Nodup):Apart n m t e cs:=by
 unfold cells at h;rw[zbP,zbP,zbP,zbP,zbi] at h;obtain⟨h1,h2,l,y,u,q,o⟩:=h;have P:∀{a:Nat},a ∉ (cs.map (·.mc)++cs.map (·.nc))->∀c∈cs,a≠c.mc/\a≠c.nc:=λ{a} h c i=>
  ⟨λz=>h (by rw[z];exact zaB _ (zcE.mpr ⟨c,i,rfl⟩)),λz=>h (by rw[z];exact zat _ (zcE.mpr ⟨c,i,rfl⟩))⟩
 simp only[zcn,not_or] at h1 h2 l;exact⟨h1.1,h1.2.1,h1.2.2.1,h2.1,h2.2.1,l.1,P h1.2.2.2,P h2.2.2,P l.2,P y,λc i C j z=>o _ (zcE.mpr ⟨c,i,rfl⟩) _ (zcE.mpr ⟨C,j,rfl⟩) z,u,q⟩
theorem lg{n q:Type}{f:n->q}:∀{l:List n},(l.map f).Nodup->∀a∈l,∀b∈l,f a=f b->a=b
 |[],_,a,h,_,_,_=>by simp at h
 |x::l,hn,a,j,b,i,e=>by
  rw[zco,zbP] at hn;rcases zcn.mp j with o|j
  ·rcases zcn.mp i with m|i
   ·rw[o,m]
   ·exact absurd (show f x∈l.map f from zcE.mpr ⟨b,i,by rw[<-e,o]⟩) hn.1
  ·rcases zcn.mp i with m|i
   ·exact absurd (show f x∈l.map f from zcE.mpr ⟨a,j,by rw[e,m]⟩) hn.1
   ·exact lg hn.2 a j b i e
end
theorem Es(e:List Kc)(x:Str):pq (kk e) (.inr x)=decide (x∈oE e):=by
 unfold pq kk;rw[zcC];by_cases h:x∈oE e
 ·rw[yDt h];obtain⟨k,a,rfl⟩:=zcE.mp h;exact zbG.mpr ⟨k,a,by simp⟩
 ·rw[yDf h];refine zbd.mpr λk a z=>h ?_;have z:(Sum.inr k.nm:Key)=.inr x:=of_decide_eq_true z;injection z with z;exact zcE.mpr ⟨k,a,z⟩
theorem Eu:∀{a:List Kc}{x:Str},x∈oE a->∃c∈a,c.nm=x/\∀f:Kc->D,pA (kk a) (a.map f) (.inr x)=some (f c)
 |[],x,h=>by simp[oE] at h
 |k::ks,x,h=>by
  by_cases e:k.nm=x
  ·refine⟨k,zaN ..,e,λf=>?_⟩;unfold pA kk;rw[zco,zco,zaR,zbR,yDt (show(Sum.inr k.nm:Key)=.inr x by rw[e])];rfl
  ·have i:x∈oE ks:=by
    rcases zcn.mp (show x∈k.nm::oE ks from h) with z|z
    ·exact absurd z.symm e
    ·exact z
   obtain⟨c,j,h1,h2⟩:=Eu i;refine⟨c,zaA _ j,h1,λf=>?_⟩;have:=h2 f;unfold pA kk at this⊢;rw[zco,zco,zaR,zbR,yDf (λz=>e (by injection z))];exact this
theorem Dt{a:List Kc}{c:Kc}{f:Kc->D}(h:c.nm ∉ oE a):kq (kk a) (a.map f) (.inr c.nm) (f c)=.dct (kk (a++[c])) ((a++[c]).map f):=by
 have:=Es a c.nm;rw[yDf h] at this;unfold pq at this;unfold kq;rw[this,yIn (by decide)];unfold kk;rw[zbU,zbU];rfl
theorem pe(a:List Str)(m:Str):pq (a.map Sum.inr) (.inr m)=decide (m∈a):=by
 unfold pq;rw[zcC];by_cases h:m∈a
 ·rw[yDt h];exact zbG.mpr ⟨m,h,by simp⟩
 ·rw[yDf h];refine zbd.mpr λk e z=>h ?_;have z:(Sum.inr k:Key)=.inr m:=of_decide_eq_true z;injection z with z;rw[<-z];exact e
theorem JK(js:List Ti)(j:Ti)(l:js.Nodup):∃a:List Ti,putN (js.map T3) (T3 j)=a.map T3/\a.Nodup/\a.length<=js.length+1/\∀i,i∈a↔i∈js∨i=j:=by
 by_cases h:j∈js
 ·refine⟨js,?_,l,by simp,λi=>⟨.inl,λz=>z.elim id λe=>e▸h⟩⟩;have:=My js j;rw[yDt h] at this;unfold putN;unfold Bw at this;rw[this,yIp rfl]
 ·refine⟨js++[j],put3 h,?_,by simp,λi=>by simp⟩;refine zbi.mpr ⟨l,by simp,λx n y m z=>h ?_⟩;have:y=j:=by simpa using m
  rw[<-this,<-z];exact n
theorem yP{ts js:List Ti}(i:js.Nodup)(h:∀j∈js,stp ts x j):js.length<=2*ts.length:=by
 have:=L2.kY (l:=js) (m:=(ts.map λt=>(("on",t.2.1,t.2.2):Ti))++(ts.map λt=>(("back",t.2.1,t.1):Ti))) i λj n=>by
  obtain⟨a,b,c⟩:=j;rcases h _ n with⟨e,g⟩|⟨e,g⟩
  ·have e:a="on":=e;subst e;exact zaB _ (zcE.mpr ⟨_,g,rfl⟩)
  ·have e:a="back":=e;subst e;exact zat _ (zcE.mpr ⟨_,g,rfl⟩)
 rw[zaO,zbN,zbN] at this;lia
section
variable {W:yal}{S':aD}{t e:Nat}{cs:List Kc}{ts:List Ti}{N N':Str->Ti->Prop}
theorem cu.frame(X:cu C W S n m t e cs ts N)(h:∀c∈cells n m t e cs,S'[c]? =S[c]?):cu C W S' n m t e cs ts N:=
 ⟨by rw[h _ S8];exact X.at_,by rw[h _ Sm];exact X.B7,by rw[h _ Sl];exact X.ti,by rw[h _ Sn];exact X.ne,λc a=>by rw[h _ (PY a)];exact X.Gb c a,λc a=>by rw[h _ (IG a)];exact X.Hw c a,X.nd,X.kn,X.tn,X.mn,X.okn,X.DK,X.tk,X.kb,X.mb,X.tb⟩
theorem cu.near(X:cu C W S n m t e cs ts N){c:Kc}(l:c∈cs){js:List Ti}(h1:js.Nodup)(h2:js.length<=900)(P:∀j∈js,lX j=true)(O:∀j,j∈js↔N' c.nm j)(L:∀x,x≠c.nm->∀j,N x j↔N' x j):
  cu C W (S.set c.nc (some (nO W (js.map T3)))) n m t e cs ts N':=by
 have A:=apart X.nd;obtain⟨I,Q,_⟩:=X.Hw c l;refine⟨by rw[bB (A.nc c l).2];exact X.at_,by rw[bB (A.mc c l).2];exact X.B7,by rw[bB (A.tc c l).2];exact X.ti,by rw[bB (A.ec c l).2];exact X.ne,λi a=>by rw[bB (A.cc i a c l)];exact X.Gb i a,λi a=>?_,X.nd,X.kn,X.tn,X.mn,X.okn,X.DK,X.tk,X.kb,X.mb,X.tb⟩;by_cases z:i.nc=c.nc
 ·have:i=c:=lg A.nn i a c l z;subst this;exact⟨js,bE Q,h1,h2,P,O⟩
 ·obtain⟨o,H,F,E,u,q⟩:=X.Hw i a;refine⟨o,by rw[bB z];exact H,F,E,u,λj=>(q j).trans (L i.nm (λy=>z ?_) j)⟩;rw[lg X.kn i a c l y]
theorem cu.KU(X:cu C W S n m t e cs ts N){ts':List Ti}(h1:ts'.Nodup)(h2:∀t∈ts',lX t=true)(j:∀t∈ts',t.1∈oE cs/\t.2.2∈oE cs)(i:ts'.length<=302):
  cu C W (S.set t (some (nO W (ts'.map T3)))) n m t e cs ts' N:=by
 have A:=apart X.nd;exact⟨by rw[bB A.nt];exact X.at_,by rw[bB A.mt];exact X.B7,bE X.ti,by rw[bB (Ne.symm A.te)];exact X.ne,λc a=>by rw[bB (Ne.symm (A.tc c a).1)];exact X.Gb c a,
  λc a=>by rw[bB (Ne.symm (A.tc c a).2)];exact X.Hw c a,X.nd,X.kn,h1,X.mn,X.okn,h2,j,X.kb,X.mb,i⟩
theorem Fr.set{k:Nat}(h:k∈own):Fr S (S.set k o) own own:=
 ⟨λi _ a=>bB λz=>a (z▸h),by rw[zbV];exact zcS _,λc h=>.inl h⟩
theorem Fr.trans{q o:aD}{l j i:List Nat}(a:Fr S q l j)(b:Fr q o j i):Fr S o l i:=by
 refine⟨λk n m=>?_,zcH a.len b.len,λc u=>?_⟩
 ·rw[b.out k (zaV n a.len) λz=>?_,a.out k n m];rcases a.new k z with h|h
  ·exact m h
  ·lia
 ·rcases b.new c u with h|h
  ·exact a.new c h
  ·exact .inr (zcH a.len h)
end
open PySem PySem.Spec L2 M M6 PyProof.Rows
noncomputable abbrev uu:Stmt:=inClass (top 24) 0
noncomputable abbrev Au:List Str:=["self"]
noncomputable abbrev fK:=Au
theorem Lk:aE Au fK (ah uu):=L2.cL
noncomputable abbrev uo:Stmt:=inClass (top 24) 1
noncomputable abbrev sZ:List Str:=["self","name","marks"]
noncomputable abbrev eN:=sZ
theorem CW:aE sZ eN (ah uo):=L2.cL
noncomputable abbrev uh:Stmt:=inClass (top 24) 3
noncomputable abbrev sY:List Str:=["self","one","word","other"]
noncomputable abbrev eK:=sY
theorem CV:aE sY eK (ah uh):=L2.cL
noncomputable abbrev LA:Stmt:=inClass (top 24) 9
noncomputable abbrev FW:List Str:=["self","one","word","other"]
noncomputable abbrev jA:=FW
theorem Ov:aE FW jA (ah LA):=L2.cL
noncomputable abbrev uq:Stmt:=inClass (top 24) 13
noncomputable abbrev s9:List Str:=["self","name"]
noncomputable abbrev dj:=s9
theorem C1:aE s9 dj (ah uq):=L2.cL
noncomputable abbrev C9:Stmt:=inClass (top 24) 14
noncomputable abbrev As:List Str:=["self","name","marks"]
noncomputable abbrev gG:=As
theorem Lj:aE As gG (ah C9):=L2.cL
noncomputable abbrev zh:Stmt:=inClass (top 24) 15
noncomputable abbrev tw:List Str:=["self","one","word","other"]
noncomputable abbrev gF:=tw
theorem Li:aE tw gF (ah zh):=L2.cL
section
variable {W:yal}{S':aD}{t e:Nat}{cs:List Kc}{ts:List Ti}{N N':Str->Ti->Prop}
theorem cu.lt(X:cu C W S n m t e cs ts N):∀c∈cells n m t e cs,c<S.length:=λc a=>by
 simp only[cells,zcn,zbM,zcE] at a;rcases a with rfl|rfl|rfl|rfl|⟨d,hd,rfl⟩|⟨d,hd,rfl⟩
 ·exact fu X.at_
 ·exact fu X.B7
 ·exact fu X.ti
 ·exact fu X.ne
 ·exact fu (X.Gb d hd)
 ·obtain⟨i,h,_⟩:=X.Hw d hd;exact fu h
theorem cu.app(X:cu C W S n m t e cs ts N){Y:aD}:cu C W (S++Y) n m t e cs ts N:=X.frame λc a=>fO (X.lt c a)
theorem cu.O6(X:cu C W S n m t e cs ts N)(h:∀x j,N x j↔N' x j):cu C W S n m t e cs ts N':=
 ⟨X.at_,X.B7,X.ti,X.ne,X.Gb,λc y=>by
  obtain⟨u,q,o,l,i,a⟩:=X.Hw c y;exact⟨u,q,o,l,i,λj=>(a j).trans (h _ _)⟩,X.nd,X.kn,X.tn,X.mn,X.okn,X.DK,X.tk,X.kb,X.mb,X.tb⟩
theorem kc(X:cu C W S n m t e cs ts N){Q:AK}(a:δ[i]? =some (some (.loc n)))(q:Q (.dat (.loc m)) S):Fy C (cQ i) "marked" δ S Q:=⟨_,a,n,_,_,_,rfl,X.at_,rfl,q⟩
theorem vd(X:cu C W S n m t e cs ts N){Q:AK}(a:δ[i]? =some (some (.loc n)))(q:Q (.dat (.loc t)) S):Fy C (cQ i) "tied" δ S Q:=⟨_,a,n,_,_,_,rfl,X.at_,rfl,q⟩
theorem J2(X:cu C W S n m t e cs ts N){Q:AK}(a:δ[i]? =some (some (.loc n)))(q:Q (.dat (.loc e)) S):Fy C (cQ i) "near" δ S Q:=⟨_,a,n,_,_,_,rfl,X.at_,rfl,q⟩
theorem HV(X:cu C W S n m t e cs ts N){Q:AK}(q:Q (.dat (.bl (neg != decide (x∈oE cs)))) S):vQ neg (.str x) (.loc m) S Q:=by
 unfold vQ;rw[aV X.B7];refine⟨.inr x,rfl,?_⟩;rw[Es];exact q
theorem o7{a b:AE}{Q:AK}{S:aD}(h:a δ S λl m=>b δ m λj i=>∃ks ds k d,bq i l.d=.dct ks ds/\keyOf j.d=some k/\pA ks ds k=some d/\Q (.dat d) i):ym a b δ S Q:=h
theorem r9{W:yal}{a b:AE}{o:fL}{S:aD}(h:a δ S λm l=>b δ l λi j=>∃n ks,m.d=.loc n/\j[n]? =some (some (nO W ks))/\jj i.d/\(∀k∈ks,jj k)/\ks.length<1000/\o.nx δ (j.set n (some (nO W (putN ks i.d))))):
  Fq W a b (aC (.bl true)) o δ S:=by
 refine cast (congrArg (λz=>a δ S z) ?_) h;funext m l;refine congrArg (λz=>b δ l z) ?_;funext i j;refine propext ⟨?_,?_⟩
 ·rintro⟨n,ks,h1,h2⟩;exact⟨n,ks,rfl,h1,h2⟩
 ·rintro⟨n,ks,_,h1,h2⟩;exact⟨n,ks,h1,h2⟩
theorem pD(c:Kc):(cells n m t e (cs++[c])).Perm (c.mc::c.nc::cells n m t e cs):=by
 refine List.perm_iff_count.mpr λz=>?_;simp only[cells,zbU,zco,zcB,List.count_append,List.count_cons,List.count_nil];lia
noncomputable def Gd(a:List Str):List (Key×D):=a.map λm=>(.inr m,.bl true)
theorem Ac:∀(i a:List Str),(a++i).Nodup->(Gd i).foldl Cc (a.map Sum.inr,a.map λ_=>.bl true)=((a++i).map Sum.inr,(a++i).map λ_=>.bl true)
 |[],a,_=>by rw[zbO];rfl
 |m::i,a,h=>by
  show(Gd i).foldl Cc (Cc (a.map Sum.inr,a.map λ_=>.bl true) (.inr m,.bl true))=_;have j:m ∉ a:=λz=>by
   rw[zbi] at h;exact h.2.2 m z m (by simp) rfl
  have e:Cc (a.map Sum.inr,a.map λ_=>D.bl true) (.inr m,.bl true)=((a++[m]).map Sum.inr,(a++[m]).map λ_=>.bl true):=by
   unfold Cc;rw[pe,yDf j,yIn (by decide),zbU,zbU];rfl
  rw[e,Ac i (a++[m]) (by simpa using h)];simp
theorem IA(h:ms.Nodup):MO.dct (sF (Gd ms)).1 (sF (Gd ms)).2=mO ms:=by
 have:=Ac ms [] (by simpa using h);unfold sF mO;have this:(Gd ms).foldl Cc ([],[])=_:=this;rw[this];rfl
end
local macro_rules
|`(tactic|push_cast[$x,*])=>do let y<-("IW Qf FA Su Qh aCall fH jx cQ aC yj Ss aB Nk aIf fZ vR Np Nv Qg yo bg vP lC Nn pI eG An IM Nr cB nS jZ HJ HE Fx Fo Fl Ie gE KQ Gm Gj true_and Qn Jb CU ue rL CT ud c6 uf zan zam zaU List.set_cons_succ zcW.injEq exists_eq_left' List.cons.injEq and_true D.ty.injEq D.bl.injEq D.int.injEq D.str.injEq and_assoc exists_and_left exists_eq_left exists_and_right eX GU zaY if_true if_false Bool.not_true Bool.not_false".splitOn).toArray.mapM λs=>`(Lean.Parser.Tactic.simpLemma|$(Lean.mkIdent s.toName):term);`(tactic|simp only[$x,*,$y,*])
section
variable {w:yal}{EP:Addr}
theorem dh{m:Str}{sp:AN}{Q:AK}(a:δ[i]? =some (some (.loc n)))(j:S[n]? =some (some (.ins C fl ds)))(e:m ∉ fl)(h:t δ S λes l=>sp (.loc n::es) l Q):Am C m sp (cQ i) t δ S Q:=⟨_,a,n,_,_,rfl,j,e,h⟩
def gk(C:Addr)(W:yal):AN:=λi S Q=>∃n x own a e,i=[.loc n,.str x]/\di C W S n own a e/\x∈nms a/\Q (.dat .aY) S
theorem EE{k:Nat}(T:Txt K mg ec EP C fi)(F:rg K "need_knot" "Web.need_knot" uq f fd):bL P w K mg base iF (k+1) f fd dj (aN K (gk C w)):=by
 refine NZ F C1 (λu S Q h=>?_) (λf y A outer s H E l=>?_)
 ·obtain⟨n,x,own,j,i,rfl,_⟩:=h;rfl
 ·refine⟨_,(Tw (T6 (TZ (M.oz l) (Tn 1) (Uc (Tn 0) T.cl T.cP) rfl) (Tw UE) T7)),λu S Q h=>?_⟩;obtain⟨n,x,own,j,i,rfl,⟨m,t,e,z,rfl,rfl,X⟩,a,q⟩:=h;have o:aL s9 [.loc n,.str x]=[some (.loc n),some (.str x)]:=rfl;rw[o];push_cast[true_and];rw[ic] at a;refine kc X rfl (HV X ⟨_,rfl,?_⟩);rw[yDt a,yIn (by decide)];exact q
theorem MS(T:Txt K mg ec EP C fi)(F:iZ K C "need_knot" "Web.need_knot" dj uq):cX P w K mg base 1 C "need_knot" dj (gk C w):=by
 obtain⟨f,fd,F,a,e⟩:=F.ex;exact⟨f,fd,EE T F,a,e⟩
def yX(C:Addr)(W:yal):AN:=λi S Q=>∃n x own e a,i=[.loc n,.str x.1,.str x.2.1,.str x.2.2]/\di C W S n own e a/\lX x=true/\Q (.dat (.bl (decide (x∈a)))) S
theorem PJ(T:Txt K mg ec EP C fi)(F:iZ K C "has_tie" "Web.has_tie" jA LA):cX P w K mg base 1 C "has_tie" jA (yX C w):=by
 refine qP F Ov (λu S Q h=>?_) (λf y A outer s H E l=>?_)
 ·obtain⟨n,x,own,i,a,rfl,_⟩:=h;rfl
 ·refine⟨_,(Tw (TL (Um (M.O0 l) (T8 (To (Tn 1) (To (Tn 2) (Tp (Tn 3))))) (Uc (Tn 0) T.cl T.n_tied) rfl))),λu S Q h=>?_⟩;obtain⟨n,x,own,i,a,rfl,⟨m,t,e,z,rfl,rfl,X⟩,j,q⟩:=h;have o:aL FW [.loc n,.str x.1,.str x.2.1,.str x.2.2]=[some (.loc n),some (.str x.1),some (.str x.2.1),some (.str x.2.2)]:=rfl;rw[o];push_cast[true_and];refine⟨ySz 3,vd X rfl ⟨t,_,rfl,X.ti,good3 j,(qf X.DK).good,?_⟩⟩;rw[My,show(false != decide (x∈a))=decide (x∈a) by cases decide (x∈a)<;>rfl];exact q
def wO(C:Addr)(W:yal):AN:=λe S Q=>∃n,e=[.loc n]/\S.length=n+1/\S[n]? =some (some (.ins C [] []))/\∀a,di C W a n [n,n+1,n+2,n+3] [] []->(∀k,k<n->a[k]? =S[k]?)->a.length=n+4->Q (.dat .aY) a
theorem MX(T:Txt K mg ec EP C fi)(F:rg K "__init__" "Web.__init__" uu f fd):bL P w K mg base iF 1 f fd fK (aN K (wO C w)):=by
 refine NZ F Lk (λW S Q h=>?_) (λf Y A outer s H E Z=>?_)
 ·obtain⟨n,rfl,_⟩:=h;rfl
 ·refine⟨_,(Tr (M.nX (Tn 0) (Ug M.gZ) T.cl T.cP) (Tr (M.nX (Tn 0) (Ug M.jV) T.cl T.n_tied) (Tw (M.nX (Tn 0) (Ug M.gZ) T.cl T.n_near)))),λW S Q h=>?_⟩;obtain⟨n,rfl,O,l,q⟩:=h;have U:aL Au [.loc n]=[some (.loc n)]:=rfl;rw[U];push_cast[true_and];have y:∀a c:D,putD "tied" c ["marked"] [a]=((["marked","tied"]:List Str),[a,c]):=λa c=>by
   unfold putD;rw[yIn (by decide+kernel)];rfl
  have p3:∀a c d:D,putD "near" d ["marked","tied"] [a,c]=((["marked","tied","near"]:List Str),[a,c,d]):=λa c d=>by
   unfold putD;rw[yIn (by decide+kernel)];unfold putD;rw[yIn (by decide+kernel)];rfl
  refine xX (o:=.dct [] []) rfl l (by decide) (λ_ q=>q) rfl ?_;generalize j:(S++[some (MO.dct [] [])]).set n _=S1;have L:S1.length=n+2:=by rw[<-j,zbV,zaO];simp;omega
  have u:S1[n]? =some (some (.ins C ["marked"] [.loc S.length])):=by rw[<-j];exact bE (cW l)
  simp only[fZ];refine xX (o:=nO w []) rfl u (by decide) (λ_ q=>q) (y _ _) ?_;generalize i:(S1++[some (nO w [])]).set n _=S2;have I:S2.length=n+3:=by rw[<-i,zbV,zaO];simp;omega
  have m:S2[n]? =some (some (.ins C ["marked","tied"] [.loc S.length,.loc S1.length])):=by rw[<-i];exact bE (cW u)
  try simp only[fZ]
  refine xX (o:=.dct [] []) rfl m (by decide) (λ_ q=>q) (p3 _ _ _) ?_;generalize e:(S2++[some (MO.dct [] [])]).set n _=S3;have z:S3.length=n+4:=by rw[<-e,zbV,zaO];simp;omega
  refine q S3 ⟨n+1,n+2,n+3,[],rfl,rfl,⟨?_,?_,?_,?_,by simp,by simp,?_,.nil,.nil,by simp,by simp,by simp,by simp,by decide,by simp,by decide⟩⟩ (λk hk=>?_) z
  ·rw[<-e];have:=bE (o':=some (.ins C ["marked","tied","near"] [.loc S.length,.loc S1.length,.loc S2.length])) (cW (X:=[some (.dct [] [])]) m);rw[this,O,L,I]
  ·rw[<-e,bB (by simp),fO (by lia),<-i,bB (by lia),fO (by lia),<-j,bB (by lia),show n+1=S.length by lia];exact bJ
  ·rw[<-e,bB (by simp),fO (by lia),<-i,bB (by lia),show n+2=S1.length by lia];exact bJ
  ·rw[<-e,bB (by simp),show n+3=S2.length by lia];exact bJ
  ·simp only[cells,zcB,zbO,zbP,zcn,zbC,or_false];refine⟨by simp,by simp,by simp,by simp,.nil⟩
  ·rw[<-e,bB (by lia),fO (by lia),<-i,bB (by lia),fO (by lia),<-j,bB (by lia),fO (by lia)]
def zA(C:Addr)(W:yal)(S:aD)(n:Nat)(own:List Nat)(ks:List Kn)(ts:List Ti)(Q:AK):Prop:=∀e a,di C W e n a ks ts->Fr S e own a->Q (.dat .aY) e
def Jm(mk:D)(a:List Str):Prop:=mk=.lst (a.map D.str)∨mk=.tup (a.map D.str)
theorem Jm.walk{mk:D}(h:Jm mk ms){Q:List D->(aD->Prop)->aD->Prop}(q:Q (ms.map D.str) (λ_=>True) S):u7 S Q mk:=by
 rcases h with rfl|rfl<;>exact q
def rF(C:Addr)(W:yal):AN:=λj S Q=>∃n x mk a own e i,j=[.loc n,.str x,mk]/\Jm mk a/\di C W S n own e i/\x ∉ nms e/\e.length<63/\a.length<64/\a.Nodup/\gf x=true/\(∀m∈a,gf m=true)/\
 zA C W S n own (e++[(x,a)]) i Q
theorem MV(T:Txt K mg ec EP C fi)(F:iZ K C "lay_knot" "Web.lay_knot" gG C9):cX P w K mg base 1 C "lay_knot" gG (rF C w):=by
 refine qP F Lj (λds S Q h=>?_) (λf cdv A outer s H E hr=>?_)
 ·obtain⟨n,x,mk,u,own,ks,ts,rfl,_⟩:=h;rfl
 ·refine⟨_,(Tr (M.nY (j6 hr) (Uc (Tn 0) T.cl T.cP) (Tn 1) (Ug (Uo (M.Hu hr) T.dict (To (Uw ["mark"] [none] (Uq (Tn 2)) (λ_ _ _ _=>Uj) (λ_ _ _ _=>(T8 (To (Tn 0) (Tp Uk))))) Tt))) rfl) (Tw (M.nY (j6 hr) (Uc (Tn 0) T.cl T.n_near) (Tn 1) (Ug M.jV) rfl))),λds S Q h=>?_⟩;obtain⟨n,x,mk,u,own,ks,ts,rfl,hmk,⟨m,t,e,l,rfl,rfl,X⟩,L,hkl,hml,hmn,ox,oms,q⟩:=h;have e0:aL As [.loc n,.str x,mk]=[some (.loc n),some (.str x),some mk]:=rfl;rw[e0];rw[ic] at L;rw[zbN] at hkl;push_cast[true_and];have I:=apart X.nd;refine⟨_,rfl,hmk.walk ?_⟩;show cK (λ_=>True) (bg 0) gM _ (u.map D.str) [] _ S _;refine comp_map (δ:=fW [none] [some (.loc n),some (.str x),some mk]) (λd=>.tup [d,.bl true]) trivial (u.map D.str) [] _ rfl (λy hy Q' q'=>⟨_,rfl,ySz 2,q'⟩) (by rw[zbN,yag];simp;lia) ?_;refine⟨_,Gd u,rfl,?_,by unfold Gd;rw[zbN];lia,?_⟩
  ·show D.lst _=D.lst _;rw[zbT,zcF];unfold Gd;rw[zcF];rfl
  show Fy _ _ _ _ (S++[some (MO.dct (sF (Gd u)).1 (sF (Gd u)).2)]) _;rw[IA hmn];have U:=X.app (Y:=[some (mO u)]);have lS:(S++[some (mO u)]).length=S.length+1:=by simp
  let c:Kc:=⟨x,u,S.length,S.length+1⟩
  refine kc U rfl ⟨_,rfl,m,_,_,.inr x,rfl,rfl,U.B7,by rw[zbN];lia,?_⟩;have p1:kq (kk l) (l.map λc=>D.loc c.mc) (.inr x) (.loc S.length)=.dct (kk (l++[c])) ((l++[c]).map λc=>.loc c.mc):=Dt (c:=c) (f:=λc=>.loc c.mc) L;have p2:kq (kk l) (l.map λc=>D.loc c.nc) (.inr x) (.loc (S.length+1))=.dct (kk (l++[c])) ((l++[c]).map λc=>.loc c.nc):=Dt (c:=c) (f:=λc=>.loc c.nc) L;dsimp only;rw[show(R.dat (D.loc S.length)).d=D.loc S.length from rfl,p1];generalize e1:(S++[some (mO u)]).set m _=S1;have l1:S1.length=S.length+1:=by rw[<-e1,zbV,lS]
  have Z:∀k,k≠m->S1[k]? =(S++[some (mO u)])[k]?:=λk hk=>by rw[<-e1,bB hk]
  have m1:S1[m]? =some (some (.dct (kk (l++[c])) ((l++[c]).map λc=>.loc c.mc))):=by rw[<-e1];exact bE U.B7
  refine⟨_,rfl,n,_,_,_,rfl,cW (by rw[Z n I.nm];exact U.at_),rfl,_,rfl,e,_,_,.inr x,rfl,rfl,cW (by rw[Z e (Ne.symm I.me)];exact U.ne),by rw[zbN];lia,?_⟩;show Q (.dat .aY) ((S1++[some (nO w [])]).set e (some (kq (kk l) (l.map λc=>D.loc c.nc) (.inr x) (.loc S1.length))));rw[l1,p2];generalize O:(S1++[some (nO w [])]).set e _=S2;have l2:S2.length=S.length+2:=by rw[<-O,zbV,zaO,l1];rfl
  have el:=X.lt e Sn;have ml:=X.lt m Sm;have W:∀k,k<S.length->k≠m->k≠e->S2[k]? =S[k]?:=λk hk h1 h2=>by rw[<-O,bB h2,fO (by lia),Z k h1,fO hk]
  have m2:S2[m]? =some (some (.dct (kk (l++[c])) ((l++[c]).map λc=>.loc c.mc))):=by rw[<-O,bB I.me];exact cW m1
  have n2:S2[e]? =some (some (.dct (kk (l++[c])) ((l++[c]).map λc=>.loc c.nc))):=by rw[<-O];exact bE (cW (by rw[Z e (Ne.symm I.me)];exact U.ne))
  have c1:S2[S.length]? =some (some (mO u)):=by rw[<-O,bB (by lia),fO (by lia),Z _ (by lia)];exact bJ
  have c2:S2[S.length+1]? =some (some (nO w [])):=by rw[<-O,bB (by lia),<-l1];exact bJ
  have hxx:∀j,¬stp ts x j:=λj z=>by
   rcases z with⟨_,z⟩|⟨_,z⟩
   ·exact L (X.tk _ z).1
   ·exact L (X.tk _ z).2
  have mem:∀o∈l++[c],o∈l∨o=c:=λo h=>by simpa using h
  have O4:oE (l++[c])=oE l++[x]:=by unfold oE;rw[zbU];rfl
  refine q S2 _ ⟨m,t,e,l++[c],rfl,by rw[zbU];rfl,⟨?_,m2,?_,n2,λo i=>?_,λo i=>?_,?_,?_,X.tn,λo i=>?_,λo i=>?_,X.DK,λt' ht'=>?_,by rw[zaO];simp;lia,λo i=>?_,X.tb⟩⟩ ⟨λk hk hn=>?_,by lia,λo i=>?_⟩
  ·rw[W n (X.lt n S8) I.nm I.ne];exact X.at_
  ·rw[W t (X.lt t Sl) (Ne.symm I.mt) I.te];exact X.ti
  ·rcases mem o i with h|rfl
   ·rw[W _ (X.lt _ (PY h)) (Ne.symm (I.mc o h).1) (Ne.symm (I.ec o h).1)];exact X.Gb o h
   ·exact c1
  ·rcases mem o i with h|rfl
   ·rw[W _ (X.lt _ (IG h)) (Ne.symm (I.mc o h).2) (Ne.symm (I.ec o h).2)];exact X.Hw o h
   ·exact⟨[],c2,.nil,by simp,by simp,λj=>⟨λz=>by simp at z,λz=>(hxx j z).elim⟩⟩
  ·refine(pD c).nodup_iff.mpr ?_;have b1:S.length ∉ cells n m t e l:=λz=>by have:=X.lt _ z;lia
   have b2:S.length+1 ∉ cells n m t e l:=λz=>by have:=X.lt _ z;lia
   refine zbP.mpr ⟨λz=>?_,zbP.mpr ⟨b2,X.nd⟩⟩;rcases zcn.mp z with z|z
   ·have z:S.length=S.length+1:=z;lia
   ·exact b1 z
  ·rw[O4];refine zbi.mpr ⟨X.kn,by simp,λa ha b hb z=>L ?_⟩;have:b=x:=by simpa using hb
   rw[<-this,<-z];exact ha
  ·rcases mem o i with h|rfl
   ·exact X.mn o h
   ·exact hmn
  ·rcases mem o i with h|rfl
   ·exact X.okn o h
   ·exact⟨ox,oms⟩
  ·rw[O4];exact⟨zaB _ (X.tk t' ht').1,zaB _ (X.tk t' ht').2⟩
  ·rcases mem o i with h|rfl
   ·exact X.mb o h
   ·exact hml
  ·exact W k hk (λz=>hn (z▸Sm)) λz=>hn (z▸Sn)
  ·have:=(pD c).mem_iff.mp i;rcases zcn.mp this with z|z
   ·exact .inr (by rw[z];exact zcS _)
   ·rcases zcn.mp z with z|z
    ·exact .inr (by rw[z];exact zcU _)
    ·exact .inl z
def nD(C:Addr)(W:yal):AN:=λj S Q=>∃n x mk a own e i,j=[.loc n,.str x,mk]/\Jm mk a/\di C W S n own e i/\x ∉ nms e/\e.length<40/\a.length<64/\a.Nodup/\gf x=true/\(∀m∈a,gf m=true)/\
 zA C W S n own (e++[(x,a)]) i Q
theorem ED(T:Txt K mg ec EP C fi)(F:rg K "put_knot" "Web.put_knot" uo f fd)(a:cX P w K mg base 1 C "lay_knot" gG (rF C w)):bL P w K mg base iF 2 f fd eN (aN K (nD C w)):=by
 refine NZ F CW (λds S Q h=>?_) (λf cdv A outer s H E U=>?_)
 ·obtain⟨n,x,mk,L,own,Y,I,rfl,_⟩:=h;rfl
 ·refine⟨_,(Tr (T6 (TZ (M.DQ U) (Tn 1) (Uc (Tn 0) T.cl T.cP) rfl) (Tw UE) T7) (Tr (T6 (TZ UG (TM T9 T.len (To (Uc (Tn 0) T.cl T.cP) Tt)) T.jd (aS _)) (Tw UE) T7) (Tw (Uh (Us (Tn 0) T.cl a (U.mono (by decide)) (To (Tn 1) (Tp (Tn 2)))))))),λds S Q h=>?_⟩;obtain⟨n,x,mk,L,own,Y,I,rfl,u,⟨m,t,e,z,rfl,rfl,X⟩,O,y,o,l,W,j,q⟩:=h;have Z:aL sZ [.loc n,.str x,mk]=[some (.loc n),some (.str x),some mk]:=rfl;rw[Z];have i:=O;rw[ic] at i;rw[zbN] at y;push_cast[true_and];refine kc X rfl (HV X ⟨_,rfl,?_⟩);rw[yDf i,yIn (by decide)];refine kc X rfl ⟨z.length,?_,?_⟩
  ·rw[cB,aV X.B7];show some (kk z).length=_;unfold kk;rw[zbN]
  rw[yDf (by lia),yIn (by decide)];exact dh rfl X.at_ (by decide+kernel) ⟨_,rfl,_,rfl,n,x,mk,L,_,_,I,rfl,u,⟨m,t,e,z,rfl,rfl,X⟩,O,by rw[zbN];lia,o,l,W,j,q⟩
theorem mJ{x:Ti}(h:lX x=true):gf x.1=true/\gf x.2.1=true/\gf x.2.2=true:=by
 unfold lX at h;rw[zbH,zbH] at h;exact⟨h.1.1,h.1.2,h.2⟩
theorem cu.Ew{W:yal}{t e:Nat}{a:List Kc}{ts:List Ti}{N:Str->Ti->Prop}(X:cu C W S n m t e a ts N)(i:x∈oE a):∃c∈a,c.nm=x/\pA (kk a) (a.map λc=>D.loc c.nc) (.inr x)=some (.loc c.nc)/\pA (kk a) (a.map λc=>D.loc c.mc) (.inr x)=some (.loc c.mc):=by
 obtain⟨c,j,h1,h2⟩:=Eu i;exact⟨c,j,h1,h2 _,h2 _⟩
def rE(C:Addr)(W:yal):AN:=λi S Q=>∃n x own e a,i=[.loc n,.str x.1,.str x.2.1,.str x.2.2]/\di C W S n own e a/\x.1∈nms e/\x.2.2∈nms e/\x ∉ a/\a.length<302/\lX x=true/\zA C W S n own e (a++[x]) Q
noncomputable abbrev NY(b c:Str):Ti:=("on",b,c)
noncomputable abbrev vM(b c:Str):Ti:=("back",b,c)
theorem Gq{ts:List Ti}{x1 i e:Str}{j:Ti}:((stp ts y j∨(y=x1/\j=NY i e))∨(y=e/\j=vM i x1))↔stp (ts++[(x1,i,e)]) y j:=by
 obtain⟨a,b,g⟩:=j;simp only[stp,zbM,zaS,Prod.mk.injEq];constructor
 ·rintro(((⟨rfl,h⟩|⟨rfl,h⟩)|⟨rfl,rfl,rfl,rfl⟩)|⟨rfl,rfl,rfl,rfl⟩)
  ·exact .inl ⟨rfl,.inl h⟩
  ·exact .inr ⟨rfl,.inl h⟩
  ·exact .inl ⟨rfl,.inr ⟨rfl,rfl,rfl⟩⟩
  ·exact .inr ⟨rfl,.inr ⟨rfl,rfl,rfl⟩⟩
 ·rintro(⟨rfl,h|⟨rfl,rfl,rfl⟩⟩|⟨rfl,h|⟨rfl,rfl,rfl⟩⟩)
  ·exact .inl (.inl (.inl ⟨rfl,h⟩))
  ·exact .inl (.inr ⟨rfl,rfl,rfl,rfl⟩)
  ·exact .inl (.inl (.inr ⟨rfl,h⟩))
  ·exact .inr ⟨rfl,rfl,rfl,rfl⟩
theorem oq{a b c:Str}(e:gf a=true)(h1:gf b=true)(h2:gf c=true):lX (a,b,c)=true:=by unfold lX;rw[e,h1,h2];rfl
theorem MU(T:Txt K mg ec EP C fi)(F:iZ K C "lay_tie" "Web.lay_tie" gF zh):cX P w K mg base 1 C "lay_tie" gF (rE C w):=by
 refine qP F Li (λds S Q h=>?_) (λf cdv A outer s H E hr=>?_)
 ·obtain⟨n,x,own,ks,ts,rfl,_⟩:=h;rfl
 ·refine⟨_,(Tr (M.jN hr (Uc (Tn 0) T.cl T.n_tied) (T8 (To (Tn 1) (To (Tn 2) (Tp (Tn 3))))) Uk rfl) (Tr (M.jN hr (M.oj (j6 hr) (Uc (Tn 0) T.cl T.n_near) (Tn 1) (λ_ _=>rfl)) (T8 (To Tv (To (Tn 2) (Tp (Tn 3))))) Uk rfl) (Tw (M.jN hr (M.oj (j6 hr) (Uc (Tn 0) T.cl T.n_near) (Tn 3) (λ_ _=>rfl)) (T8 (To Tv (To (Tn 2) (Tp (Tn 1))))) Uk rfl)))),λds S Q h=>?_⟩;obtain⟨n,x,own,ks,ts,rfl,⟨m,t,e,cs,rfl,rfl,X⟩,O,L,hx,hkl,ox,q⟩:=h;have e0:aL tw [.loc n,.str x.1,.str x.2.1,.str x.2.2]=[some (.loc n),some (.str x.1),some (.str x.2.1),some (.str x.2.2)]:=rfl;rw[e0];rw[ic] at O L;push_cast[true_and];obtain⟨x1,i,l⟩:=x;obtain⟨k1,k2,k3⟩:=mJ ox;have hw:(d9 iF P w K mg base tw "Web.lay_tie" (ah zh) f cdv A outer s H E).w=w:=rfl;simp only[hw];refine r9 (vd X rfl ⟨_,rfl,_,rfl,_,rfl,ySz 3,t,ts.map T3,rfl,X.ti,good3 ox,(qf X.DK).good,by rw[zbN];lia,?_⟩);show fL.nx _ _ (S.set t (some (nO w (putN (ts.map T3) (T3 (x1,i,l))))));rw[put3 hx];have Y:=X.KU (ts':=ts++[(x1,i,l)]) (by
   refine zbi.mpr ⟨X.tn,by simp,λa ha b hb z=>hx ?_⟩;have:b=(x1,i,l):=by simpa using hb
   rw[<-this,<-z];exact ha) (λZ U=>by
   rcases zbM.mp U with h|h
   ·exact X.DK Z h
   ·have:Z=(x1,i,l):=by simpa using h
    rw[this];exact ox) (λZ U=>by
   rcases zbM.mp U with h|h
   ·exact X.tk Z h
   ·have:Z=(x1,i,l):=by simpa using h
    rw[this];exact⟨O,L⟩) (by rw[zaO];simp;lia)
  generalize e1:S.set t _=S1 at Y;have f1:Fr S S1 (cells n m t e cs) (cells n m t e cs):=by rw[<-e1];exact .set Sl
  obtain⟨c,hc,o,g1,_⟩:=Y.Ew O;have o:c.nm=x1:=o;obtain⟨js,j1,j2,j3,j4,j5⟩:=Y.Hw c hc;have jl:=yP j2 λj I=>o▸(j5 j).mp I;have on_:lX (NY i l)=true:=oq (by decide+kernel) k2 k3;have Ke:lX (vM i x1)=true:=oq (by decide+kernel) k2 k1;simp only[fZ];refine r9 (o7 (J2 Y rfl ⟨_,rfl,_,_,_,_,aV Y.ne,rfl,g1,_,rfl,_,rfl,ySz 3,c.nc,js.map T3,rfl,j1,good3 on_,(qf j4).good,by rw[zbN];omega,?_⟩));show fL.nx _ _ (S1.set c.nc (some (nO w (putN (js.map T3) (T3 (NY i l))))));obtain⟨js',p1,p2,p3,p4⟩:=JK js (NY i l) j2;rw[p1];have W:=Y.near (N':=λy j=>stp ts y j∨(y=x1/\j=(NY i l))) hc p2 (by lia) (λj I=>by
   rcases(p4 j).mp I with h|h
   ·exact j4 j h
   ·rw[h];exact on_) (λj=>(p4 j).trans ⟨λh=>h.imp (j5 j).mp λh=>⟨o,h⟩,λh=>h.imp (j5 j).mpr λh=>h.2⟩) (λy hy j=>⟨.inl,λh=>h.elim id λh=>absurd (h.1.trans o.symm) hy⟩)
  generalize e2:S1.set c.nc _=S2 at W;have f2:Fr S S2 (cells n m t e cs) (cells n m t e cs):=by rw[<-e2];exact f1.trans (.set (IG hc))
  obtain⟨d,hd,u,g2,_⟩:=W.Ew L;have u:d.nm=l:=u;obtain⟨is,i1,i2,i3,i4,i5⟩:=W.Hw d hd;have il:is.length<=899:=by
   by_cases hcd:d.nc=c.nc
   ·have hdc:d=c:=lg (apart X.nd).nn d hd c hc hcd;subst hdc;have:is.length<=js'.length:=L2.kY i2 λj I=>by
     rcases(i5 j).mp I with h|h
     ·exact(p4 j).mpr (.inl ((j5 j).mpr h))
     ·exact(p4 j).mpr (.inr h.2)
    lia
   ·have:=yP (ts:=ts) (x:=l) (js:=is) i2 λj I=>by
     rcases(i5 j).mp I with h|h
     ·exact u▸h
     ·exact absurd (by rw[lg X.kn d hd c hc (h.1.trans o.symm)]) hcd
    lia
  try simp only[fZ]
  refine r9 (o7 (J2 W rfl ⟨_,rfl,_,_,_,_,aV W.ne,rfl,g2,_,rfl,_,rfl,ySz 3,d.nc,is.map T3,rfl,i1,good3 Ke,(qf i4).good,by rw[zbN];lia,?_⟩));show fL.nx _ _ (S2.set d.nc (some (nO w (putN (is.map T3) (T3 (vM i x1))))));obtain⟨is',r1,r2,r3,r4⟩:=JK is (vM i x1) i2;rw[r1];have X3:=W.near (N':=λy j=>(stp ts y j∨(y=x1/\j=(NY i l)))∨(y=l/\j=(vM i x1))) hd r2 (by lia) (λj I=>by
   rcases(r4 j).mp I with h|h
   ·exact i4 j h
   ·rw[h];exact Ke) (λj=>(r4 j).trans ⟨λh=>h.imp (i5 j).mp λh=>⟨u,h⟩,λh=>h.imp (i5 j).mpr λh=>h.2⟩) (λy hy j=>⟨.inl,λh=>h.elim id λh=>absurd (h.1.trans u.symm) hy⟩)
  refine q _ _ ⟨m,t,e,cs,rfl,rfl,X3.O6 λy j=>?_⟩ (f2.trans (.set (IG hd)));exact Gq
def nC(C:Addr)(W:yal):AN:=λi S Q=>∃n x own e a,i=[.loc n,.str x.1,.str x.2.1,.str x.2.2]/\di C W S n own e a/\x.1∈nms e/\x.2.2∈nms e/\x ∉ a/\a.length<300/\lX x=true/\zA C W S n own e (a++[x]) Q
theorem EC(T:Txt K mg ec EP C fi)(F:rg K "put_tie" "Web.put_tie" uh f fd)(a:cX P w K mg base 1 C "need_knot" dj (gk C w))(U:cX P w K mg base 1 C "has_tie" jA (yX C w))(i:cX P w K mg base 1 C "lay_tie" gF (rE C w)):bL P w K mg base iF 2 f fd eK (aN K (nC C w)):=by
 refine NZ F CV (λY S Q h=>?_) (λf Z A outer s H E y=>?_)
 ·obtain⟨n,x,own,L,j,rfl,_⟩:=h;rfl
 ·refine⟨_,(Tr (Uh (Us (Tn 0) T.cl a (y.mono (by decide)) (Tp (Tn 1)))) (Tr (Uh (Us (Tn 0) T.cl a (y.mono (by decide)) (Tp (Tn 3)))) (Tr (T6 (Ux (Us (Tn 0) T.cl U (y.mono (by decide)) (To (Tn 1) (To (Tn 2) (Tp (Tn 3)))))) (Tw UE) T7) (Tr (T6 (TZ UG (TM M.DP T.len (To (Uc (Tn 0) T.cl T.n_tied) Tt)) T.jX (aS _)) (Tw UE) T7) (Tw (Uh (Us (Tn 0) T.cl i (y.mono (by decide)) (To (Tn 1) (To (Tn 2) (Tp (Tn 3))))))))))),λY S Q h=>?_⟩;obtain⟨n,x,own,L,j,rfl,u,o,l,I,O,z,q⟩:=h;obtain⟨m,t,e,cs,rfl,rfl,X⟩:=id u;have W:aL sY [.loc n,.str x.1,.str x.2.1,.str x.2.2]=[some (.loc n),some (.str x.1),some (.str x.2.1),some (.str x.2.2)]:=rfl;rw[W];push_cast[true_and];refine dh rfl X.at_ (by decide+kernel) ⟨_,rfl,n,x.1,_,_,j,rfl,u,o,?_⟩;refine dh rfl X.at_ (by decide+kernel) ⟨_,rfl,n,x.2.2,_,_,j,rfl,u,l,?_⟩;refine dh rfl X.at_ (by decide+kernel) ⟨_,rfl,_,rfl,_,rfl,n,x,_,_,j,rfl,u,z,?_⟩;refine⟨false,by rw[yDf I];rfl,?_⟩;rw[yIn (by decide)];refine vd X rfl ⟨t,j.map T3,rfl,X.ti,by rw[zbN];lia,?_⟩;refine⟨_,_,rfl,rfl,trivial,_,rfl,?_⟩;rw[zbN,yDf (by lia),yIn (by decide)];exact dh rfl X.at_ (by decide+kernel) ⟨_,rfl,_,rfl,_,rfl,n,x,_,_,j,rfl,u,o,l,I,by lia,z,q⟩
theorem MQ(T:Txt K mg ec EP C fi)(F:iZ K C "put_knot" "Web.put_knot" eN uo)(a:cX P w K mg base 1 C "lay_knot" gG (rF C w)):cX P w K mg base 2 C "put_knot" eN (nD C w):=by
 obtain⟨f,fd,F,e,i⟩:=F.ex;exact⟨f,fd,ED T F a,e,i⟩
theorem MP(T:Txt K mg ec EP C fi)(F:iZ K C "put_tie" "Web.put_tie" eK uh)(a:cX P w K mg base 1 C "need_knot" dj (gk C w))(l:cX P w K mg base 1 C "has_tie" jA (yX C w))(e:cX P w K mg base 1 C "lay_tie" gF (rE C w)):cX P w K mg base 2 C "put_tie" eK (nC C w):=by
 obtain⟨f,fd,F,i,j⟩:=F.ex;exact⟨f,fd,EC T F a l e,i,j⟩
theorem HK{a:List Kc}(i:(oE a).Nodup){c:Kc}(l:c∈a){k:Kn}(j:k∈a.map Kc.kn)(e:k.1=c.nm):k=c.kn:=by
 obtain⟨d,hd,rfl⟩:=zcE.mp j;rw[lg i d hd c l e]
end
open PySem PySem.Spec L2 M M6 PyProof.Rows
noncomputable abbrev xm:Stmt:=inClass (top 24) 7
noncomputable abbrev wo:List Str:=["self"]
noncomputable abbrev iD:=wo
theorem GC:aE wo iD (ah xm):=L2.cL
noncomputable abbrev w9:Stmt:=inClass (top 24) 8
noncomputable abbrev we:List Str:=["self","knot"]
noncomputable abbrev iA:=we
theorem Gz:aE we iA (ah w9):=L2.cL
noncomputable abbrev wY:Stmt:=inClass (top 24) 11
noncomputable abbrev vZ:List Str:=["self","knots"]
noncomputable abbrev iy:=vZ.take 1
theorem zd:aE vZ iy (ah wY):=L2.cL
noncomputable def ja(l:List Str):List Str:=open Classical in if h:∃s:List Str,s.Perm l/\sortedS s=true then h.choose else []
theorem rD{s:List Str}(i:l.Nodup)(e:s.Perm l)(a:sortedS s=true):s=ja l:=by
 have h:∃s:List Str,s.Perm l/\sortedS s=true:=⟨s,e,a⟩
 unfold ja;rw[dif_pos h];exact Gr i e h.choose_spec.1 a h.choose_spec.2
noncomputable def wN(l:List Ti):List Ti:=open Classical in if h:∃s:List Ti,s.Perm l/\Js (s.map T3) then h.choose else []
theorem yQ{l s:List Ti}(i:l.Nodup)(a:s.Perm l)(e:Js (s.map T3)):s=wN l:=by
 have h:∃s:List Ti,s.Perm l/\Js (s.map T3):=⟨s,a,e⟩
 unfold wN;rw[dif_pos h];exact yI (a.nodup_iff.mpr i) e h.choose_spec.2 (h.choose_spec.1.trans a.symm)
noncomputable def dI(ks:List Kn)(x:Str):List Str:=((ks.find? λk=>decide (k.1=x)).map (·.2)).getD []
theorem iP{x:Str}:∀{ks:List Kn},x∈nms ks->(x,dI ks x)∈ks
 |[],h=>by simp at h
 |k::ks,h=>by
  unfold dI;rw[zbR];by_cases e:k.1=x
  ·rw[yDt e];subst e;exact zaN ..
  ·rw[yDf e];rcases zcn.mp (show x∈k.1::nms ks from h) with z|z
   ·exact absurd z.symm e
   ·exact zaA _ (iP (ks:=ks) z)
noncomputable def AV(ks:List Kn)(x:Str):D:=.tup [.str x,.tup ((ja (dI ks x)).map D.str)]
noncomputable def nI(ks:List Kn)(ts:List Ti):D:=.tup [.tup ((ja (nms ks)).map (AV ks)),.tup ((wN ts).map T3)]
theorem Ae{i:AI}{g:AG}{t:AT}{e:AE}{Q:AK}(h:i δ S λds P l=>cK P g t e ds [] (fW caps δ) l λa j=>Q (.new (.lst a)) j):dS caps i g t e δ S Q:=h
theorem Fg{t:AE}{Q:List D->(aD->Prop)->aD->Prop}(h:t δ S λr a=>u7 a Q r.d):oV t δ S Q:=h
section
variable {w:yal}{EP:Addr}
def yW(C:Addr)(W:yal):AN:=λi S Q=>∃n own a e,i=[.loc n]/\di C W S n own a e/\((ja (nms a)).Perm (nms a)->Q (.new (.lst ((ja (nms a)).map D.str))) S)
theorem Iu(T:Txt K mg ec EP C fi)(F:iZ K C "knots" "Web.knots" iD xm):cX P w K mg base 1 C "knots" iD (yW C w):=by
 refine qP F GC (λz S Q h=>?_) (λf I A outer s H E u=>?_)
 ·obtain⟨n,own,l,j,rfl,_⟩:=h;rfl
 ·refine⟨_,(Tw (TL (TM (M.uI u) T.sorted (To (Uc (Tn 0) T.cl T.cP) Tt)))),λz S Q h=>?_⟩;obtain⟨n,own,l,j,rfl,⟨m,t,e,i,rfl,rfl,X⟩,q⟩:=h;have y:aL wo [.loc n]=[some (.loc n)]:=rfl;rw[y];rw[ic] at q;push_cast[true_and];refine kc X rfl ⟨_,i.map (λc=>.loc c.mc),oE i,rfl,?_,by unfold oE;rw[zbN];exact X.kb,λL a o=>?_⟩
  ·rw[cB,aV X.B7];show D.dct _ _=_;unfold kk oE;rw[zcF];rfl
  ·have e:=rD X.kn a o;subst e;exact q a
def yT(C:Addr)(W:yal):AN:=λi S Q=>∃n own a e k,i=[.loc n,.str k.1]/\di C W S n own a e/\k∈a/\((ja k.2).Perm k.2->Q (.new (.lst ((ja k.2).map D.str))) S)
theorem Ip(T:Txt K mg ec EP C fi)(F:iZ K C "marks" "Web.marks" iA w9)(a:cX P w K mg base 1 C "need_knot" dj (gk C w)):cX P w K mg base 2 C "marks" iA (yT C w):=by
 refine qP F Gz (λds S Q h=>?_) (λf cdv A outer s H E o=>?_)
 ·obtain⟨n,own,O,y,k,rfl,_⟩:=h;rfl
 ·refine⟨_,(Tr (Uh (Us (Tn 0) T.cl a (o.mono (by decide)) (Tp (Tn 1)))) (Tw (TL (TM (M.uI o) T.sorted (To (M.oj (j6 o) (Uc (Tn 0) T.cl T.cP) (Tn 1) (λ_ _=>rfl)) Tt))))),λds S Q h=>?_⟩;obtain⟨n,own,O,y,x,rfl,L,z,q⟩:=h;obtain⟨m,t,e,cs,rfl,rfl,X⟩:=id L;have Z:aL we [.loc n,.str x.1]=[some (.loc n),some (.str x.1)]:=rfl;rw[Z];push_cast[true_and];have j:x.1∈nms (cs.map Kc.kn):=zcE.mpr ⟨x,z,rfl⟩;have i:=j;rw[ic] at i;obtain⟨c,l,u,_,Y⟩:=X.Ew i;have ex:=HK X.kn l z u.symm;subst ex;have W:=X.Gb c l;refine dh rfl X.at_ (by decide+kernel) ⟨_,rfl,n,c.nm,_,_,y,rfl,L,j,?_⟩;refine o7 (kc X rfl ⟨_,rfl,_,_,_,_,aV X.B7,rfl,Y,⟨_,c.ml.map (λ_=>.bl true),c.ml,rfl,by rw[cB,aV W];rfl,X.mb c l,λss I U=>?_⟩⟩);have e:=rD (X.mn c l) I U;subst e;exact q I
def yS(C:Addr)(W:yal):AN:=λi S Q=>∃n own a e,i=[.loc n]/\di C W S n own a e/\
 ((ja (nms a)).Perm (nms a)->(wN e).Perm e->(∀x∈nms a,(ja (dI a x)).Perm (dI a x))->Q (.dat (nI a e)) S)
theorem Ii(T:Txt K mg ec EP C fi)(F:iZ K C "rows" "Web.rows" iy wY)(tK:cX P w K mg base 1 C "knots" iD (yW C w))(tH:cX P w K mg base 2 C "marks" iA (yT C w)):cX P w K mg base 3 C "rows" iy (yS C w):=by
 refine qP F zd (λds S Q h=>?_) (λf cdv A outer s H E L=>?_)
 ·obtain⟨n,own,a,z,rfl,_⟩:=h;rfl
 ·refine⟨_,(Tr (M.cU (i:=1) zd.nd rfl rfl (N:=["name","self"]) (caps:=[none,some 0]) (lT (by decide+kernel)) (by rfl) (by rfl) rfl (Uq (M.jS (Tn 0) T.cl tK (L.mono (by decide)))) (λ_ _ _ _=>(UB (i:=0) (by decide+kernel:List.Nodup (["name","self"]:List Str)) rfl (Or.inl rfl))) (λ_ _ _ _=>Uj) (λ_ _ _ _=>(T8 (To (Tn 0) (To (Uo Uy T.tuple (To (Us (Tn 1) T.cl tH (L.mono (by decide)) (Tp (Tn 0))) Tt)) Tt))))) (Tw (TL (T8 (To (Uo Uy T.tuple (Tp (Tn 1))) (To (Uo Uy T.tuple (To (TM (M.DN L) T.sorted (To (Uc (Tn 0) T.cl T.n_tied) Tt)) Tt)) Tt)))))),λds S Q h=>?_⟩;obtain⟨n,own,a,z,rfl,U,q⟩:=h;have Y:z.length<=1000:=by obtain⟨_,_,_,_,_,_,X⟩:=id U;have:=X.tb;lia
  obtain⟨m,t,e,cs,ro,rk,X⟩:=id U;have e0:aL vZ [.loc n]=[some (.loc n),none]:=rfl;rw[e0];push_cast[true_and];have hkl:a.length<64:=by rw[<-rk,zbN];exact X.kb
  refine Ae (Fg (dh rfl X.at_ (by decide+kernel) ?_));refine⟨n,own,a,z,rfl,U,λO=>?_⟩;show cK (λ_=>True) (bg 0) gM _ ((ja (nms a)).map D.str) [] [none,some (.loc n)] S _;have Z:(ja (nms a)).length=a.length:=by rw[O.length_eq,zbN]
  refine mZ (λrest u W S'=>∃(done j:List Str)(v:Option D),rest=j.map D.str/\done++j=ja (nms a)/\u=done.map (AV a)/\W=[v,some (.loc n)]/\S'=S/\∀x∈done,(ja (dI a x)).Perm (dI a x)) ?_ ?_ _ _ _ _ ⟨[],_,none,rfl,rfl,rfl,rfl,rfl,by simp⟩
  ·rintro u W S' ⟨done,j,v,o,y,rfl,rfl,rfl,hd⟩;have:j=[]:=by cases j with|nil=>rfl|cons _ _=>simp at o
   subst this;rw[zbO] at y;subst y;refine⟨trivial,?_⟩;refine⟨_,rfl,?_⟩;refine vd X rfl ⟨t,z.map T3,rfl,X.ti,qf X.DK,by rw[zbN];exact Y,λks' hp' hu=>?_⟩;obtain⟨us,I,rfl⟩:=Ci hp';have e:=yQ X.tn I hu;subst e;refine⟨_,rfl,ySz 2,?_⟩;exact q O I λx l=>hd x (O.mem_iff.mpr l)
  ·rintro x xs u W S' N ⟨done,j,v,o,y,rfl,rfl,rfl,hd⟩ hN;cases j with
   |nil=>simp at o
   |cons r j=>
    rw[zco] at o;injection o with o e3;subst o;subst e3;have L:r∈nms a:=O.mem_iff.mp (by rw[<-y];simp);refine⟨trivial,?_⟩;simp only[bg,gM,if_true,IM,fH,aCall,jx,zaU];refine⟨_,rfl,dh (i:=1) rfl X.at_ (by decide+kernel) ⟨_,rfl,n,own,a,z,(r,dI a r),rfl,U,iP L,λhpm=>?_⟩⟩;refine⟨_,rfl,ySz 2,?_,?_⟩
    ·have:=congrArg zcR y;rw[zaO,Z] at this;rw[zbN,yag];lia
    ·refine hN _ _ _ ⟨done++[r],j,_,rfl,by rw[<-y];simp,by rw[zbU];rfl,rfl,rfl,λx l=>?_⟩;rcases zbM.mp l with l|l
     ·exact hd x l
     ·have:x=r:=by simpa using l
      subst this;exact hpm
end
open PySem PySem.Spec L2 M M6 PyProof.Rows
noncomputable abbrev Aq:List Str:=["_law_feed_here","_law_names_here","_law_most","_law_knots","_law_k","_law_marks","_law_ties","_law_one","_law_word","_law_tie"]
noncomputable abbrev kI:=Aq.take 3
theorem gq:aE Aq kI (ah (top 36)):=L2.cL
structure Tm(n m:Nat)(d:D):Prop where
 th:tL n d=true
 sh:pZ (py d)
 wt:L2.wt (py d)<=m
theorem Rc{n m:Nat}:∀{es:List D},(∀e∈es,Tm n m e)->es.all (tL n)=true/\cN (dY es)/\gO (dY es)<=es.length*(m+2)
 |[],_=>⟨rfl,by simp[dY,cN],by simp[dY,gO]⟩
 |e::es,h=>by
  obtain⟨a,b,c⟩:=Rc (es:=es) λx j=>h x (by simp[j]);have i:=h e (by simp);refine⟨by simp[i.th];simpa using a,by simp only[dY,cN];exact⟨i.sh,b⟩,?_⟩;have:=i.wt;simp only[dY,gO,zbu];rw[Nat.succ_mul];lia
theorem Tm.tup{l:Nat}{es:List D}(h:∀e∈es,Tm n m e)(j:es.length<=l)(i:autoParam (l<=100) r1):Tm (n+1) (l*(m+2)+3) (.tup es):=by
 obtain⟨a,b,c⟩:=Rc h;refine⟨by simp only[tL,zbH];exact⟨yDt (by lia),a⟩,by simpa[py,pZ] using b,?_⟩;have:es.length*(m+2)<=l*(m+2):=Nat.mul_le_mul_right _ j;simp only[py,L2.wt];lia
theorem Tm.lst{l:Nat}{es:List D}(h:∀e∈es,Tm n m e)(j:es.length<=l)(i:autoParam (l<=100) r1):Tm (n+1) (l*(m+2)+3) (.lst es):=by
 obtain⟨a,b,c⟩:=Rc h;refine⟨by simp only[tL,zbH];exact⟨yDt (by lia),a⟩,by simpa[py,pZ] using b,?_⟩;have:es.length*(m+2)<=l*(m+2):=Nat.mul_le_mul_right _ j;simp only[py,L2.wt];lia
theorem Tm.asc(e:y.length<=20)(h:KH y):Tm 0 202 (.str y):=by
 refine⟨?_,?_,?_⟩
 ·show gf y=true;unfold gf;rw[zbH];exact⟨zby.mpr λc a=>yDt (h c a),yDt (by lia)⟩
 ·simp only[py,pZ];exact KH.ok h
 ·simp only[py,L2.wt];lia
theorem Tm.name(h:Nm y):Tm 0 202 (.str y):=.asc (by have:=h.2.1;lia) h.asc
theorem bI{p:Nat}{m:Int}{Q:AK}(i:S[p]? =some (some (.feed n)))(e:n<1000)(j:0<m)(h1:m<1000)(k:∀z:Nat,(z:Int)<m->Q (.dat (.int z)) (S.set p (some (.feed (n+1))))):gj [.loc p,.int m] S Q:=
 ⟨p,m,n,rfl,i,e,j,h1,λz l a=>by
  obtain⟨y,rfl⟩:∃y:Nat,z=y:=⟨z.toNat,by lia⟩
  exact k y a⟩
theorem Kh{z:Nat}(h:z<ds.length):∃e,ji ds (z:Int)=some e/\e∈ds:=⟨ds[z],bU (zal h),zbB h⟩
theorem jY(h:Nm y):gf y=true:=by
 unfold gf;rw[zbH];exact⟨zby.mpr λc a=>yDt (h.asc c a),yDt (by have:=h.2.1;lia)⟩
theorem xQ{i:Int}{Q:AK}:sU (.tup ds) (.int i) S Q=∃e,ji ds i=some e/\Q (.dat e) S:=rfl
theorem pick{z:Nat}{Q:AK}(h:z<ds.length)(k:∀e∈ds,Q (.dat e) S):sU (.lst ds) (.int z) S Q:=by
 obtain⟨e,h1,h2⟩:=Kh h;exact⟨e,h1,k e h2⟩
theorem Di{X:aD}{p:Nat}{d:D}{Q:AK}(h:bY d=true)(q:Q (.dat d) (S.set p (some (.feed n)))):ret S (S.set p (some (.feed n))++X) (.dat d) Q:=by
 refine⟨_,mH h,λk o i e=>?_,?_⟩
 ·rw[zaf (by rw[zbV];exact i)] at e;by_cases a:p=k
  ·subst a;rw[zbh,yIp rfl,yIp i] at e;have e:MO.feed n=o:=by simpa using e
   subst e;exact .inr rfl
  ·rw[zaC a] at e;exact .inl e
 ·have:(S.set p (some (.feed n))++X).take S.length=S.set p (some (.feed n)):=by
   rw[show S.length=(S.set p (some (MO.feed n))).length by rw[zbV]];exact List.take_left' rfl
  rw[this];exact q
noncomputable def tM(k:Kn):D:=.tup [.str k.1,.lst (k.2.map D.str)]
noncomputable def kR(ks:List Kn)(ts:List Ti):D:=.tup [.lst (ks.map tM),.lst (ts.map T3)]
def tE(A B M:List Str)(x:D):Prop:=x=.lst [.lst (A.map D.str),.lst (B.map D.str),.lst ((M.take 5).map D.str),.lst (M.map D.str)]/\A.length=8/\B.length=3/\M.length=7/\(∀y∈A,Nm y)/\(∀y∈B,Nm y)/\∀y∈M,Nm y
structure RW(ks:List Kn)(ts:List Ti):Prop where
 nm:∀k∈ks,Nm k.1/\k.2.length<=5/\∀m∈k.2,Nm m
 tn:∀t∈ts,Nm t.1/\Nm t.2.1/\Nm t.2.2
structure RO(ks:List Kn)(ts:List Ti):Prop where
 kl:ks.length<=62
 nd:(nms ks).Nodup
 nm:∀k∈ks,Nm k.1/\k.2.length<=5/\k.2.Nodup/\∀m∈k.2,Nm m
 tn:ts.Nodup
 tl:ts.length<=302
 tk:∀t∈ts,t.1∈nms ks/\t.2.2∈nms ks/\Nm t.2.1
theorem eW{B X:aD}{L:Nat}(h:L=B.length+i):(B++X)[L]? =X[i]?:=by
 rw[h,zab (by simp)];congr 1;simp
theorem jk{B X:aD}{L:Nat}(h:L=B.length+i):(B++X).set L o=B++X.set i o:=by
 rw[h,List.set_append,yIn (by simp)];congr 2;lia
theorem gi{X:aD}{p:Nat}{a b:Option MO}(e:p<S.length):(S.set p a++X).set p b=S.set p b++X:=by
 rw[List.set_append,yIp (by rw[zbV];exact e),zcD]
theorem nk{X:aD}{p:Nat}{b:Option MO}(a:p<S.length):(S++X).set p b=S.set p b++X:=by
 rw[List.set_append,yIp a]
theorem tW{X:aD}{p:Nat}(h:S[p]? =some o):(S.set p (some (.feed n))++X)[p]? =some (some (.feed n)):=cW (bE h)
theorem jH{x:D}{xs:List D}(h:x::xs=(cC 0 m).drop j):j<m/\x=.int (j:Int)/\xs=(cC 0 m).drop (j+1):=by
 have a:j<(cC 0 m).length:=by
  rcases zcJ j (cC 0 m).length with z|z
  ·exact z
  ·rw[zao z] at h;cases h
 rw[zag a] at h;injection h with h1 h2;have e:j<m:=by simpa[cC] using a
 refine⟨e,?_,h2⟩;rw[h1];simp[cC]
theorem eu(m:Nat):(cC 0 m).length=m:=by simp[cC]
theorem Ng(h:j<l.length):ji (l.map D.str) (j:Int)=some (.str l[j]):=bU (by simp[h])
theorem xR{x:D}{z:Nat}{Q:AK}(h:bq S x=.lst ds)(hz:z<ds.length)(k:∀e∈ds,Q (.dat e) S):sU x (.int z) S Q:=by
 obtain⟨e,h1,h2⟩:=Kh hz;unfold sU;rw[h];exact⟨e,h1,k e h2⟩
theorem Ao{t:Ti}(h1:Tm 0 202 (.str t.1))(h2:Tm 0 202 (.str t.2.1))(a:Tm 0 202 (.str t.2.2)):Tm 1 615 (T3 t):=by
 refine Tm.tup (l:=3) (m:=202) ?_ (by simp);simp only[zcn,zbC,or_false];rintro e (rfl|rfl|rfl)<;>assumption
theorem Eo{t:Ti}{ts:List Ti}(e:lX t=true)(a:∀u∈ts,lX u=true):inD (T3 t) (ts.map T3)=decide (t∈ts):=by
 unfold inD;rw[zcC];by_cases h:t∈ts
 ·rw[yDt h];refine zbG.mpr ⟨t,h,?_⟩;show PyData.eqv _ _=true;rw[iQ _ _ (good3 e).2.1 (good3 e).2.1];simp
 ·rw[yDf h];refine zbd.mpr λu i z=>h ?_;have z:PyData.eqv (py (T3 u)) (py (T3 t))=true:=z;rw[iQ _ _ (good3 (a u i)).2.1 (good3 e).2.1] at z;rw[<-nU (of_decide_eq_true z)];exact i
theorem RO.DK{ks:List Kn}{ts:List Ti}(h:RO ks ts):∀t∈ts,lX t=true:=λt l=>by
 obtain⟨h1,h2,m⟩:=h.tk t l;obtain⟨j,e,o⟩:=zcE.mp h1;obtain⟨i,a,n⟩:=zcE.mp h2;unfold lX;rw[<-o,<-n,jY (h.nm j e).1,jY (h.nm i a).1,jY m];rfl
theorem RO.t3{ks:List Kn}{ts:List Ti}(h:RO ks ts):∀t∈ts,Tm 1 615 (T3 t):=λt l=>by
 obtain⟨h1,h2,m⟩:=h.tk t l;obtain⟨j,e,o⟩:=zcE.mp h1;obtain⟨i,a,n⟩:=zcE.mp h2;exact Ao (by rw[<-o];exact .name (h.nm j e).1) (.name m) (by rw[<-n];exact .name (h.nm i a).1)
theorem RO.bY{ks:List Kn}{ts:List Ti}:Ui (kR ks ts)=true:=by
 have e:∀l:List Str,bQ (l.map D.str)=true:=λl=>by induction l with|nil=>rfl|cons x l ih=>simp only[zco,bQ,Ui,zbH];exact⟨trivial,ih⟩
 have a:bQ (ks.map tM)=true:=by
  induction ks with
  |nil=>rfl
  |cons k ks ih=>simp only[zco,bQ,zbH];exact⟨by simp[tM,Ui,bQ,e],ih⟩
 have p3:bQ (ts.map T3)=true:=by
  induction ts with
  |nil=>rfl
  |cons k ks ih=>simp only[zco,bQ,zbH];exact⟨by simp[T3,Ui,bQ],ih⟩
 simp[kR,Ui,bQ,a,p3]
section
variable {w:yal}{EP:Addr}
def CH:AN:=λj S Q=>∃(p n:Nat)(A B M:List Str)(x:D),j=[.loc p,x,.int 5]/\tE A B M x/\S[p]? =some (some (.feed n))/\n+150<1000/\∀(a:List Kn)(e:List Ti)(i:Nat),RW a e->1<=a.length->a.length<=8->e.length<=23->i<=n+150->Q (.dat (kR a e)) (S.set p (some (.feed i)))
theorem MM(T:Txt K mg ec EP C fi)(F:Src K mg "_law_rows" kI (top 36))(u:Def P w K mg base 1 "_law_next" dM (aN K gj)):Def P w K mg base 2 "_law_rows" kI (aN K CH):=by
 refine l5 F gq (λds S Q h=>?_) (λf cdv A outer s H E hr=>?_)
 ·obtain⟨p,n,A,B,M,x,rfl,_⟩:=h;rfl
 ·refine⟨_,(Tr (TF 3 gq.nd (Ug (T5 Tt))) (Tr (Uu PassesOwn.never rfl (Ut (by rfl) T.range (To (Tz TH Tu (TJ u hr (To (Tn 0) (Tp (Tn 2))))) Tt)) (Ul 4 gq.nd) (Tr (M.cU (i:=5) gq.nd rfl rfl (N:=["_law_mark","_law_feed_here"]) (caps:=[none,some 0]) (lT (by decide+kernel)) (by rfl) (by rfl) rfl (Uq (TR (Tn 1))) (λ_ _ _ _=>(UB (i:=0) (by decide+kernel:List.Nodup (["_law_mark","_law_feed_here"]:List Str)) rfl (Or.inl rfl))) (λ_ _ _ _=>(M.rV (TZ (Ua hr) (TJ u hr (To (Tn 1) (Tp Tu))) Tu (aS _)))) (λ_ _ _ _=>(Tn 0))) (Tw (Uh (Ud PySem.F.plainAttrs_list PySem.F.slot_list_append PySem.F.type_list_append UC (Tn 3) (To (T8 (To (Ub (TR (Tn 1)) (Tn 4)) (Tp (Tn 5)))) Tt)))))) (Tr (TF 6 gq.nd (Ug (T5 Tt))) (Tr (Uu PassesOwn.never rfl (Ut (by rfl) T.range (To (TJ u hr (To (Tn 0) (To (Tz M.JP Tu (Tn 2)) Tt))) Tt)) (Ul 4 gq.nd) (Tr (TF 7 gq.nd (TR (Ub (Tn 3) (TJ u hr (To (Tn 0) (To (TM T9 T.len (Tp (Tn 3))) Tt)))))) (Tr (TF 8 gq.nd (Ub (TR (Tn 1)) (TJ u hr (To (Tn 0) (To (TM T9 T.len (To (TR (Tn 1)) Tt)) Tt))))) (Tr (TF 9 gq.nd (T8 (To (Tn 7) (To (Tn 8) (To (TR (Ub (Tn 3) (TJ u hr (To (Tn 0) (To (TM T9 T.len (Tp (Tn 3))) Tt))))) Tt))))) (Tw (T6 (TZ (M.zD hr) (Tn 9) (Tn 6) rfl) (Tw (Uh (Ud PySem.F.plainAttrs_list PySem.F.slot_list_append PySem.F.type_list_append UC (Tn 6) (Tp (Tn 9))))) T7)))))) (Tw (TL (M.S7 (M.S7 (T8 (To (Tn 3) (Tp (Tn 6)))))))))))),λds S Q h=>?_⟩;obtain⟨p,n,NA,NB,N8,x,rfl,⟨rfl,lA,lB,l8,nA,nB,n8⟩,hp,hn,q⟩:=h;have lM:(N8.take 5).length=5:=by rw[zbv,l8];rfl
  have nM:∀y∈N8.take 5,Nm y:=λy h=>n8 y (zaE h);generalize N8.take 5=NM at lM nM⊢;have e0:aL Aq [.loc p,.lst [.lst (NA.map D.str),.lst (NB.map D.str),.lst (NM.map D.str),.lst (N8.map D.str)],.int 5]=[some (.loc p),some (.lst [.lst (NA.map D.str),.lst (NB.map D.str),.lst (NM.map D.str),.lst (N8.map D.str)]),some (.int 5),none,none,none,none,none,none,none]:=rfl;rw[e0];generalize hXN:D.lst [D.lst (NA.map D.str),D.lst (NB.map D.str),D.lst (NM.map D.str),.lst (N8.map D.str)]=XN;have x00:∀{S:aD}{Q:AK},Q (.dat (.lst (NA.map D.str))) S->sU XN (.int 0) S Q:=λ{S Q} q'=>by rw[<-hXN];exact⟨_,rfl,q'⟩
  have x01:∀{S:aD}{Q:AK},Q (.dat (.lst (NB.map D.str))) S->sU XN (.int 1) S Q:=λ{S Q} q'=>by rw[<-hXN];exact⟨_,rfl,q'⟩
  have x02:∀{S:aD}{Q:AK},Q (.dat (.lst (NM.map D.str))) S->sU XN (.int 2) S Q:=λ{S Q} q'=>by rw[<-hXN];exact⟨_,rfl,q'⟩
  have pl:=fu hp;push_cast[dF,kG,l0];refine⟨zcT _,bI (cW hp) (by lia) (by decide) (by decide) λz hz=>?_⟩;refine⟨1+(z:Int),rfl,by lia,by lia,?_⟩;rw[nk pl,show(1+(z:Int)).toNat=z+1 by lia];refine dJ (λrest Z S'=>∃(j:Nat)(I:List Kn)(n2:Nat)(v4 v5:Option D),rest=(cC 0 (z+1)).drop j/\j<=z+1/\Z=[some (.loc p),some XN,some (.int 5),some (.loc S.length),v4,v5,none,none,none,none]/\S'=S.set p (some (.feed n2))++[some (.lst (I.map tM))]/\I.length=j/\(∀k∈I,Nm k.1/\k.2.length<=5/\∀m∈k.2,Nm m)/\n2<=n+1+5*j) ?_ ?_ _ _ _ ⟨0,[],n+1,none,none,rfl,zcT _,rfl,rfl,rfl,by simp,by simp⟩
  ·rintro Z S' ⟨j,I,n2,v4,v5,hd,hj,rfl,rfl,hkl,L,hn2⟩;refine⟨trivial,?_⟩;have hj:j=z+1:=by
    have:=congrArg zcR hd;rw[zbw,eu] at this;simp at this;lia
   subst hj;have ab:0<I.length:=by lia
   have hk8:I.length<=8:=by lia
   have kl:(S.set p (some (.feed n2))++[some (MO.lst (I.map tM))]).length=S.length+1:=by rw[zaO,zbV];rfl
   push_cast[dF,kG,l0,kl];refine⟨zcT _,.inl ⟨by decide,by decide⟩,?_⟩;rw[zbg];refine bI (m:=15) (tW hp) (by lia) (by decide) (by decide) λz2 hz2=>?_;rw[gi pl];refine⟨(z2:Int),rfl,by simp,by lia,?_⟩;rw[show(z2:Int).toNat=z2 by simp];refine dJ (λrest Z S'=>∃(O:List Ti)(U:Nat)(v4 v7 v8 v9:Option D),(∀e∈rest,∃i:Int,e=.int i)/\Z=[some (.loc p),some XN,some (.int 5),some (.loc S.length),v4,v5,some (.loc (S.length+1)),v7,v8,v9]/\S'=S.set p (some (.feed U))++[some (.lst (I.map tM)),some (.lst (O.map T3))]/\O.length+rest.length<=23/\(∀t∈O,Nm t.1/\Nm t.2.1/\Nm t.2.2)/\U+3*rest.length<=n+140) ?_ ?_ _ _ _ ⟨[],n2+1,_,none,none,none,λe he=>?_,rfl,rfl,by rw[eu];simp;lia,by simp,by rw[eu];lia⟩
   ·rintro Z S' ⟨O,U,v4,v7,v8,v9,_,rfl,rfl,tl,tk,X⟩;refine⟨trivial,?_⟩;push_cast[Nt];have Rf:O.length<=23:=by simpa using tl
    refine⟨ySz 2,S.length,I.map tM,_,rfl,eW (i:=0) (by rw[zbV];rfl),S.length+1,O.map T3,_,rfl,?_,?_⟩
    ·rw[zaC (by simp)];exact eW (i:=1) (by rw[zbV])
    ·rw[jk (i:=0) (by rw[zbV];rfl),jk (i:=1) (by rw[zbV])];have ev:(([D.loc S.length,D.loc (S.length+1)].map (sb S.length (.lst (I.map tM)))).map (sb (S.length+1) (.lst (O.map T3))))=[.lst (I.map tM),.lst (O.map T3)]:=by
      simp[sb]
     rw[ev];exact Di RO.bY (q I O U ⟨L,tk⟩ (by assumption) hk8 Rf (by lia))
   ·rintro x xs Z S' N ⟨O,U,v4,v7,v8,v9,hx,rfl,rfl,tl,tk,X⟩ hN;obtain⟨i,rfl⟩:=hx x (by simp);refine⟨trivial,?_⟩;have e3:∀m,bq (S.set p (some (.feed m))++[some (MO.lst (I.map tM)),some (.lst (O.map T3))]) (.loc S.length)=.lst (I.map tM):=λm=>(aV (o:=.lst (I.map tM)) (eW (i:=0) (by rw[zbV];rfl)))
    have e4:∀m,bq (S.set p (some (.feed m))++[some (MO.lst (I.map tM)),some (.lst (O.map T3))]) (.loc (S.length+1))=.lst (O.map T3):=λm=>(aV (o:=.lst (O.map T3)) (eW (i:=1) (by rw[zbV])))
    push_cast[e3];simp only[zbu] at tl X;refine⟨I.length,by show some _=_;rw[zbN],?_⟩;refine bI (tW hp) (by lia) (by lia) (by lia) λa ha=>?_;rw[gi pl];refine xR (e3 _) (by rw[zbN];lia) (λy hy=>?_);obtain⟨k,hk,rfl⟩:=zcE.mp hy;refine⟨.str k.1,rfl,x01 (x01 ⟨3,by show some _=_;rw[zbN,lB],?_⟩)⟩;refine bI (tW hp) (by lia) (by decide) (by decide) λb hb=>?_;rw[gi pl];refine pick (by rw[zbN,lB];lia) (λy hy=>?_);obtain⟨v,hv,rfl⟩:=zcE.mp hy;refine⟨I.length,by rw[e3];show some _=_;rw[zbN],?_⟩;refine bI (tW hp) (by lia) (by lia) (by lia) λc hc=>?_;rw[gi pl];refine xR (e3 _) (by rw[zbN];lia) (λy hy=>?_);obtain⟨k',hk',rfl⟩:=zcE.mp hy;refine⟨.str k'.1,rfl,ySz 3,?_⟩;have t1:Tm 1 615 (T3 (k.1,v,k'.1)):=Ao (.name (L k hk).1) (.name (nB v hv)) (.name (L k' hk').1);have ot:lX (k.1,v,k'.1)=true:=by unfold lX;rw[jY (L k hk).1,jY (nB v hv),jY (L k' hk').1];rfl
    have tts:Tm 2 14194 (.lst (O.map T3)):=Tm.lst (n:=1) (l:=23) (m:=615) (λe he=>by obtain⟨t,W,rfl⟩:=zcE.mp he;exact Ao (.name (tk t W).1) (.name (tk t W).2.1) (.name (tk t W).2.2)) (by rw[zbN];lia);show Fw true (T3 (k.1,v,k'.1)) _ _ _;unfold Fw;rw[e4];refine⟨rA t1.th (by decide),rA tts.th (by decide),_,rfl,?_⟩;rw[show bq _ (T3 (k.1,v,k'.1))=T3 (k.1,v,k'.1) from rfl,Eo ot λt W=>by unfold lX;rw[jY (tk t W).1,jY (tk t W).2.1,jY (tk t W).2.2];rfl];by_cases hin:(k.1,v,k'.1)∈O
    ·rw[yDt hin,yIn (by decide)];exact hN _ _ ⟨O,_,_,_,_,_,λe he=>hx e (zaA _ he),rfl,rfl,by lia,tk,by lia⟩
    ·rw[yDf hin,yIp (by decide)];push_cast[tN,e4,xS,true_and];refine⟨_,_,_,rfl,rfl,eW (i:=1) (by rw[zbV]),by rw[zbN,yag];lia,?_⟩;rw[jk (i:=1) (by rw[zbV])];refine hN _ _ ⟨O++[(k.1,v,k'.1)],_,_,_,_,_,λe he=>hx e (zaA _ he),rfl,by rw[zbU];rfl,by rw[zaO];simp;lia,λt W=>?_,by lia⟩;rcases zbM.mp W with W|W
     ·exact tk t W
     ·rw[zaS.mp W];exact⟨(L k hk).1,nB v hv,(L k' hk').1⟩
   ·unfold cC at he;rw[zcE] at he;obtain⟨i,_,rfl⟩:=he;exact⟨_,rfl⟩
  ·rintro x xs Z S' N ⟨j,I,n2,v4,v5,hd,hj,rfl,rfl,hkl,L,hn2⟩ hN;obtain⟨hj2,rfl,rfl⟩:=jH hd;refine⟨trivial,?_⟩;push_cast[dS,oV];refine x02 ?_;show cK (λ_=>True) (bg 0) _ (cQ 0) (NM.map D.str) [] [none,some (.loc p)] _ _;refine mZ (λrest acc Z S''=>∃(ms Y:List Str)(U:Nat)(v0:Option D),rest=Y.map D.str/\acc=ms.map D.str/\Z=[v0,some (.loc p)]/\S''=S.set p (some (.feed U))++[some (.lst (I.map tM))]/\ms.length+Y.length<=5/\(∀m∈ms,Nm m)/\(∀m∈Y,Nm m)/\U+Y.length<=n2+5) ?_ ?_ _ _ _ _ ⟨[],NM,n2,none,rfl,rfl,rfl,rfl,by simp[lM],by simp,nM,by lia⟩
   ·rintro acc Z S'' ⟨ms,Y,U,v0,e1,rfl,rfl,rfl,hl,hm,_,X⟩;have:Y=[]:=by cases Y with|nil=>rfl|cons _ _=>simp at e1
    subst this;refine⟨trivial,?_⟩;have e3:(S.set p (some (.feed U))++[some (MO.lst (I.map tM))])[S.length]? =some (some (.lst (I.map tM))):=eW (i:=0) (by rw[zbV];rfl);push_cast[tN,aV e3,xS,true_and];have hjA:j<NA.length:=by lia
    refine x00 ⟨_,Ng hjA,ySz 2,_,_,_,rfl,rfl,e3,by rw[zbN,yag];lia,?_⟩;rw[jk (i:=0) (by rw[zbV];rfl)];refine hN _ _ ⟨j+1,I++[(NA[j],ms)],U,_,_,rfl,by assumption,rfl,by rw[zbU];rfl,by rw[zaO,hkl];rfl,λk hk=>?_,by simp at X;lia⟩
    ·rcases zbM.mp hk with hk|hk
     ·exact L k hk
     ·have:k=(NA[j],ms):=by simpa using hk
      subst this;exact⟨nA _ (zbB _),by simp at hl;exact hl,hm⟩
   ·rintro y ys acc Z S'' N' ⟨ms,Y,U,v0,e1,rfl,rfl,rfl,hl,hm,hr',X⟩ hN';cases Y with
    |nil=>simp at e1
    |cons r Y=>
     rw[zco] at e1;injection e1 with e1 e3;subst e1;subst e3;refine⟨trivial,?_⟩;push_cast[true_and];refine bI (tW hp) (by lia) (by decide) (by decide) λz' hz'=>?_;rw[gi pl];refine⟨_,rfl,?_⟩;simp only[zbu] at hl X;by_cases h0:(z':Int)=0
     ·rw[yDt h0,yIp rfl];refine⟨by rw[zbN,yag];lia,hN' _ _ _ ⟨ms++[r],Y,U+1,_,rfl,by rw[zbU];rfl,rfl,rfl,by rw[zaO];simp;lia,λm hm'=>?_,λm hm'=>hr' m (zaA _ hm'),by lia⟩⟩;rcases zbM.mp hm' with h|h
      ·exact hm m h
      ·have:m=r:=by simpa using h
       subst this;exact hr' m (by simp)
     ·rw[yDf h0,yIn (by decide)];exact hN' _ _ _ ⟨ms,Y,U+1,_,rfl,rfl,rfl,rfl,by lia,hm,λm hm'=>hr' m (zaA _ hm'),by lia⟩
end
open PySem PySem.Spec L2 M M6 PyProof.Rows
theorem qi{X:aD}{p:Nat}{Q:AK}(h:bQ ds=true)(q:Q (.new (.lst ds)) (S.set p (some (.feed n)))):ret S (S.set p (some (.feed n))++X) (.new (.lst ds)) Q:=by
 refine⟨_,by simp only[out];rw[yIp (show p9 _ (.lst ds)=true from fX _ ds h)],λk o i e=>?_,?_⟩
 ·rw[zaf (by rw[zbV];exact i)] at e;by_cases a:p=k
  ·subst a;rw[zbh,yIp rfl,yIp i] at e;have e:MO.feed n=o:=by simpa using e
   subst e;exact .inr rfl
  ·rw[zaC a] at e;exact .inl e
 ·have:(S.set p (some (.feed n))++X).take S.length=S.set p (some (.feed n)):=by
   rw[show S.length=(S.set p (some (MO.feed n))).length by rw[zbV]];exact List.take_left' rfl
  rw[this];exact q
theorem BD{a:Type}{xs:List a}{k:Nat}(h:k<=xs.length):Ue xs (some (k:Int)) none=xs.drop k:=by
 unfold Ue;have i:HT.bX xs.length 0 (some (k:Int))=k:=by rw[HT.iL];lia
 have e:HT.bX xs.length xs.length none=xs.length:=by simp[HT.bX]
 rw[i,e,zap (by rw[zbw];simp)]
theorem Ad{a:Type}{xs:List a}{k:Nat}(h:k<=xs.length):Ue xs none (some (k:Int))=xs.take k:=by
 unfold Ue;have i:HT.bX xs.length xs.length (some (k:Int))=k:=by rw[HT.iL];lia
 have e:HT.bX xs.length 0 none=0:=by simp[HT.bX]
 rw[i,e,zcf,Nat.sub_zero]
theorem cF{a e:Option Int}{Q:AK}:iY (.lst ds) a e S Q=Q (.new (.lst (Ue ds a e))) S:=rfl
theorem za{a e:Option Int}{Q:AK}(h:bq S (.loc n)=.lst ds)(q:Q (.new (.lst (Ue ds a e))) S):iY (.loc n) a e S Q:=by unfold iY;rw[h];exact q
theorem gV(l:List Str):bQ (l.map D.str)=true:=by
 induction l with
 |nil=>rfl
 |cons a l ih=>simp[bQ,Ui,ih]
theorem bW{a b:AS}{D:fL}(h:∀N:bF->aD->Prop,(∀e i,b D e i->N e i)->a {D with nx:=N} δ S):fZ a b D δ S:=h (b D) λ_ _ z=>z
theorem sj{Q:AK}(h:i<26)(q:Q (.dat (.str ⟨#[97+i]⟩)) S):sU (.str "abcdefghijklmnopqrstuvwxyz") (.int (i:Int)) S Q:=by
 refine⟨by rw[yag];decide+kernel,97+i,?_,q⟩;refine bU ?_;have:∀i<26,("abcdefghijklmnopqrstuvwxyz":Str).cps.toList[i]? =some (97+i):=by decide+kernel
 exact this i h
theorem Pd(h:i<26):(⟨#[97+i]⟩:Str).length=1/\yx ⟨#[97+i]⟩:=L7 (by unfold cZ;rw[zbH];exact⟨yDt (by simp),yDt (by lia)⟩)
def NC(S:aD)(p n:Nat)(rest a:List D)(δ:bF)(e:aD):Prop:=∃(ys:List Str)(n2:Nat)(i:Option D),a=ys.map D.str/\ys.length+rest.length=8/\(∀y∈ys,y.length=1/\yx y)/\δ=[i,some (.str "abcdefghijklmnopqrstuvwxyz"),some (.loc p)]/\(∀x,e.set p x=S.set p x)/\e[p]? =some (some (.feed n2))/\n2+rest.length<=n+8
def NL(S:aD)(p m n2 i t z l:Nat)(W:Str)(rest:List D)(δ:bF)(o:aD):Prop:=∃(j:Nat)(a:List Str)(n e:Option D),rest=(cC 0 8).drop j/\j<=8/\a.length=j/\(∀y∈a,Nm y)/\δ=[some (.loc p),some (.int m),some (.str "abcdefghijklmnopqrstuvwxyz"),some (.str W),some (.int i),some (.int t),some (.loc S.length),some (.int z),some (.int l),n,e]/\o=S.set p (some (.feed n2))++[some (.lst (a.map D.str))]
section
variable {w:yal}{EP:Addr}
def t6:AN:=λe S Q=>∃(p m n:Nat),e=[.loc p,.int m]/\S[p]? =some (some (.feed n))/\n+20<1000/\m<=8/\∀(ys:List Str)(a:Nat),ys.length=m->(∀y∈ys,Nm y)->a<=n+20->Q (.new (.lst (ys.map D.str))) (S.set p (some (.feed a)))
theorem ES(T:Txt K mg ec EP C fi)(F:Src K mg "_law_names" iz (top 34))(e:Def P w K mg base 1 "_law_next" dM (aN K gj)):Def P w K mg base 2 "_law_names" iz (aN K t6):=by
 refine l5 F cT (λds S Q h=>?_) (λf cdv A outer s H E hr=>?_)
 ·obtain⟨p,m,n,rfl,_⟩:=h;rfl
 ·refine⟨_,(Tr (TF 2 cT.nd Tv) (Tr (TF 3 cT.nd (Ud PySem.F.plainAttrs_str PySem.F.slot_str_join PySem.F.type_str_join M.oH Tv (To (Uw ["_law_k","_law_letters","_law_feed_here"] [none,some 2,some 0] (Ut (by rfl) T.range (Tp Tu)) (λ_ _ _ _=>Uj) (λ_ _ _ _=>(Ub (Tn 1) (TJ e hr (To (Tn 2) (Tp Tu)))))) Tt))) (Tr (TF 4 cT.nd (TJ e hr (To (Tn 0) (Tp Tu)))) (Tr (TF 5 cT.nd (TJ e hr (To (Tn 0) (Tp Tu)))) (Tr (T6 (TZ (Ua hr) (Tn 4) Tu (aS _)) (Tw (M.lJ (i:=6) cT.nd rfl rfl (N:=["_law_k","_law_word"]) (caps:=[none,some 3]) (lT (by decide+kernel)) (by rfl) (by rfl) rfl (Ut (by rfl) T.range (Tp Tu)) (λ_ _ _ _=>(UB (i:=0) (by decide+kernel:List.Nodup (["_law_k","_law_word"]:List Str)) rfl (Or.inl rfl))) (λ_ _ _ _=>Uj) (λ_ _ _ _=>(TU TV (Tn 1) T4 (TQ (Tz TH (Tn 0) Tu)))))) (Tw (T6 (TZ (Ua hr) (Tn 4) Tu (aS _)) (Tw (TF 6 cT.nd (Ug (T5 (To Tv (To Tv (To Tv (To Tv (To Tv (To Tv (To Tv (Tp Tv)))))))))))) (Tr (TF 7 cT.nd (TJ e hr (To (Tn 0) (To (Tz TH (Tn 5) Tu) Tt)))) (Tr (TF 8 cT.nd (TJ e hr (To (Tn 0) (Tp Tu)))) (Tr (TF 6 cT.nd (Ug (T5 Tt))) (Tw (Uu PassesOwn.never rfl (Ut (by rfl) T.range (Tp Tu)) (Ul 9 cT.nd) (Tr (TF 10 cT.nd (Ub (Tn 2) (Tz M.zE (Tz TH (Tn 8) (Tz M.JP Tu (Tn 9))) Tu))) (Tw (Uh (Ud PySem.F.plainAttrs_list PySem.F.slot_list_append PySem.F.type_list_append UC (Tn 6) (To (Tz TH (Tz TH (TU TV (Tn 3) T4 (TQ (Tn 7))) (Tn 10)) (TU TV (Tn 3) (TQ (Tz TH (Tn 7) Tu)) (TQ (Tz TH (Tn 5) Tu)))) Tt))))))))))))) (Tw (TL (TU TV (Tz TH (TU TV (Tn 6) (TQ (Tn 5)) T4) (TU TV (Tn 6) T4 (TQ (Tn 5)))) T4 (TQ (Tn 1)))))))))),λds S Q h=>?_⟩;obtain⟨p,m,n,rfl,hp,hn,hm,q⟩:=h;have e0:aL wc [.loc p,.int m]=[some (.loc p),some (.int m),none,none,none,none,none,none,none,none,none]:=rfl;rw[e0];have pl:=fu hp;refine bW λN1 h1=>?_;push_cast[true_and];refine h1 _ _ ?_;clear h1;refine bW λN2 h2=>?_;push_cast[tN,xS,true_and,dS,l0];refine⟨by decide,by decide,mZ (NC S p n) ?_ ?_ _ _ _ _ ⟨[],n,none,rfl,rfl,by simp,rfl,λ_=>rfl,hp,zcS (n+8)⟩⟩
  ·rintro acc δ S' ⟨ys,n2,v0,rfl,hl,O,rfl,hs,U,Y⟩;have hl:ys.length=8:=hl;have Y:n2<=n+8:=Y;obtain⟨j1,j2⟩:=zN ys O;rw[<-PySem.StrLaws.glued_eq_join] at j1 j2;have j1:(Txt.join "" ys).length=8:=j1.trans hl;have j2:yx (Txt.join "" ys):=j2;refine⟨trivial,"",_,ys,rfl,rfl,rfl,(by rw[yO ys O];show _+_*0<=_;lia),h2 _ _ ?_⟩;clear h2;rw[cB];generalize Txt.join "" ys=W at j1 j2;refine bW λN3 h3=>?_;push_cast[true_and];refine bI U (by lia) (by decide) (by decide) λzw hzw=>?_;rw[hs];refine h3 _ _ ?_;clear h3 hs U O;refine bW λN4 h4=>?_;push_cast[true_and];refine bI (bE hp) (by lia) (by decide) (by decide) λt ht=>?_;rw[zcD];refine h4 _ _ ?_;clear h4;have ht:t<8:=by lia
   have fin:∀(l:List Str)(X:Nat)(v7 v8 Z I:Option D),l.length=8->(∀y∈l,Nm y)->X<=n+20->IW (Nn iY (yj sV (Nn iY (cQ 6) (pI (cQ 5)) eG) (Nn iY (cQ 6) eG (pI (cQ 5)))) eG (pI (cQ 1))) {nx:=λx S'=>Uz S S' (R.dat D.aY) Q,rt:=λr S'=>Uz S S' r Q}
     [some (.loc p),some (.int m),some (.str "abcdefghijklmnopqrstuvwxyz"),some (.str W),some (.int zw),some (.int t),some (.loc S.length),v7,v8,Z,I] (S.set p (some (.feed X))++[some (.lst (l.map D.str))]):=λl X v7 v8 Z I hl hm1 h3=>by
    have es:=aV (S:=S.set p (some (.feed X))++[some (MO.lst (l.map D.str))]) (n:=S.length) (o:=.lst (l.map D.str)) (eW (i:=0) (by rw[zbV];rfl));have L8:(l.map D.str).length=8:=by rw[zbN,hl]
    push_cast[true_and];refine za es (za es ?_);rw[BD (k:=t) (by lia),Ad (k:=t) (by lia),<-zcs,<-zcr];push_cast[true_and];have L9:(l.drop t++l.take t).length=8:=by rw[zaO,zbw,zbv];lia
    refine⟨by rw[zbN,zbN,zbw,zbv,yag];lia,?_⟩;rw[cF,<-zbU,Ad (k:=m) (by rw[zbN];lia),<-zcr];refine qi (gV _) (q _ X (by rw[zbv];lia) (λy u=>?_) h3);rcases zbM.mp (zaE u) with u|u
    ·exact hm1 y (zaF u)
    ·exact hm1 y (zaE u)
   refine bW λN5 h5=>?_;have go:∀(l:List Str)(X:Nat)(v7 v8 Z I:Option D),l.length=8->(∀y∈l,Nm y)->X<=n+20->N5 [some (.loc p),some (.int m),some (.str "abcdefghijklmnopqrstuvwxyz"),some (.str W),some (.int zw),some (.int t),some (.loc S.length),v7,v8,Z,I] (S.set p (some (.feed X))++[some (.lst (l.map D.str))]):=λl X v7 v8 Z I a b c=>h5 _ _ (fin l X v7 v8 Z I a b c);clear h5 fin;push_cast[dF,dS,l0,kG];refine jq (λ_=>?_) (λ_=>jq (λ_=>?_) (λ_=>?_))
   ·refine⟨by decide,by decide,comp_map (δ:=[none,some (.str W)]) (λd=>match d with|.int i=>.str (Txt.slice W none (some (i+1)))|d=>d) trivial _ [] _ rfl (λx hx Q' q'=>?_) ?_ ?_⟩
    ·obtain⟨k,hk,rfl⟩:=zcE.mp hx;rw[Int.zero_add] at q'⊢;push_cast[zaU];exact⟨by rw[j1,yag];simp,q'⟩
    ·simp[cC];rw[yag];lia
    have el:∀k:Nat,k<8->(Txt.slice W none (some ((k:Int)+1))).length=k+1:=λk hk=>by
     rw[zb,show((k:Int)+1)=((k+1:Nat):Int) by lia];exact wR (zcT _) (by lia)
    rw[zbT,zbV,show(cC 0 (8:Int).toNat).map (λd=>match d with|.int i=>.str (Txt.slice W none (some (i+1)))|d=>d)=((zcX 8).map λk:Nat=>Txt.slice W none (some ((k:Int)+1))).map D.str from by
     simp only[cC,zcF];refine zaJ λk _=>?_;show D.str (Txt.slice W none (some ((0:Int)+(k:Int)+1)))=D.str (Txt.slice W none (some ((k:Int)+1)));rw[Int.zero_add]]
    refine go _ _ _ _ _ _ (by simp) (λy u=>?_) (by lia);obtain⟨k,hk,rfl⟩:=zcE.mp u;have:=el k (zcd.mp hk);have:=zcd.mp hk;exact⟨by lia,by lia,wU j2⟩
   ·refine⟨ySz 8,?_⟩;rw[zbV];refine go ["on","back","at","off","stay","many","then","either"] _ _ _ _ _ rfl (λy u=>?_) (by lia);simp only[zcn,zbC,or_false] at u;rcases u with rfl|rfl|rfl|rfl|rfl|rfl|rfl|rfl<;>exact DV (by decide+kernel)
   ·refine bI (bE hp) (by lia) (by simp) (by lia) λz hz=>?_;rw[zcD];refine bI (bE hp) (by lia) (by decide) (by decide) λzs hzs=>?_;rw[zcD,zbV];refine⟨zcT _,by decide,by decide,dJ (NL S p m (n2+1+1+1+1) zw t z zs W) ?_ ?_ _ _ _ ⟨0,[],none,none,rfl,by decide,rfl,by simp,rfl,rfl⟩⟩
    ·rintro δ S' ⟨j,l,Z,I,e1,hj,hzl,L,rfl,rfl⟩;have hj2:j=8:=by
      have:=congrArg zcR e1;rw[zbw,eu] at this;simp at this;lia
     subst hj2;exact⟨trivial,go l _ _ _ _ _ hzl L (by lia)⟩
    ·rintro x xs δ S' N ⟨j,l,Z,I,e1,hj,hzl,L,rfl,rfl⟩ hN;obtain⟨hj2,rfl,rfl⟩:=jH e1;refine⟨trivial,?_⟩;have e3:bq (S.set p (some (.feed (n2+1+1+1+1)))++[some (MO.lst (l.map D.str))]) (.loc S.length)=.lst (l.map D.str):=aV (o:=.lst (l.map D.str)) (eW (i:=0) (by rw[zbV];rfl));push_cast[tN,e3,xS,true_and];refine⟨.inl ⟨by decide,by decide⟩,?_⟩;have e5:((zs:Int)+5*(j:Int)) % 26=(((zs+5*j) % 26:Nat):Int):=by simp
     refine⟨_,_,rfl,rfl,(by show(0:Int)<26;decide),?_⟩;dsimp only[cB];rw[e5];refine sj (by lia) ⟨by rw[e3];trivial,?_⟩;have w1:W.length<=yah:=by rw[j1,yag];lia
     have hz7:z<=t:=by lia
     have g1:(Txt.slice W none (some (z:Int))).length=z:=by rw[zb];exact wR (zcT _) (by lia)
     have g2:(Txt.slice W (some ((z:Int)+1)) (some ((t:Int)+1))).length=(t+1) - (z+1):=wR (a:=z+1) (b:=t+1) (by lia) (by lia);have hc:=Pd (i:=(zs+5*j) % 26) (by lia);refine⟨w1,?_⟩;dsimp only[cB];refine⟨by rw[g1,hc.1,yag];lia,w1,?_⟩;dsimp only[cB];refine⟨by rw[strLen_append,g1,hc.1,g2,yag];lia,S.length,_,_,rfl,rfl,eW (i:=0) (by rw[zbV];rfl),by rw[zbN,yag];lia,?_⟩;rw[jk (i:=0) (by rw[zbV];rfl)];refine hN _ _ ⟨j+1,l++[_],_,_,rfl,by assumption,by simp[hzl],λy u=>?_,rfl,by rw[zbU];rfl⟩
     ·rcases zbM.mp u with u|u
      ·exact L y u
      ·rw[zaS.mp u];refine⟨by rw[strLen_append,strLen_append,hc.1];lia,by rw[strLen_append,strLen_append,hc.1];lia,((wU j2).append hc.2).append (wU j2)⟩
  ·rintro x xs acc δ S' N ⟨ys,n2,v0,rfl,hl,O,rfl,hs,U,Y⟩ hN;clear h2;refine⟨trivial,?_⟩;simp only[zbu] at hl Y;push_cast[gM];refine bI U (by lia) (by decide) (by decide) λz hz=>sj (by lia) ⟨by rw[zbN,yag];lia,hN _ _ _ ⟨ys++[⟨#[97+z]⟩],n2+1,_,by rw[zbU];rfl,by simp;lia,λy u=>?_,rfl,λx=>by rw[zcD,hs],bE U,by lia⟩⟩;rcases zbM.mp u with u|u
   ·exact O y u
   ·rw[zaS.mp u];exact Pd (by lia)
end
open PySem PySem.Spec L2 M M6 PyProof.Rows
noncomputable abbrev rO:Stmt:=inClass (top 3) 0
noncomputable abbrev B0:List Str:=["self","name"]
noncomputable abbrev gb:=B0
theorem CZ:aE B0 gb (ah rO):=L2.cL
noncomputable abbrev wZ:Stmt:=inClass (top 6) 0
noncomputable abbrev FT:List Str:=["self","name"]
noncomputable abbrev f7:=FT
theorem Gy:aE FT f7 (ah wZ):=L2.cL
noncomputable abbrev nH:Stmt:=inClass (top 7) 0
noncomputable abbrev yw:List Str:=["self","word"]
noncomputable abbrev dG:=yw
theorem AR:aE yw dG (ah nH):=L2.cL
noncomputable abbrev rN:Stmt:=inClass (top 11) 0
noncomputable abbrev BZ:List Str:=["self","at"]
noncomputable abbrev f9:=BZ
theorem CY:aE BZ f9 (ah rN):=L2.cL
structure FD(K:yaM)(mg:Str->Option yaj)(x:Str)(C:Addr)(qual:Str)(ps:List Str)(st:Stmt):Prop where
 ex:∃f fd,Sx K C f/\rg K "__init__" qual st f fd/\Binds K fd ps []
section
variable {w:yal}{EP:Addr}
theorem ER(T:Txt K mg ec EP C fi)(F:FD K mg "NoKnot" (ec 0) "NoKnot.__init__" gb rO):lD P w K mg base 1 "NoKnot" (ec 0) gb (lW (ec 0) "name"):=by
 obtain⟨f,fd,M,m,i⟩:=F.ex;refine⟨⟨f,fd,M,m.ok CZ (λe H Q E h=>?_) (λl A outer s H e Q E n h=>?_),i⟩,T.g_NoKnot⟩
 ·obtain⟨x,v,rfl,_⟩:=h;rfl
 ·obtain⟨x,v,rfl,a,q⟩:=h;refine⟨_,L2.aa (L2.bA (jU (by rfl) T.at_PathError T.base_PathError (L2.az (L2.pv 0) (L2.az (L2.pv 1) L2.ai)))) (L2.aj (jO (L2.pv 0) (L2.pv 1))),?_⟩;exact⟨_,rfl,_,rfl,x,[v],ec 0,none,rfl,(by show 1<=1000;decide),a,(T.xi 0 (by decide)).ex,_,rfl,_,rfl,x,ec 0,rfl,a,(T.xi 0 (by decide)).toXCls,T.fld 0 (by decide),λj nd=>q j nd⟩
theorem Ij(T:Txt K mg ec EP C fi)(F:FD K mg "Twice" (ec 3) "Twice.__init__" f7 wZ):lD P w K mg base 1 "Twice" (ec 3) f7 (lW (ec 3) "name"):=by
 obtain⟨f,fd,M,m,i⟩:=F.ex;refine⟨⟨f,fd,M,m.ok Gy (λe H Q E h=>?_) (λl A outer s H e Q E n h=>?_),i⟩,T.g_Twice⟩
 ·obtain⟨x,v,rfl,_⟩:=h;rfl
 ·obtain⟨x,v,rfl,a,q⟩:=h;refine⟨_,L2.aa (L2.bA (jU (by rfl) T.at_PathError T.base_PathError (L2.az (L2.pv 0) (L2.az (L2.pv 1) L2.ai)))) (L2.aj (jO (L2.pv 0) (L2.pv 1))),?_⟩;exact⟨_,rfl,_,rfl,x,[v],ec 3,none,rfl,(by show 1<=1000;decide),a,(T.xi 3 (by decide)).ex,_,rfl,_,rfl,x,ec 3,rfl,a,(T.xi 3 (by decide)).toXCls,T.fld 3 (by decide),λj nd=>q j nd⟩
theorem BB(T:Txt K mg ec EP C fi)(F:FD K mg "TooMany" (ec 4) "TooMany.__init__" dG nH):lD P w K mg base 1 "TooMany" (ec 4) dG (lW (ec 4) "word"):=by
 obtain⟨f,fd,M,m,i⟩:=F.ex;refine⟨⟨f,fd,M,m.ok AR (λe H Q E h=>?_) (λl A outer s H e Q E n h=>?_),i⟩,T.g_TooMany⟩
 ·obtain⟨x,v,rfl,_⟩:=h;rfl
 ·obtain⟨x,v,rfl,a,q⟩:=h;refine⟨_,L2.aa (L2.bA (jU (by rfl) T.at_PathError T.base_PathError (L2.az (L2.pv 0) (L2.az (L2.pv 1) L2.ai)))) (L2.aj (jO (L2.pv 0) (L2.pv 1))),?_⟩;exact⟨_,rfl,_,rfl,x,[v],ec 4,none,rfl,(by show 1<=1000;decide),a,(T.xi 4 (by decide)).ex,_,rfl,_,rfl,x,ec 4,rfl,a,(T.xi 4 (by decide)).toXCls,T.fld 4 (by decide),λj nd=>q j nd⟩
theorem EO(T:Txt K mg ec EP C fi)(F:FD K mg "NoLine" (ec 8) "NoLine.__init__" f9 rN):lD P w K mg base 1 "NoLine" (ec 8) f9 (lW (ec 8) "at"):=by
 obtain⟨f,fd,M,m,i⟩:=F.ex;refine⟨⟨f,fd,M,m.ok CY (λe H Q E h=>?_) (λl A outer s H e Q E n h=>?_),i⟩,T.g_NoLine⟩
 ·obtain⟨x,v,rfl,_⟩:=h;rfl
 ·obtain⟨x,v,rfl,a,q⟩:=h;refine⟨_,L2.aa (L2.bA (jU (by rfl) T.at_PathError T.base_PathError (L2.az (L2.pv 0) (L2.az (L2.pv 1) L2.ai)))) (L2.aj (jO (L2.pv 0) (L2.pv 1))),?_⟩;exact⟨_,rfl,_,rfl,x,[v],ec 8,none,rfl,(by show 1<=1000;decide),a,(T.xi 8 (by decide)).ex,_,rfl,_,rfl,x,ec 8,rfl,a,(T.xi 8 (by decide)).toXCls,T.fld 8 (by decide),λj nd=>q j nd⟩
theorem uN{m:Str}{sp:AN}{Q:AK}{d:D}(a:δ[i]? =some (some (.loc n)))(o:S[n]? =some (some (.ins C fl ds)))(l:m ∉ fl)(h:t δ S λes e=>sp (.loc n::es) e Q∨(bad (.loc n::es) e j d/\e=S0)):sR C m sp bad S0 j d (cQ i) t δ S Q:=⟨_,a,n,_,_,rfl,o,l,h⟩
theorem JY(h:x ∉ l)(a:Bool):(a != decide (x∈l))=a:=by rw[yDf h];cases a<;>rfl
theorem Mw(h:x∈l)(a:Bool):(a != decide (x∈l))= !a:=by rw[yDt h];cases a<;>rfl
def sL(C:Addr)(W:yal):List D->aD->Nat->D->Prop:=λi S j d=>∃n x own a e,i=[.loc n,.str x]/\di C W S n own a e/\x ∉ nms a/\j=0/\d=.str x
abbrev Kz(P:yak)(w:yal)(K:yaM)(mg:Str->Option yaj)(base:Heap)(C EP:Addr)(ec:Nat->Addr):Prop:=lU P w K mg base 3 C "need_knot" dj (gk C w) EP ec Ca (sL C w)
theorem Io(T:Txt K mg ec EP C fi)(F:iZ K C "need_knot" "Web.need_knot" dj uq)(o:lD P w K mg base 1 "NoKnot" (ec 0) gb (lW (ec 0) "name")):Kz P w K mg base C EP ec:=by
 refine(xY F C1 (λf fd F=>EE T F) (λy S j d h=>?_) (λf z A outer s H E L j d i=>?_)).2
 ·obtain⟨n,x,own,q,l,rfl,_⟩:=h;rfl
 ·refine⟨_,Ur (UD (TZ (M.oz i) (Tn 1) (Uc (Tn 0) T.cl T.cP) rfl) (Ur (M.jC Ga o rfl (T.xi 0 (by decide)).toXCls (T.sub 0 (by decide)) i (by rfl) (Tn 1))) M.l9),λy h=>?_⟩;obtain⟨n,x,own,q,l,rfl,⟨m,t,e,I,rfl,rfl,X⟩,a,rfl,rfl⟩:=h;have u:aL s9 [.loc n,.str x]=[some (.loc n),some (.str x)]:=rfl;rw[u];rw[ic] at a;push_cast[true_and];refine kc X rfl (HV X ⟨_,rfl,?_⟩);rw[JY a,yIp rfl];exact⟨_,rfl,rfl,rfl,rfl⟩
theorem uK{Q:AK}{ks:List Kn}{ts:List Ti}(a:δ[i]? =some (some (.loc n)))(X:di C w S n own ks ts)(j:x ∉ nms ks)(h:∀Q:List D->aD->Prop,Q [.str x] S->t δ S Q):sR C "need_knot" (gk C w) (sL C w) S 0 (.str x) (cQ i) t δ S Q:=by
 obtain⟨m,o,e,y,q,u,l⟩:=id X;exact uN a l.at_ (by decide+kernel) (h _ (.inr ⟨⟨n,x,own,ks,ts,rfl,X,j,rfl,rfl⟩,rfl⟩))
theorem sf{d:D}{Q:AK}{ks:List Kn}{ts:List Ti}(a:δ[i]? =some (some (.loc n)))(X:di C w S n own ks ts)(l:x∈nms ks)(h:∀Q:List D->aD->Prop,Q [.str x] S->t δ S Q)(q:Q (.dat .aY) S):sR C "need_knot" (gk C w) (sL C w) S0 j d (cQ i) t δ S Q:=by
 obtain⟨m,u,e,E,y,z,o⟩:=id X;exact uN a o.at_ (by decide+kernel) (h _ (.inl ⟨n,x,own,ks,ts,rfl,X,l,q⟩))
def Aj(C:Addr)(W:yal):List D->aD->Nat->D->Prop:=λi S j d=>∃n x mk own a e,i=[.loc n,.str x,mk]/\di C W S n own a e/\((x∈nms a/\j=3/\d=.str x)∨(x ∉ nms a/\a.length=40/\j=4/\d=.str "knots"))
theorem Im(T:Txt K mg ec EP C fi)(F:iZ K C "put_knot" "Web.put_knot" eN uo)(a:cX P w K mg base 1 C "lay_knot" gG (rF C w))(z:lD P w K mg base 1 "Twice" (ec 3) f7 (lW (ec 3) "name"))(I:lD P w K mg base 1 "TooMany" (ec 4) dG (lW (ec 4) "word")):lU P w K mg base 4 C "put_knot" eN (nD C w) EP ec Ca (Aj C w):=by
 refine(xY F CW (λf fd F=>(ED T F a).mono (by decide)) (λO S j d h=>?_) (λf Q A outer s H U W j d l=>?_)).2
 ·obtain⟨n,x,mk,own,y,u,rfl,_⟩:=h;rfl
 ·refine⟨_,Uv (UD (TZ (M.DQ l) (Tn 1) (Uc (Tn 0) T.cl T.cP) rfl) (Ur (M.jC Ga z rfl (T.xi 3 (by decide)).toXCls (T.sub 3 (by decide)) (l.mono (by decide)) (by rfl) (Tn 1))) M.aM.w) (Uv (UD (TZ UG (TM T9 T.len (To (Uc (Tn 0) T.cl T.cP) Tt)) T.jd (aS _)) (Ur (M.jC Ga I rfl (T.xi 4 (by decide)).toXCls (T.sub 4 (by decide)) (l.mono (by decide)) (by rfl) Tv)) M.aM.w) M.l9),λO h=>?_⟩;obtain⟨n,x,mk,own,y,u,rfl,⟨m,t,e,q,rfl,rfl,X⟩,o⟩:=h;have L:aL sZ [.loc n,.str x,mk]=[some (.loc n),some (.str x),some mk]:=rfl;rw[L];rw[ic] at o;push_cast[true_and];refine kc X rfl (HV X ⟨_,rfl,?_⟩);rcases o with⟨i,rfl,rfl⟩|⟨i,E,rfl,rfl⟩
  ·rw[Mw i,yIp (by decide)];exact⟨_,rfl,rfl,rfl,rfl⟩
  ·rw[JY i,yIn (by decide)];rw[zbN] at E;refine kc X rfl ⟨q.length,?_,?_⟩
   ·rw[cB,aV X.B7];show some (kk q).length=_;unfold kk;rw[zbN]
   rw[yDt (by lia),yIp rfl];exact⟨rfl,rfl,rfl⟩
def Fd(C:Addr)(W:yal)(B:Ti->List Ti->Nat->D->Prop):List D->aD->Nat->D->Prop:=λi S j d=>∃n x own a e,i=[.loc n,.str x.1,.str x.2.1,.str x.2.2]/\di C W S n own a e/\((x.1 ∉ nms a/\j=0/\d=.str x.1)∨(x.1∈nms a/\x.2.2 ∉ nms a/\j=0/\d=.str x.2.2)∨(x.1∈nms a/\x.2.2∈nms a/\lX x=true/\B x e j d))
def Kf:Ti->List Ti->Nat->D->Prop:=λx a j d=>(x∈a/\j=3/\d=.str x.2.1)∨(x ∉ a/\a.length=300/\j=4/\d=.str "ties")
theorem Il(T:Txt K mg ec EP C fi)(F:iZ K C "put_tie" "Web.put_tie" eK uh)(a:cX P w K mg base 1 C "need_knot" dj (gk C w))(i:cX P w K mg base 1 C "lay_tie" gF (rE C w))(E:Kz P w K mg base C EP ec)(I:cX P w K mg base 1 C "has_tie" jA (yX C w))(U:lD P w K mg base 1 "Twice" (ec 3) f7 (lW (ec 3) "name"))(W:lD P w K mg base 1 "TooMany" (ec 4) dG (lW (ec 4) "word")):lU P w K mg base 4 C "put_tie" eK (nC C w) EP ec Ca (Fd C w Kf):=by
 refine(xY F CV (λf fd F=>(EC T F a I i).mono (by decide)) (λZ S j d h=>?_) (λf cdv A outer s H w0 S0 j d u=>?_)).2
 ·obtain⟨n,x,own,O,y,rfl,_⟩:=h;rfl
 ·refine⟨_,Uv (M.rj (M.Cg Ga (Tn 0) T.cl E u (Tp (Tn 1)))) (Uv (M.rj (M.Cg Ga (Tn 0) T.cl E u (Tp (Tn 3)))) (Uv (UD (Ux (Us (Tn 0) T.cl I (u.mono (by decide)) (To (Tn 1) (To (Tn 2) (Tp (Tn 3)))))) (Ur (M.jC Ga U rfl (T.xi 3 (by decide)).toXCls (T.sub 3 (by decide)) (u.mono (by decide)) (by rfl) (Tn 2))) M.aM.w) (Uv (UD (TZ UG (TM M.DP T.len (To (Uc (Tn 0) T.cl T.n_tied) Tt)) T.jX (aS _)) (Ur (M.jC Ga W rfl (T.xi 4 (by decide)).toXCls (T.sub 4 (by decide)) (u.mono (by decide)) (by rfl) Tv)) M.aM.w) M.l9))),λZ h=>?_⟩;obtain⟨n,x,own,O,y,rfl,o,z⟩:=h;have Y:aL sY [.loc n,.str x.1,.str x.2.1,.str x.2.2]=[some (.loc n),some (.str x.1),some (.str x.2.1),some (.str x.2.2)]:=rfl;rw[Y];rcases z with⟨l,rfl,rfl⟩|⟨h1,l,rfl,rfl⟩|⟨h1,h2,L,z⟩
  ·exact uK rfl o l λQ q=>⟨_,rfl,q⟩
  ·exact sf rfl o h1 (λQ q=>⟨_,rfl,q⟩) (uK rfl o l λQ q=>⟨_,rfl,q⟩)
  ·refine sf rfl o h1 (λQ q=>⟨_,rfl,q⟩) (sf rfl o h2 (λQ q=>⟨_,rfl,q⟩) ?_);obtain⟨m,t,e,cs,rfl,rfl,X⟩:=id o;push_cast[true_and];refine dh rfl X.at_ (by decide+kernel) ⟨_,rfl,_,rfl,_,rfl,n,x,_,_,y,rfl,o,L,?_⟩;rcases z with⟨l,rfl,rfl⟩|⟨l,hl,rfl,rfl⟩
   ·refine⟨true,by rw[yDt l];rfl,?_⟩;rw[yIp rfl];exact⟨_,rfl,rfl,rfl,rfl⟩
   ·refine⟨false,by rw[yDf l];rfl,?_⟩;rw[yIn (by decide)];refine vd X rfl ⟨t,y.map T3,rfl,X.ti,by rw[zbN];lia,?_⟩;refine⟨_,_,rfl,rfl,trivial,_,rfl,?_⟩;rw[zbN,yDt (by lia),yIp rfl];exact⟨rfl,rfl,rfl⟩
end
open PySem PySem.Spec L2 M M6 PyProof.Rows
noncomputable abbrev NI:List Str:=["_law_e","_law_some","_law_words"]
noncomputable abbrev pJ:=NI.take 1
theorem nG:aE NI pJ (ah (top 35)):=L2.cL
noncomputable abbrev jG:Stmt:=top 43
noncomputable abbrev iR:List Str:=["_law_lines_here","_law_caught_here","_law_e"]
noncomputable abbrev gc:=iR.take 1
theorem c7:aE iR gc (ah jG):=L2.cL
noncomputable def Nb(i:Nat):List Bool:=[i==0,i==1,i==2,i==3,i==4,i==5,i==6,i==7,i==8,i==9,i==10,i==11,i==12,i==13]
theorem Fc:∀i,i<9->(Nb i).count true=1:=by decide
theorem P5:∀i,i<9->(Nb i)[i]? =some true:=by decide
theorem P4:∀i,i<9->∀m,m<i->(Nb i)[m]?≠some true:=by decide
noncomputable def wl:List Str:=["knot","mark","name","twice","toomany","tie","meet","text","line","way","toolong","round","such","pair"]
noncomputable def wd:Nat->Str
 |0=>"knot"
 |1=>"mark"
 |2=>"name"
 |3=>"twice"
 |4=>"toomany"
 |5=>"tie"
 |6=>"meet"
 |7=>"text"
 |_=>"line"
theorem KI:∀i,i<9->(wl.map V.str)[i]? =some (V.str (wd i))
 |0,_=>rfl
 |1,_=>rfl
 |2,_=>rfl
 |3,_=>rfl
 |4,_=>rfl
 |5,_=>rfl
 |6,_=>rfl
 |7,_=>rfl
 |8,_=>rfl
section
variable {w:yal}{EP:Addr}
def JD(ec:Nat->Addr):Sp:=λe H Q _=>∃(x:Addr)(fs:List (Str×V))(i:Nat),e=[.ref x]/\i<9/\XAt (ec i) H x fs/\∀a,cJ H a->Q (.str (wd i)) a
theorem PF(T:Txt K mg ec EP C fi)(F:Src K mg "_law_own" pJ (top 35)):Jp P w K mg base 1 "_law_own" pJ (JD ec):=by
 refine F.Se nG (λvs H Q E h=>?_) (λf cdv A outer s H vs Q E h=>?_)
 ·obtain⟨x,fs,i,rfl,_⟩:=h;rfl
 ·obtain⟨x,fs,i,rfl,l,⟨y,Z,hd,hne⟩,q⟩:=h;refine⟨_,(J.aa (J.bR (i:=1) nG.nd rfl (Or.inl rfl) (J.aQ (J.az (J.mF cV (by rfl) T.isinstance (by decide+kernel) (J.az (J.pv 0) (J.az (gx T.g_NoKnot) J.ai))) (J.az (J.mF cV (by rfl) T.isinstance (by decide+kernel) (J.az (J.pv 0) (J.az (gx T.g_NoMark) J.ai))) (J.az (J.mF cV (by rfl) T.isinstance (by decide+kernel) (J.az (J.pv 0) (J.az (gx T.g_NoName) J.ai))) J.ai))))) (J.aa (J.bR (i:=1) nG.nd rfl (Or.inl rfl) (J.aA kX (J.pv 1) (J.aQ (J.az (J.mF cV (by rfl) T.isinstance (by decide+kernel) (J.az (J.pv 0) (J.az (gx T.g_Twice) J.ai))) (J.az (J.mF cV (by rfl) T.isinstance (by decide+kernel) (J.az (J.pv 0) (J.az (gx T.g_TooMany) J.ai))) (J.az (J.mF cV (by rfl) T.isinstance (by decide+kernel) (J.az (J.pv 0) (J.az (gx T.g_NoTie) J.ai))) J.ai)))))) (J.aa (J.bR (i:=1) nG.nd rfl (Or.inl rfl) (J.aA kX (J.pv 1) (J.aQ (J.az (J.mF cV (by rfl) T.isinstance (by decide+kernel) (J.az (J.pv 0) (J.az (gx T.g_NoMeet) J.ai))) (J.az (J.mF cV (by rfl) T.isinstance (by decide+kernel) (J.az (J.pv 0) (J.az (gx T.g_NoText) J.ai))) (J.az (J.mF cV (by rfl) T.isinstance (by decide+kernel) (J.az (J.pv 0) (J.az (gx T.g_NoLine) J.ai))) J.ai)))))) (J.aa (J.bR (i:=1) nG.nd rfl (Or.inl rfl) (J.aA kX (J.pv 1) (J.aQ (J.az (J.mF cV (by rfl) T.isinstance (by decide+kernel) (J.az (J.pv 0) (J.az (gx T.g_NoWay) J.ai))) (J.az (J.mF cV (by rfl) T.isinstance (by decide+kernel) (J.az (J.pv 0) (J.az (gx T.g_TooLong) J.ai))) (J.az (J.mF cV (by rfl) T.isinstance (by decide+kernel) (J.az (J.pv 0) (J.az (gx T.g_GoesRound) J.ai))) J.ai)))))) (J.aa (J.bR (i:=1) nG.nd rfl (Or.inl rfl) (J.aA kX (J.pv 1) (J.aQ (J.az (J.mF cV (by rfl) T.isinstance (by decide+kernel) (J.az (J.pv 0) (J.az (gx T.g_NoSuch) J.ai))) (J.az (J.mF cV (by rfl) T.isinstance (by decide+kernel) (J.az (J.pv 0) (J.az (gx T.g_NoPair) J.ai))) J.ai))))) (J.aa (J.bh (J.pw_pt (J.pw_or (J.gX (J.d7 (J.mF cV (by rfl) T.isinstance (by decide+kernel) (J.az (J.pv 0) (J.az (J.qw "ValueError" (by rfl) T.ValueError (by decide+kernel)) J.ai))))) (J.pw_or1 (J.aG JN (J.om PySem.F.plainAttrs_list PySem.F.slot_list_count PySem.F.type_list_count Bj (J.pv 1) (J.az J.dz J.ai)) J.ao (aS _))))) (J.aj (J.aJ J.ak)) J.aM) (J.aa (J.bR (i:=2) nG.nd rfl (Or.inl rfl) (J.aQ (J.az J.ak (J.az J.ak (J.az J.ak (J.az J.ak (J.az J.ak (J.az J.ak (J.az J.ak (J.az J.ak (J.az J.ak (J.az J.ak (J.az J.ak (J.az J.ak J.ai)))))))))))))) (J.aj (J.aJ (J.fS R1 (J.aA kX (J.pv 2) (J.aQ (J.az J.ak (J.az J.ak J.ai)))) (J.om PySem.F.plainAttrs_list PySem.F.slot_list_index PySem.F.type_list_index Bh (J.pv 1) (J.az J.dz J.ai)) (λ_ _=>rfl))))))))))),?_⟩;have a:∀{U:L2.St}{z:Hp}{S:VK},cJ H z->∀j,j<14->S (.bl (i==j)) z->nj (tC (.ref (ec j))) wK U z λxs H2=>JJ K (.ref x::xs) H2 S:=λ{U z S} s j hj q'=>⟨x,ec i,some y,_,_,_,rfl,s _ _ Z,.inr ⟨y,fs,rfl,s _ _ hd⟩,T.xi i l,Dr.1,Dr.2,T.kit i j l hj,q'⟩
  refine pV λN e=>?_;refine⟨_,rfl,a (cJ.refl _) 0 (by decide) ⟨_,rfl,a (cJ.refl _) 1 (by decide) ⟨_,rfl,a (cJ.refl _) 2 (by decide) ⟨(ySz 3),λa1 n1=>?_⟩⟩⟩⟩;have u:=alloc (o:=.lst [.bl (i==0),.bl (i==1),.bl (i==2)]) n1;refine e _ _ ?_;refine pV λN e=>?_;refine⟨_,rfl,_,rfl,a u 3 (by decide) ⟨_,rfl,a u 4 (by decide) ⟨_,rfl,a u 5 (by decide) ⟨(ySz 3),λa2 n2=>?_⟩⟩⟩⟩;have t1:=u.trans (alloc (o:=.lst [.bl (i==3),.bl (i==4),.bl (i==5)]) n2);refine⟨a1,a2,_,_,rfl,rfl,alloc n2 _ _ aq,aq,(ySz 6),λa3 n3=>?_⟩;have n:=t1.trans (alloc (o:=.lst ([.bl (i==0),.bl (i==1),.bl (i==2)]++[.bl (i==3),.bl (i==4),.bl (i==5)])) n3);refine e _ _ ?_;refine pV λN e=>?_;refine⟨_,rfl,_,rfl,a n 6 (by decide) ⟨_,rfl,a n 7 (by decide) ⟨_,rfl,a n 8 (by decide) ⟨(ySz 3),λa4 Y=>?_⟩⟩⟩⟩;have t2:=n.trans (alloc (o:=.lst [.bl (i==6),.bl (i==7),.bl (i==8)]) Y);refine⟨a3,a4,_,_,rfl,rfl,alloc Y _ _ aq,aq,(ySz 9),λa5 n5=>?_⟩;have m:=t2.trans (alloc (o:=.lst ([.bl (i==0),.bl (i==1),.bl (i==2)]++[.bl (i==3),.bl (i==4),.bl (i==5)]++[.bl (i==6),.bl (i==7),.bl (i==8)])) n5);refine e _ _ ?_;refine pV λN e=>?_;refine⟨_,rfl,_,rfl,a m 9 (by decide) ⟨_,rfl,a m 10 (by decide) ⟨_,rfl,a m 11 (by decide) ⟨(ySz 3),λa6 X=>?_⟩⟩⟩⟩;have t3:=m.trans (alloc (o:=.lst [.bl (i==9),.bl (i==10),.bl (i==11)]) X);refine⟨a5,a6,_,_,rfl,rfl,alloc X _ _ aq,aq,(ySz 12),λa7 n7=>?_⟩;have L:=t3.trans (alloc (o:=.lst ([.bl (i==0),.bl (i==1),.bl (i==2)]++[.bl (i==3),.bl (i==4),.bl (i==5)]++[.bl (i==6),.bl (i==7),.bl (i==8)]++[.bl (i==9),.bl (i==10),.bl (i==11)])) n7);refine e _ _ ?_;refine pV λN e=>?_;refine⟨_,rfl,_,rfl,a L 12 (by decide) ⟨_,rfl,a L 13 (by decide) ⟨(ySz 2),λa8 W=>?_⟩⟩⟩;have t4:=L.trans (alloc (o:=.lst [.bl (i==12),.bl (i==13)]) W);refine⟨a7,a8,_,_,rfl,rfl,alloc W _ _ aq,aq,(ySz 14),λa9 n9=>?_⟩;have I:=t4.trans (alloc (o:=.lst ([.bl (i==0),.bl (i==1),.bl (i==2)]++[.bl (i==3),.bl (i==4),.bl (i==5)]++[.bl (i==6),.bl (i==7),.bl (i==8)]++[.bl (i==9),.bl (i==10),.bl (i==11)]++[.bl (i==12),.bl (i==13)])) n9);refine e _ _ ?_;refine pV λN e=>?_;refine⟨_,rfl,x,ec i,some y,_,_,_,rfl,I _ _ Z,.inr ⟨y,fs,rfl,I _ _ hd⟩,T.xi i l,uz.1,uz.2,T.kitV i l,_,rfl,oR ?_⟩;refine⟨_,rfl,.inl ⟨rfl,_,b9.of aq⟩,a9,Nb i,true,rfl,rfl,b9.of (xs:=(Nb i).map V.bl) aq,rfl,_,rfl,?_⟩;refine Pn (by rw[Fc i l];rfl) ?_;refine e _ _ ?_;refine pV λN e=>?_;refine⟨(ySz 12),λc1 m1=>?_⟩;refine e _ _ ?_;refine⟨_,rfl,(ySz 2),λc2 m2=>?_⟩;refine⟨c1,c2,_,_,rfl,rfl,alloc m2 _ _ aq,aq,(ySz 14),λc3 O=>?_⟩;refine⟨_,rfl,.inl ⟨rfl,_,b9.of (alloc O _ _ (alloc m2 _ _ (alloc m1 _ _ aq)))⟩,a9,Nb i,true,i,rfl,rfl,b9.of (xs:=(Nb i).map V.bl) (alloc O _ _ (alloc m2 _ _ (alloc m1 _ _ aq))),P5 i l,P4 i l,?_⟩;exact⟨c3,wl.map V.str,_,V.str (wd i),rfl,rfl,b9.of (xs:=wl.map V.str) aq,bU (KI i l),q _ (I.trans ((alloc m1).trans ((alloc m2).trans (alloc O))))⟩
end
open PySem PySem.Spec L2 M M6 PyProof.Rows
noncomputable abbrev Ar:List Str:=["thing"]
noncomputable abbrev kJ:=Ar
theorem Lh:aE Ar kJ (ah (top 19)):=L2.cL
noncomputable abbrev Ky:List Str:=["words"]
noncomputable abbrev qZ:=Ky
theorem Ro:aE Ky qZ (ah (top 29)):=L2.cL
noncomputable abbrev Kw:List Str:=["words","marks"]
noncomputable abbrev qY:=Kw.take 1
theorem Ou:aE Kw qY (ah (top 27)):=L2.cL
noncomputable abbrev Kv:List Str:=["words"]
noncomputable abbrev qX:=Kv
theorem Rm:aE Kv qX (ah (top 28)):=L2.cL
noncomputable abbrev wm:List Str:=["_law_word"]
noncomputable abbrev iC:=wm
theorem GB:aE wm iC (ah (top 37)):=L2.cL
theorem vf:∀c<128,decide (0<=PySem.Txt.find "abcdefghijklmnopqrstuvwxyz" ⟨#[c]⟩)=cZ c:=by decide+kernel
theorem all_min{l:List Nat}{m:Int}(i:∀c∈l,c<128)(h1:m∈l.map λc=>PySem.Txt.find "abcdefghijklmnopqrstuvwxyz" ⟨#[c]⟩)(h2:∀n∈l.map λc=>PySem.Txt.find "abcdefghijklmnopqrstuvwxyz" ⟨#[c]⟩,m<=n):decide (0<=m)=l.all cZ:=by
 by_cases h:l.all cZ=true
 ·rw[h];obtain⟨c,a,rfl⟩:=zcE.mp h1;rw[vf c (i c a)];exact zby.mp h c a
 ·have:l.all cZ=false:=by simpa using h
  rw[this];obtain⟨c,a,e⟩:∃c∈l,cZ c=false:=by
   have:=List.all_eq_false.mp this;obtain⟨c,a,e⟩:=this;exact⟨c,a,by simpa using e⟩
  have q:=h2 _ (zcE.mpr ⟨c,a,rfl⟩);have j:=vf c (i c a);rw[e] at j;have o:=of_decide_eq_false j;exact yDf (by lia)
noncomputable def findD:D->D
 |.str s=>.int (PySem.Txt.find "abcdefghijklmnopqrstuvwxyz" s)
 |d=>d
section
variable {w:yal}{EP:Addr}
theorem Mv{x:D}(h:bY x=true):HR (bq S x) "tuple"=some (match x with|.tup _=>true|_=>false)/\HR (bq S x) "str"=some (match x with|.str _=>true|_=>false):=by
 rw[zc h];cases x<;>first|(simp[bY] at h;done)|exact⟨rfl,rfl⟩
noncomputable def isName(x:D):Bool:=match x with
 |.str s=>decide (1<=s.length)&&decide (s.length<=8)&&s.cps.toList.all cZ
 |_=>false
noncomputable def Pc:D->D
 |.str s=>.bl (s.cps.toList.all cZ)
 |d=>d
theorem lt1(a b:Nat):decide ([a]<[b])=decide (a<b):=by
 by_cases h:a<b
 ·rw[yDt h];exact yDt (by simpa[List.cons_lt_cons_iff] using h)
 ·rw[yDf h];exact yDf (by simpa[List.cons_lt_cons_iff] using h)
theorem Eb{c:Nat}{Q:AK}(q:Q (.dat (Pc (.str ⟨#[c]⟩))) S):lC Qm Qm (aC (.str "a")) (cQ 0) (aC (.str "z")) ((fW [none] δ).set 0 (some (.str ⟨#[c]⟩))) S Q:=by
 have i:(("a":Str)).cps.toList=[97]:=by decide+kernel
 have e:(("z":Str)).cps.toList=[122]:=by decide+kernel
 have a:(⟨#[c]⟩:Str).cps.toList=[c]:=rfl;simp only[fW,zco,zcB,Option.bind_none,zaU,lC,aC,cQ,zan,zcW.injEq,exists_eq_left',cB,HH,D.bl.injEq,i,e,a,lt1];have q:Q (.dat (.bl ((decide (97<=c)&&decide (c<=122))&&true))) S:=q;rw[zcx] at q;refine jq (λh=>?_) (λh=>?_)
 ·have h:97<=c:=by simpa using h
  rw[yDt h,zcy] at q;have:(!decide (122<c))=decide (c<=122):=by
   by_cases z:c<=122
   ·simp[z]
   ·simp[z];lia
  rw[this];exact q
 ·have h:¬97<=c:=by intro z;exact h (by simp;omega)
  rw[yDf h,zcg] at q;exact q
def CK:AN:=λa S Q=>∃x,a=[x]/\bY x=true/\(∀s,x=.str s->s.length<=1000)/\Q (.dat (.bl (isName x))) S
theorem MT(T:Txt K mg cs CP C fi)(F:Src K mg "is_name" kJ (top 19)):Def P w K mg base 1 "is_name" kJ (aN K CK):=by
 refine l5 F Lh (λo S Q h=>?_) (λf u A outer s H E L=>?_)
 ·obtain⟨x,rfl,_⟩:=h;rfl
 ·refine⟨_,(Tr (T6 (M.gX (Ux (TM M.OZ T.isinstance (To (Tn 0) (To (M.qw "str" (by rfl) T.str (by decide+kernel)) Tt))))) (Tw (TL Uk)) T7) (Tw (TL (UH (M.jW UI UI Tu (TM T9 T.len (Tp (Tn 0))) T.xB) (M.kU (TM (M.JQ rfl) T.all (To (Uw ["sign"] [none] (Uq (Tn 0)) (λ_ _ _ _=>Uj) (λ_ _ _ _=>(M.jW UI UI Tv (Tn 0) Tv))) Tt))))))),λo S Q h=>?_⟩;obtain⟨x,rfl,e,m,q⟩:=h;have n:aL Ar [x]=[some x]:=rfl;rw[n];push_cast[(Mv (S:=S) e).2];cases x<;>first|(simp[bY] at e;done)|skip
  case str y=>
   push_cast[true_and];have I:=m y rfl;refine⟨y.length,by simp only[gC];rw[yIp (by rw[yag];lia)],?_⟩;have l:isName (.str y)=(decide (1<=y.length)&&decide (y.length<=8)&&y.cps.toList.all cZ):=rfl;rw[l] at q;refine jq (λh1=>?_) (λh1=>?_)
   ·have h1:1<=y.length:=by have:=of_decide_eq_true h1;lia
    refine jq (λh2=>?_) (λh2=>?_)
    ·have h2:y.length<=8:=by have:=of_decide_eq_true h2;lia
     rw[yDt h1,yDt h2] at q;simp only[dS,oV,u7,cQ,zan,zcW.injEq,exists_eq_left',cB];have a:(UA y).length=y.length:=by simp[UA,Str.length]
     refine comp_map (δ:=fW [none] [some (.str y)]) Pc trivial (UA y) [] _ rfl (λx j U i=>?_) (by rw[a,yag];simp;lia) ?_
     ·obtain⟨c,O,rfl⟩:=zcE.mp j;exact Eb i
     ·rw[zbT];refine⟨_,y.cps.toList.map cZ,rfl,?_,?_⟩
      ·simp only[nS,jZ,c6,UA,zcF];refine congrArg D.lst (zaJ λc _=>?_);show D.bl (cZ c&&true)=D.bl (cZ c);rw[zcx]
      ·show Uz S S _ Q;rw[eX];simpa[List.all_map] using q
    ·have h2:¬y.length<=8:=by intro z;exact h2 (yDt (by lia))
     rw[yDf h2,zch,zcg] at q;exact q
   ·have h1:¬1<=y.length:=by intro z;exact h1 (yDt (by lia))
    rw[yDf h1,zcg,zcg] at q;exact q
  all_goals (push_cast[true_and];exact q)
def rG:AN:=λa S Q=>∃y,a=[.str y]/\gf y=true/\Q (.dat (.bl (isName (.str y)))) S
theorem Ir(T:Txt K mg cs CP C fi)(F:Src K mg "_law_is_name" iC (top 37)):Def P w K mg base 1 "_law_is_name" iC (aN K rG):=by
 refine l5 F GB (λU S Q h=>?_) (λf W A outer s H E Y=>?_)
 ·obtain⟨x,rfl,_⟩:=h;rfl
 ·refine⟨_,(Tr (T6 (M.gX (M.nW UI UI Tu (TM T9 T.len (Tp (Tn 0))) Tu)) (Tw (TL Uk)) T7) (Tw (TL (Um UG (TM (M.Mc rfl) T.min (To (Uw ["_law_sign"] [none] (Uq (Tn 0)) (λ_ _ _ _=>Uj) (λ_ _ _ _=>(Ud PySem.F.plainAttrs_str PySem.F.slot_str_find PySem.F.type_str_find M.m_find Tv (Tp (Tn 0))))) Tt)) Tu (aS _))))),λU S Q h=>?_⟩;obtain⟨y,rfl,l,q⟩:=h;have O:aL wm [.str y]=[some (.str y)]:=rfl;rw[O];have X:y.length<=1000:=by
   have h:=l;unfold gf at h;rw[zbH] at h;have:=of_decide_eq_true h.2;lia
  have e:∀c∈y.cps.toList,c<128:=by
   have h:gf y=true:=l;unfold gf at h;rw[zbH] at h;exact λc n=>of_decide_eq_true (zby.mp h.1 c n)
  push_cast[true_and];have a:gC (.str y)=some y.length:=by simp only[gC];rw[yIp (by rw[yag];lia)]
  have I:isName (.str y)=(decide (1<=y.length)&&decide (y.length<=8)&&y.cps.toList.all cZ):=rfl;rw[I] at q;refine⟨y.length,a,?_⟩;refine jq (λh1=>?_) (λh1=>?_)
  ·have h1:1<=y.length:=by have:=of_decide_eq_true h1;lia
   refine jq (λh2=>?_) (λh2=>?_)
   ·have h2:¬y.length<=8:=by
     intro z;rw[yDt (show((y.length:Nat):Int)<=8 by lia)] at h2;cases h2
    rw[yDf h2,zch,zcg] at q;exact q
   ·have h2:y.length<=8:=by
     rcases zcJ 8 y.length with z|z
     ·exact absurd (by rw[yDf (show¬((y.length:Nat):Int)<=8 by lia)];rfl) h2
     ·exact z
    rw[yDt h1,yDt h2] at q;simp only[dS,oV,u7,cQ,zan,zcW.injEq,exists_eq_left',cB];have i:(UA y).length=y.length:=by simp[UA,Str.length]
    refine comp_map (δ:=fW [none] [some (.str y)]) findD trivial (UA y) [] _ rfl (λx u Z o=>?_) (by rw[i,yag];simp;lia) ?_
    ·obtain⟨c,n,rfl⟩:=zcE.mp u;push_cast[fW,zco,zcB,zaU,tN,xS,true_and];exact⟨_,_,rfl,rfl,o⟩
    ·rw[zbT];refine⟨_,y.cps.toList.map (λc=>PySem.Txt.find "abcdefghijklmnopqrstuvwxyz" ⟨#[c]⟩),rfl,?_,?_,λm L j=>?_⟩
     ·simp only[nS,jZ,c6,UA,zcF];rfl
     ·rw[zbN];show 0<y.length;assumption
     ·simp only[cB,Fx,true_and];rw[eX,all_min e L j];exact q
  ·have h1:¬1<=y.length:=by intro z;exact h1 (yDt (by lia))
   rw[yDf h1,zcg,zcg] at q;exact q
noncomputable def wC(y:Str):Bool:=isName (.str y)
theorem Hs(h:gf y=true):y.length<=1000:=by
 unfold gf at h;rw[zbH] at h;have:=of_decide_eq_true h.2;lia
def Lb:AN:=λa S Q=>∃ys:List Str,a=[.lst (ys.map D.str)]/\ys.length<=100/\(∀y∈ys,gf y=true)/\Q (.dat (.bl (ys.all wC))) S
theorem Sk(T:Txt K mg ec EP C fi)(F:Src K mg "are_names" qZ (top 29))(a:Def P w K mg base 1 "is_name" kJ (aN K CK)):Def P w K mg base 2 "are_names" qZ (aN K Lb):=by
 refine l5 F Ro (λu S Q h=>?_) (λf z A outer s H E n=>?_)
 ·obtain⟨x,rfl,_⟩:=h;rfl
 ·refine⟨_,(Tw (TL (TM (M.JQ rfl) T.all (To (Uw ["word"] [none] (Uq (Tn 0)) (λ_ _ _ _=>Uj) (λ_ _ _ _=>(TJ a n (Tp (Tn 0))))) Tt)))),λu S Q h=>?_⟩;obtain⟨ys,rfl,I,l,q⟩:=h;have o:aL Ky [.lst (ys.map D.str)]=[some (.lst (ys.map D.str))]:=rfl;rw[o];push_cast[true_and];refine Ae (Fg ⟨_,rfl,?_⟩);show cK (λ_=>True) (bg 0) gM _ (ys.map D.str) [] _ S _;refine comp_map (δ:=fW [none] [some (.lst (ys.map D.str))]) (λd=>.bl (isName d)) trivial _ [] _ rfl (λx m L j=>?_) (by rw[zbN,yag];simp;lia) ?_
  ·obtain⟨y,i,rfl⟩:=zcE.mp m;exact⟨_,rfl,_,rfl,rfl,λs e=>by cases e;exact Hs (l y i),j⟩
  ·rw[zbT];refine⟨_,ys.map wC,rfl,by rw[zcF,zcF];rfl,?_⟩;show Uz S S _ Q;rw[eX,List.all_map];exact q
theorem len_strs(h:ss.length<=1000):gC (.lst (ss.map D.str))=some ss.length:=by
 show some _=_;rw[zbN]
theorem Hf{i:Type}[DecidableEq i]{l m:List i}(h1:l.Nodup)(h2:m.Nodup)(h:∀a,a∈l↔a∈m):l.Perm m:=by
 rw[List.perm_iff_count];intro a;by_cases e:a∈l
 ·rw[List.Nodup.count h1,List.Nodup.count h2,yIp e,yIp ((h a).mp e)]
 ·rw[List.count_eq_zero_of_not_mem e,List.count_eq_zero_of_not_mem λz=>e ((h a).mpr z)]
theorem J5:∀l:List Str,∃d:List Str,d.Nodup/\(∀y,y∈d↔y∈l)/\d.length<=l.length/\(d.length<l.length↔¬l.Nodup)
 |[]=>⟨[],.nil,λ_=>.rfl,zcS _,by simp⟩
 |x::l=>by
  obtain⟨d,h1,h2,i,j⟩:=J5 l;by_cases a:x∈l
  ·refine⟨d,h1,λy=>?_,Nat.le_succ_of_le i,?_⟩
   ·rw[h2,zcn];exact⟨.inr,λz=>z.elim (λe=>e▸a) id⟩
   ·rw[zbu,zbP];exact⟨λ_ z=>z.1 a,λ_=>by lia⟩
  ·refine⟨x::d,zbP.mpr ⟨λz=>a ((h2 x).mp z),h1⟩,λy=>?_,by simpa using i,?_⟩
   ·rw[zcn,zcn,h2]
   ·rw[zbu,zbu,zbP,Nat.add_lt_add_iff_right,j];exact⟨λz w=>z w.2,λz w=>z ⟨a,w⟩⟩
theorem Gv{s:List Str}(n1:s.Nodup)(n2:∀y,y∈s↔y∈l):s.length<l.length↔¬l.Nodup:=by
 obtain⟨d,h1,h2,_,a⟩:=J5 l;rw[(Hf n1 h1 λy=>(n2 y).trans (h2 y).symm).length_eq];exact a
noncomputable def B8(ws:List Str):Bool:=!decide (5<(ws.drop 2).length)&&decide (ws.drop 2).Nodup&&(decide (ws.headD ""="knot")&&(decide (2<=ws.length)&&(ws.drop 1).all wC))
noncomputable def Cm(ws:List Str):Bool:=decide (ws.headD ""="tie")&&(decide (ws.length=4)&&(ws.drop 1).all wC)
theorem EW{a:Type}(l:List a)(k:Nat):Ue l (some (k:Int)) none=l.drop k:=by
 unfold Ue;rw[HT.iL,show HT.bX l.length l.length none=l.length by simp[HT.bX]];rcases Nat.le_total k l.length with h|h
 ·rw[zbX h,zap (by simp)]
 ·rw[Nat.min_eq_right h,zao h,zbz,List.take_nil]
theorem xZ(ws:List Str)(k:Nat):Ue (ws.map D.str) (some (k:Int)) none=(ws.drop k).map D.str:=by rw[EW,zcs]
def La:AN:=λe S Q=>∃a:List Str,e=[.lst (a.map D.str)]/\a.length<=100/\a≠[]/\(∀y∈a,gf y=true)/\Q (.dat (.bl (B8 a))) S
theorem Si(T:Txt K mg ec EP C fi)(F:Src K mg "is_knot_line" qY (top 27))(e:Def P w K mg base 2 "are_names" qZ (aN K Lb)):Def P w K mg base 3 "is_knot_line" qY (aN K La):=by
 refine l5 F Ou (λds S Q h=>?_) (λf cdv A outer s H E I=>?_)
 ·obtain⟨x,rfl,_⟩:=h;rfl
 ·refine⟨_,(Tr (TF 1 Ou.nd (TU TV (Tn 0) (TQ Tu) T4)) (Tr (T6 (UO (UU (TZ M.O1 (TM T9 T.len (Tp (Tn 1))) T.pX (aS _)) (UW (TZ M.OX (M.kW rfl (by rfl) T.len (by rfl) T.set (Tn 1)) (TM T9 T.len (Tp (Tn 1))) (aS _))))) (Tw (TL Uk)) T7) (Tw (TL (UH (Um (Ua I) (TR (Tn 0)) Tv (aS _)) (UH (Um UG (TM T9 T.len (Tp (Tn 0))) Tu (aS _)) (M.kU (TJ e I (To (TU TV (Tn 0) (TQ Tu) T4) Tt))))))))),λds S Q h=>?_⟩;obtain⟨a,rfl,Y,o,X,q⟩:=h;have e0:aL Kw [.lst (a.map D.str)]=[some (.lst (a.map D.str)),none]:=rfl;rw[e0];have u:∀k,(a.drop k).length<=100:=λk=>by rw[zbw];lia
  refine bW λN h=>?_;push_cast[true_and];rw[cF,show(2:Int)=((2:Nat):Int) from rfl,xZ];refine h _ _ ?_;clear h;unfold B8 at q;by_cases L:5<(a.drop 2).length
  ·refine e7 (λQ q=>?_) ?_
   ·push_cast[true_and];refine⟨(a.drop 2).length,len_strs (by have:=u 2;lia),?_⟩;rw[yIp (yDt (by lia))];exact q
   ·rw[yDt L,Bool.not_true,zcg,zcg] at q;push_cast[true_and];exact q
  rw[yDf L,Bool.not_false,zcy] at q;have W:gC (.lst (a.map D.str))=some a.length:=len_strs (by lia);have l:=len_strs (ss:=a.drop 2) (by have:=u 2;lia);have O:∀{b:Bool}{Q:Bool->aD->Prop},b= !decide (a.drop 2).Nodup->Q b S->sS (cQ 1) [some (.lst (a.map D.str)),some (.lst ((a.drop 2).map D.str))] S λx z=>∃n,gC (.lst ((a.drop 2).map D.str))=some n/\Q0 x.d (.int (n:Int)) z λr z=>∃b,r.d=.bl b/\Q b z:=λ{b Q} Z q=>by
   refine⟨.lst ((a.drop 2).map D.str),rfl,a.drop 2,rfl,by have:=u 2;lia,λU n1 n2=>⟨_,l,?_⟩⟩;refine⟨b,congrArg D.bl ?_,q⟩;rw[Z,<-decide_not];exact decide_eq_decide.mpr (Int.ofNat_lt.trans (Gv n1 n2))
  by_cases j:(a.drop 2).Nodup
  ·rw[yDt j,zcy] at q;refine lN (λQ q=>?_) ?_
   ·push_cast[true_and];refine⟨(a.drop 2).length,l,?_⟩;rw[yDf (by lia),yIn (by decide)];exact O (by rw[yDt j];rfl) q
   ·push_cast[true_and];obtain⟨x,r,rfl⟩:∃x r,a=x::r:=by
     cases a with
     |nil=>exact absurd rfl o
     |cons x r=>exact⟨x,r,rfl⟩
    refine⟨.str x,show ji _ ((0:Nat):Int)=_ from bU rfl,?_⟩;show BO (.str x) (.str "knot") S _;rw[gE];refine⟨_,rfl,?_⟩;have q:Q (.dat (.bl (decide (x="knot")&&(decide (2<=(x::r).length)&&r.all wC)))) S:=q;by_cases i:x="knot"
    ·rw[yDt i,zcy] at q;rw[yIp (yDt i)];refine⟨_,W,?_⟩;by_cases h2:2<=(x::r).length
     ·rw[yDt h2,zcy] at q;rw[yIp (yDt (by lia)),cF,show(1:Int)=((1:Nat):Int) from rfl,xZ];refine⟨r,rfl,by simp at Y;lia,λy m=>X y (zaA _ m),?_⟩;show Uz S S _ Q;rw[eX];exact q
     ·rw[yDf h2,zcg] at q;rw[yIn (by simp only[decide_eq_true_eq];lia),eX];exact q
    ·rw[yDf i,zcg] at q;rw[yIn (by simpa using i),eX];exact q
  ·rw[yDf j,zcg] at q;refine e7 (λQ q=>?_) ?_
   ·push_cast[true_and];refine⟨(a.drop 2).length,l,?_⟩;rw[yDf (by lia),yIn (by decide)];exact O (by rw[yDf j];rfl) q
   ·push_cast[true_and];exact q
def K9:AN:=λe S Q=>∃a:List Str,e=[.lst (a.map D.str)]/\a.length<=100/\a≠[]/\(∀y∈a,gf y=true)/\Q (.dat (.bl (Cm a))) S
theorem Sh(T:Txt K mg ec EP C fi)(F:Src K mg "is_tie_line" qX (top 28))(a:Def P w K mg base 2 "are_names" qZ (aN K Lb)):Def P w K mg base 3 "is_tie_line" qX (aN K K9):=by
 refine l5 F Rm (λL S Q h=>?_) (λf O A outer s H E l=>?_)
 ·obtain⟨x,rfl,_⟩:=h;rfl
 ·refine⟨_,(Tw (TL (UH (Um (Ua l) (TR (Tn 0)) Tv (aS _)) (UH (Um (Ua l) (TM T9 T.len (Tp (Tn 0))) Tu (aS _)) (M.kU (TJ a l (To (TU TV (Tn 0) (TQ Tu) T4) Tt))))))),λL S Q h=>?_⟩;obtain⟨e,rfl,z,m,u,q⟩:=h;have I:aL Kv [.lst (e.map D.str)]=[some (.lst (e.map D.str))]:=rfl;rw[I];have o:gC (.lst (e.map D.str))=some e.length:=len_strs (by lia);obtain⟨x,r,rfl⟩:∃x r,e=x::r:=by
   cases e with
   |nil=>exact absurd rfl m
   |cons x r=>exact⟨x,r,rfl⟩
  push_cast[true_and];refine⟨.str x,show ji _ ((0:Nat):Int)=_ from bU rfl,?_⟩;show BO (.str x) (.str "tie") S _;rw[gE];refine⟨_,rfl,?_⟩;have q:Q (.dat (.bl (decide (x="tie")&&(decide ((x::r).length=4)&&r.all wC)))) S:=q;by_cases i:x="tie"
  ·rw[yDt i,zcy] at q;rw[yIp (yDt i)];refine⟨_,o,?_⟩;by_cases n:(x::r).length=4
   ·rw[yDt n,zcy] at q;rw[yIp (yDt (by lia)),cF,show(1:Int)=((1:Nat):Int) from rfl,xZ];refine⟨r,rfl,by simp at z;lia,λy j=>u y (zaA _ j),?_⟩;show Uz S S _ Q;rw[eX];exact q
   ·rw[yDf n,zcg] at q;rw[yIn (by simp only[decide_eq_true_eq];lia),eX];exact q
  ·rw[yDf i,zcg] at q;rw[yIn (by simpa using i),eX];exact q
end
open PySem PySem.Spec L2 M M6 PyProof.Rows
noncomputable abbrev sX:List Str:=["lines","web","number","line","words"]
noncomputable abbrev fJ:=sX.take 1
theorem fM:aE sX fJ (ah (top 26)):=L2.cL
structure tD(S S':aD)(own:List Nat):Prop where
 keep:∀k,k<S.length->S'[k]? =S[k]?
 len:S.length<=S'.length
 own:∀c∈own,S.length<=c
theorem tD.step{j i:aD}{a:List Nat}(h:tD S j own)(f:Fr j i own a):tD S i a:=
 ⟨λk e=>by rw[f.out k (zaV e h.len) λz=>by have:=h.own k z;lia];exact h.keep k e,zcH h.len f.len,λc l=>by
  rcases f.new c l with z|z
  ·exact h.own c z
  ·exact zcH h.len z⟩
def OQ(C:Addr)(W:yal)(S:aD)(ks:List Kn)(ts:List Ti)(Q:AK):Prop:=∀a own,di C W a S.length own ks ts->tD S a own->Q (.dat (.loc S.length)) a
theorem qK{a:aD}(i:∀k,k<S.length->a[k]? =(S++[o])[k]?)(l:a.length=S.length+4):tD S a [S.length,S.length+1,S.length+2,S.length+3]:=
 ⟨λk e=>by rw[i k e,zaf e],by lia,λc j=>by simp at j;lia⟩
noncomputable def QX(n:Nat)(xs:List D):List D:=(xs.zipIdx n).map λp=>.tup [.int (p.2:Nat),p.1]
theorem kh(n:Nat)(x:D)(xs:List D):QX n (x::xs)=.tup [.int (n:Nat),x]::QX (n+1) xs:=rfl
noncomputable def gu(n:Nat)(ws:List Str)(ks:List Kn)(ts:List Ti):(Nat×D) ⊕ (List Kn×List Ti):=
 if B8 ws=true then
  if ws.getD 1 ""∈nms ks then .inl (3,.str (ws.getD 1 "")) else if ks.length=40 then .inl (4,.str "knots") else .inr (ks++[(ws.getD 1 "",ws.drop 2)],ts)
 else if Cm ws=true then
  if ws.getD 1 "" ∉ nms ks then .inl (0,.str (ws.getD 1 "")) else if ws.getD 3 "" ∉ nms ks then .inl (0,.str (ws.getD 3 "")) else
  if(ws.getD 1 "",ws.getD 2 "",ws.getD 3 "")∈ts then .inl (3,.str (ws.getD 2 "")) else if ts.length=300 then .inl (4,.str "ties") else .inr (ks,ts++[(ws.getD 1 "",ws.getD 2 "",ws.getD 3 "")])
 else .inl (8,.int (n:Nat))
noncomputable def mw:Nat->List (List Str)->List Kn->List Ti->(Nat×D) ⊕ (List Kn×List Ti)
 |_,[],ks,ts=>.inr (ks,ts)
 |n,ws::r,ks,ts=>match gu n ws ks ts with
  |.inl e=>.inl e
  |.inr p=>mw (n+1) r p.1 p.2
noncomputable def c5(l:Str):List Str:=PySem.Txt.split l " "
def pM(l:Str):Prop:=l.length<=10000/\(c5 l).length<=60/\c5 l≠[]/\∀y∈c5 l,gf y=true
theorem sr(h:B8 ws=true):∃(x:Str)(a:List Str),ws=("knot":Str)::x::a/\a.length<=5/\a.Nodup:=by
 unfold B8 at h;simp only[zbH,Bool.not_eq_true',decide_eq_true_eq,decide_eq_false_iff_not] at h;obtain⟨⟨h1,h2⟩,i,e,_⟩:=h
 match ws,i,e with
 |x::y::a,i,_=>exact⟨y,a,by rw[show x="knot" from i],by simpa using h1,h2⟩
 |[x],_,e=>simp at e
 |[],_,e=>simp at e
theorem rz(h:Cm ws=true):∃a b c:Str,ws=[("tie":Str),a,b,c]:=by
 unfold Cm at h;simp only[zbH,decide_eq_true_eq] at h;obtain⟨e,i,_⟩:=h
 match ws,e,i with
 |[x,a,b,c],e,_=>exact⟨a,b,c,by rw[show x="tie" from e]⟩
structure Wk(ks:List Kn)(ts:List Ti):Prop where
 k:ks.length<=40
 t:ts.length<=300
section
variable {w:yal}{EP:Addr}
def CI(C:Addr)(W:yal):AN:=λj S Q=>∃(a:List Str)(i:List Kn)(e:List Ti),j=[.lst (a.map D.str)]/\a.length<=1000/\(∀l∈a,pM l)/\mw 0 (a.map c5) [] []=.inr (i,e)/\OQ C W S i e Q
theorem MN{fdi:yaq}(T:Txt K mg ec EP C fi)(F:Src K mg "read_web" fJ (top 26))(ab:bL P w K mg base iF 1 fi fdi fK (aN K (wO C w)))(ac:Binds K fdi fK [])(L:cX P w K mg base 2 C "put_knot" eN (nD C w))(O:cX P w K mg base 2 C "put_tie" eK (nC C w))(i:Def P w K mg base 3 "is_knot_line" qY (aN K La))(y:Def P w K mg base 3 "is_tie_line" qX (aN K K9)):Def P w K mg base 4 "read_web" fJ (aN K (CI C w)):=by
 refine Sf F fM (λds S Q h=>?_) (λf cdv A outer s H E hr=>?_)
 ·obtain⟨ls,ks,ts,rfl,_⟩:=h;rfl
 ·refine⟨_,(Tr (TF 1 fM.nd (M.jT T.Gb ab ac (hr.mono (by decide)) (by rfl) T.DZ)) (Tr (Uu PassesOwn.never rfl (M.mz (by rfl) T.enumerate (Tp (Tn 0))) (M.oh (n:=2) rfl (UJ (Ul 2 fM.nd) (UJ (Ul 3 fM.nd) M.jR))) (Tr (TF 4 fM.nd (Ud PySem.F.plainAttrs_str PySem.F.slot_str_split PySem.F.type_str_split UX (Tn 3) (Tp Tv))) (Tw (T6 (Ux (TJ i hr (Tp (Tn 4)))) (Tw (Uh (Us (Tn 1) T.cl L (hr.mono (by decide)) (To (TR (Tn 4)) (To (TU TV (Tn 4) (TQ Tu) T4) Tt))))) (Tw (T6 (Ux (TJ y hr (Tp (Tn 4)))) (Tw (Uh (Us (Tn 1) T.cl O (hr.mono (by decide)) (To (TR (Tn 4)) (To (TR (Tn 4)) (To (TR (Tn 4)) Tt)))))) (Tw UE))))))) (Tw (TL (Tn 1))))),λds S Q h=>?_⟩;obtain⟨ls,ks,ts,rfl,hl,hok,hrd,q⟩:=h;have e0:aL sX [.lst (ls.map D.str)]=[some (.lst (ls.map D.str)),none,none,none,none]:=rfl;rw[e0];push_cast[Fv,kG,zQ];refine⟨S.length,rfl,by rw[zaO];rfl,bJ,λS1 X1 o l1=>⟨rfl,?_⟩⟩;refine⟨_,rfl,?_⟩;generalize hLS:D.lst (ls.map D.str)=LS;refine dJ (λrest δ S'=>∃(U:List Str)(o:List Kn)(I:List Ti)(own:List Nat)(j:Nat)(v2 v3 v4:Option D),rest=QX j (U.map D.str)/\(∀l∈U,pM l)/\mw j (U.map c5) o I=.inr (ks,ts)/\Wk o I/\δ=[some LS,some (.loc S.length),v2,v3,v4]/\di C w S' S.length own o I/\tD S S' own) ?_ ?_ _ _ _ ⟨ls,[],[],_,0,none,none,none,rfl,hok,hrd,⟨by simp,by simp⟩,rfl,X1,qK o l1⟩
  ·rintro δ S2 ⟨U,o,I,own,j,v2,v3,v4,Y,_,e2,_,rfl,X2,k2⟩;have:U=[]:=by cases U with|nil=>rfl|cons _ _=>rw[zco,kh] at Y;cases Y
   subst this;cases e2;exact⟨trivial,_,rfl,q S2 own X2 k2⟩
  ·rintro x xs δ S2 N ⟨U,o,I,own,j,v2,v3,v4,Y,ho,e2,wk,rfl,X2,k2⟩ hN;cases U with
   |nil=>cases Y
   |cons l U=>
    rw[zco,kh] at Y;injection Y with Y e3;subst Y;subst e3;obtain⟨m,t,e,cs,ro,rk,X⟩:=id X2;obtain⟨b1,b2,b3,b4⟩:=ho l (by simp);have ho':∀l∈U,pM l:=λl' h'=>ho l' (zaA _ h');have u:(match gu j (c5 l) o I with
     |.inl e=>.inl e
     |.inr p=>mw (j+1) (U.map c5) p.1 p.2)=Sum.inr (ks,ts):=e2
    refine⟨trivial,_,rfl,rfl,_,_,rfl,_,_,rfl,rfl,?_⟩;refine bW λN1 h1=>?_;push_cast[tN];refine⟨rfl,_,_,rfl,rfl,by decide+kernel,by rw[yag];lia,?_⟩;show N1 [_,_,_,_,some (.lst ((c5 l).map D.str))] S2;refine h1 _ _ ?_;clear h1;generalize c5 l=ws at b2 b3 b4 u;push_cast[true_and];refine⟨ws,rfl,by lia,b3,b4,B8 ws,rfl,?_⟩;cases hk:B8 ws with
    |true=>
     rw[yIp rfl];obtain⟨x,ms,rfl,m1,m2⟩:=sr hk;rw[show gu j ("knot"::x::ms) o I=if x∈nms o then .inl (3,.str x) else if o.length=40 then .inl (4,.str "knots") else .inr (o++[(x,ms)],I) by unfold gu;rw[yIp hk];rfl] at u;by_cases Z:x∈nms o
     ·rw[yIp Z] at u;cases u
     by_cases c2:o.length=40
     ·rw[yIn Z,yIp c2] at u;cases u
     rw[yIn Z,yIn c2] at u;have:=wk.k;refine dh rfl X.at_ (by decide+kernel) ⟨_,rfl,.str x,show ji _ ((1:Nat):Int)=_ from bU rfl,_,rfl,2,rfl,?_⟩;simp only[eG,jx,nS,cB,jZ,cF,show(2:Int)=((2:Nat):Int) from rfl,xZ];exact⟨S.length,x,.lst (ms.map D.str),ms,own,o,I,rfl,.inl rfl,X2,Z,by lia,by lia,m2,b4 x (by simp),λm hm=>b4 m (by simp[hm]),λS4 W X4 f4=>hN _ _ ⟨U,_,_,W,_,_,_,_,rfl,ho',u,⟨by rw[zaO];show o.length+1<=40;lia,wk.t⟩,rfl,X4,k2.step f4⟩⟩
    |false=>
     rw[yIn (by decide)];refine⟨ws,rfl,by lia,b3,b4,Cm ws,rfl,?_⟩;cases ht:Cm ws with
     |true=>
      rw[yIp rfl];obtain⟨a,b,c,rfl⟩:=rz ht;rw[show gu j ["tie",a,b,c] o I=if a ∉ nms o then .inl (0,.str a) else if c ∉ nms o then .inl (0,.str c) else if(a,b,c)∈I then .inl (3,.str b) else if I.length=300 then .inl (4,.str "ties") else .inr (o,I++[(a,b,c)]) by unfold gu;rw[yIn (by rw[hk];decide),yIp ht];rfl] at u;by_cases Z:a∈nms o
      ·rw[yIn (λz=>z Z)] at u;by_cases c2:c∈nms o
       ·rw[yIn (λz=>z c2)] at u;by_cases c3:(a,b,c)∈I
        ·rw[yIp c3] at u;cases u
        by_cases c4:I.length=300
        ·rw[yIn c3,yIp c4] at u;cases u
        rw[yIn c3,yIn c4] at u;have:=wk.t;exact dh rfl X.at_ (by decide+kernel) ⟨_,rfl,.str a,rfl,_,rfl,.str b,rfl,_,rfl,.str c,rfl,S.length,(a,b,c),own,o,I,rfl,X2,Z,c2,c3,by lia,oq (b4 a (by simp)) (b4 b (by simp)) (b4 c (by simp)),λS4 W X4 f4=>hN _ _ ⟨U,_,_,W,_,_,_,_,rfl,ho',u,⟨wk.k,by rw[zaO];show I.length+1<=300;lia⟩,rfl,X4,k2.step f4⟩⟩
       ·rw[yIp c2] at u;cases u
      ·rw[yIp Z] at u;cases u
     |false=>
      rw[show gu j ws o I=.inl (8,.int (j:Nat)) by unfold gu;rw[yIn (by rw[hk];decide),yIn (by rw[ht];decide)]] at u;cases u
end
open PySem PySem.Spec L2 M M6 PyProof.Rows
section
variable {w:yal}{EP:Addr}
theorem uO{m:Str}{sp:AN}{Q:AK}{d:D}{fl:List Str}(a:δ[i]? =some (some (.loc n)))(o:S[n]? =some (some (.ins C fl ds)))(l:m ∉ fl)(h:t δ S λes e=>sp (.loc n::es) e Q∨(bad (.loc n::es) e j d/\bY d=true/\e.take S0.length=S0)):Ft C m sp bad S0 j d (cQ i) t δ S Q:=⟨_,a,n,_,_,rfl,o,l,h⟩
theorem tD.take{a:aD}(h:tD S a own):a.take S.length=S:=by
 refine List.ext_getElem? λk=>?_;rw[zaQ];split
 ·next hk=>exact h.keep k hk
 ·next hk=>rw[zau (by lia)]
def Ai:List D->aD->Nat->D->Prop:=λe _ j d=>∃a:List Str,e=[.lst (a.map D.str)]/\a.length<=1000/\(∀l∈a,pM l)/\mw 0 (a.map c5) [] []=.inl (j,d)
theorem Ik{fdi:yaq}(T:Txt K mg ec EP C fi)(F:Src K mg "read_web" fJ (top 26))(ab:bL P w K mg base iF 1 fi fdi fK (aN K (wO C w)))(ac:Binds K fdi fK [])(E:lU P w K mg base 4 C "put_knot" eN (nD C w) EP ec Ca (Aj C w))(I:lU P w K mg base 4 C "put_tie" eK (nC C w) EP ec Ca (Fd C w Kf))(o:Def P w K mg base 3 "is_knot_line" qY (aN K La))(y:Def P w K mg base 3 "is_tie_line" qX (aN K K9))(pO:lD P w K mg base 1 "NoLine" (ec 8) f9 (lW (ec 8) "at")):Jo P w K mg base 5 "read_web" fJ (BN K EP ec Ca Ai):=by
 refine PC F fM (λds S j d h=>?_) (λf cdv A outer s H w0 Q j d hr ok0=>?_)
 ·obtain⟨ls,rfl,_⟩:=h;rfl
 ·refine⟨_,(Uv (TF 1 fM.nd (M.jT T.Gb ab ac (hr.mono (by decide)) (by rfl) T.DZ)).w (Uv (M.Od RQ rfl (M.mz (by rfl) T.enumerate (Tp (Tn 0))) (M.oh (n:=2) rfl (UJ (Ul 2 fM.nd) (UJ (Ul 3 fM.nd) M.jR))) (Uv (TF 4 fM.nd (Ud PySem.F.plainAttrs_str PySem.F.slot_str_split PySem.F.type_str_split UX (Tn 3) (Tp Tv))).w (Ur (UD (Ux (TJ o hr (Tp (Tn 4)))) (Ur (M.rj (M.yG ok0 Ga (Tn 1) T.cl E (hr.mono (by decide)) (To (TR (Tn 4)) (To (TU TV (Tn 4) (TQ Tu) T4) Tt))))) (Ur (UD (Ux (TJ y hr (Tp (Tn 4)))) (Ur (M.rj (M.yG ok0 Ga (Tn 1) T.cl I (hr.mono (by decide)) (To (TR (Tn 4)) (To (TR (Tn 4)) (To (TR (Tn 4)) Tt)))))) (Ur (M.Cf ok0 Ga pO rfl (T.xi 8 (by decide)).toXCls (T.sub 8 (by decide)) (hr.mono (by decide)) (by rfl) (Tn 2))))))))) M.l9)),λds h=>?_⟩;obtain⟨ls,rfl,hl,hok,hrd⟩:=h;have e0:aL sX [.lst (ls.map D.str)]=[some (.lst (ls.map D.str)),none,none,none,none]:=rfl;rw[e0];refine bW λN h=>?_;push_cast[Fv];refine⟨Q.length,rfl,by rw[zaO];rfl,bJ,λS1 X1 i l1=>⟨rfl,h _ _ ?_⟩⟩;clear h;push_cast[kG,zQ];refine⟨_,rfl,?_⟩;generalize hLS:D.lst (ls.map D.str)=LS;refine dJ (λrest δ S'=>∃(O:List Str)(i:List Kn)(q:List Ti)(own:List Nat)(n:Nat)(v2 v3 v4:Option D),rest=QX n (O.map D.str)/\(∀l∈O,pM l)/\mw n (O.map c5) i q=.inl (j,d)/\Wk i q/\δ=[some LS,some (.loc Q.length),v2,v3,v4]/\di C w S' Q.length own i q/\tD Q S' own) ?_ ?_ _ _ _ ⟨ls,[],[],_,0,none,none,none,rfl,hok,hrd,⟨by simp,by simp⟩,rfl,X1,qK i l1⟩
  ·rintro δ S2 ⟨O,i,q,own,n,v2,v3,v4,Z,_,e2,_,rfl,Y,k2⟩;have:O=[]:=by cases O with|nil=>rfl|cons _ _=>rw[zco,kh] at Z;cases Z
   subst this;cases e2
  ·rintro x xs δ S2 N ⟨O,i,q,own,n,v2,v3,v4,Z,ho,e2,wk,rfl,Y,k2⟩ hN;cases O with
   |nil=>cases Z
   |cons l O=>
    rw[zco,kh] at Z;injection Z with Z e3;subst Z;subst e3;obtain⟨m,t,e,cs,ro,rk,X⟩:=id Y;obtain⟨b1,b2,b3,b4⟩:=ho l (by simp);have ho':∀l∈O,pM l:=λl' h'=>ho l' (zaA _ h');have u:(match gu n (c5 l) i q with
     |.inl e=>.inl e
     |.inr p=>mw (n+1) (O.map c5) p.1 p.2)=Sum.inl (j,d):=e2
    refine⟨trivial,_,rfl,rfl,_,_,rfl,_,_,rfl,rfl,?_⟩;refine bW λN1 h1=>?_;push_cast[tN];refine⟨rfl,_,_,rfl,rfl,by decide+kernel,by rw[yag];lia,?_⟩;show N1 [_,_,_,_,some (.lst ((c5 l).map D.str))] S2;refine h1 _ _ ?_;clear h1;have tk:=k2.take;generalize c5 l=ws at b2 b3 b4 u;push_cast[true_and];refine⟨ws,rfl,by lia,b3,b4,B8 ws,rfl,?_⟩;cases hk:B8 ws with
    |true=>
     rw[yIp rfl];obtain⟨x,ms,rfl,m1,m2⟩:=sr hk;rw[show gu n ("knot"::x::ms) i q=if x∈nms i then .inl (3,.str x) else if i.length=40 then .inl (4,.str "knots") else .inr (i++[(x,ms)],q) by unfold gu;rw[yIp hk];rfl] at u;refine uO rfl X.at_ (by decide+kernel) ⟨_,rfl,.str x,show ji _ ((1:Nat):Int)=_ from bU rfl,_,rfl,2,rfl,?_⟩;simp only[eG,jx,nS,cB,jZ,cF,show(2:Int)=((2:Nat):Int) from rfl,xZ];by_cases L:x∈nms i
     ·rw[yIp L] at u;cases u;exact .inr ⟨⟨Q.length,x,_,own,i,q,rfl,Y,.inl ⟨L,rfl,rfl⟩⟩,rfl,tk⟩
     by_cases W:i.length=40
     ·rw[yIn L,yIp W] at u;cases u;exact .inr ⟨⟨Q.length,x,_,own,i,q,rfl,Y,.inr ⟨L,W,rfl,rfl⟩⟩,rfl,tk⟩
     rw[yIn L,yIn W] at u;have:=wk.k;exact .inl ⟨Q.length,x,.lst (ms.map D.str),ms,own,i,q,rfl,.inl rfl,Y,L,by lia,by lia,m2,b4 x (by simp),λm hm=>b4 m (by simp[hm]),λS4 U X4 f4=>hN _ _ ⟨O,_,_,U,_,_,_,_,rfl,ho',u,⟨by rw[zaO];show i.length+1<=40;lia,wk.t⟩,rfl,X4,k2.step f4⟩⟩
    |false=>
     rw[yIn (by decide)];refine⟨ws,rfl,by lia,b3,b4,Cm ws,rfl,?_⟩;cases ht:Cm ws with
     |true=>
      rw[yIp rfl];obtain⟨a,b,c,rfl⟩:=rz ht;rw[show gu n ["tie",a,b,c] i q=if a ∉ nms i then .inl (0,.str a) else if c ∉ nms i then .inl (0,.str c) else if(a,b,c)∈q then .inl (3,.str b) else if q.length=300 then .inl (4,.str "ties") else .inr (i,q++[(a,b,c)]) by unfold gu;rw[yIn (by rw[hk];decide),yIp ht];rfl] at u;refine uO rfl X.at_ (by decide+kernel) ⟨_,rfl,.str a,rfl,_,rfl,.str b,rfl,_,rfl,.str c,rfl,?_⟩;have ox:=oq (b4 a (by simp)) (b4 b (by simp)) (b4 c (by simp));by_cases L:a∈nms i
      ·rw[yIn (λz=>z L)] at u;by_cases W:c∈nms i
       ·rw[yIn (λz=>z W)] at u;by_cases c3:(a,b,c)∈q
        ·rw[yIp c3] at u;cases u;exact .inr ⟨⟨Q.length,(a,b,c),own,i,q,rfl,Y,.inr (.inr ⟨L,W,ox,.inl ⟨c3,rfl,rfl⟩⟩)⟩,rfl,tk⟩
        by_cases c4:q.length=300
        ·rw[yIn c3,yIp c4] at u;cases u;exact .inr ⟨⟨Q.length,(a,b,c),own,i,q,rfl,Y,.inr (.inr ⟨L,W,ox,.inr ⟨c3,c4,rfl,rfl⟩⟩)⟩,rfl,tk⟩
        rw[yIn c3,yIn c4] at u;have:=wk.t;exact .inl ⟨Q.length,(a,b,c),own,i,q,rfl,Y,L,W,c3,by lia,ox,λS4 U X4 f4=>hN _ _ ⟨O,_,_,U,_,_,_,_,rfl,ho',u,⟨wk.k,by rw[zaO];show q.length+1<=300;lia⟩,rfl,X4,k2.step f4⟩⟩
       ·rw[yIp W] at u;cases u;exact .inr ⟨⟨Q.length,(a,b,c),own,i,q,rfl,Y,.inr (.inl ⟨L,W,rfl,rfl⟩)⟩,rfl,tk⟩
      ·rw[yIp L] at u;cases u;exact .inr ⟨⟨Q.length,(a,b,c),own,i,q,rfl,Y,.inl ⟨L,rfl,rfl⟩⟩,rfl,tk⟩
     |false=>
      rw[show gu n ws i q=.inl (8,.int (n:Nat)) by unfold gu;rw[yIn (by rw[hk];decide),yIn (by rw[ht];decide)]] at u;cases u;exact⟨_,rfl,rfl,rfl,rfl,tk⟩
end
open PySem PySem.Spec L2 M M6 PyProof.Rows
noncomputable abbrev Kx:List Str:=["_law_words"]
noncomputable abbrev vY:=Kx
theorem Rn:aE Kx vY (ah (top 41)):=L2.cL
theorem zY(bs:List Bool):fit (.lst (bs.map D.bl))=true:=by
 have h:∀bs:List Bool,bQ (bs.map D.bl)=true/\PyData.canLayAll0 (dY (bs.map D.bl))=true/\PyData.depthAll (dY (bs.map D.bl))=0:=λbs=>by
  induction bs with
  |nil=>exact⟨rfl,rfl,rfl⟩
  |cons b bs ih=>
   obtain⟨h1,h2,a⟩:=ih;refine⟨by simp only[zco,bQ,bY,h1,zcw],?_,?_⟩
   ·simp only[zco,dY,py,PyData.canLayAll0,PyData.canLay0,h2,zcw]
   ·simp only[zco,dY,py,PyData.depthAll,PyData.depth,a];rfl
 obtain⟨h1,h2,a⟩:=h bs;unfold fit PySem.SeqAt.shaped;simp only[bY,py,PyData.canLay0,PyData.depth,h1,h2,a];decide
theorem Mx(bs:List Bool):inD (.bl false) (bs.map D.bl)= !(bs.all id):=by
 unfold inD
 induction bs with
 |nil=>rfl
 |cons b bs ih=>
  rw[zco,zcp,ih,zcq];cases b<;>rfl
theorem ve(z:n+1<=64)(h:∀d∈ds,tL n d=true):fit (.lst ds)=true:=by
 have all:∀ds:List D,(∀d∈ds,tL n d=true)->bQ ds=true/\PyData.canLayAll0 (dY ds)=true/\PyData.depthAll (dY ds)<=n:=by
  intro ds
  induction ds with
  |nil=>intro _;simp[bQ,dY,PyData.canLayAll0,PyData.depthAll]
  |cons d ds ih=>
   intro h;obtain⟨u,q,E⟩:=Cp n d (h d (by simp));obtain⟨o,m,C⟩:=ih λy e=>h y (by simp[e]);refine⟨by simp[bQ,u,o],by simp[dY,PyData.canLayAll0,q,m],?_⟩;simp only[dY,PyData.depthAll];lia
 obtain⟨a,b,c⟩:=all ds h;unfold fit PySem.SeqAt.shaped;have l:bY (.lst ds)=true:=by simpa[bY] using a
 have j:(py (.lst ds)).canLay0=true:=by simpa[py,PyData.canLay0] using b
 have i:(py (.lst ds)).depth<=64:=by simp only[py,PyData.depth];lia
 rw[l,j,yDt i];rfl
theorem EA(h:∀s∈ss,gf s=true):fit (.lst (ss.map D.str))=true:=ve (n:=0) (by decide) λd a=>by
 obtain⟨y,e,rfl⟩:=zcE.mp a;exact h y e
theorem HW(y:Str)(ss:List Str):inD (.str y) (ss.map D.str)=decide (y∈ss):=by
 unfold inD;rw[zcC];by_cases h:y∈ss
 ·rw[yDt h];exact zbG.mpr ⟨y,h,by simp[py,PyData.eqv]⟩
 ·rw[yDf h];refine zbd.mpr λk a z=>h ?_;have z:PyData.eqv (.str k) (.str y)=true:=z;have:k=y:=by simpa[PyData.eqv] using z
  rw[<-this];exact a
theorem HU{x:D}{Q:AK}(i:bq S x=.lst (ss.map D.str))(e:gf y=true)(a:∀s∈ss,gf s=true)(q:Q (.dat (.bl (neg != decide (y∈ss)))) S):Fw neg (.str y) x S Q:=by
 unfold Fw;rw[i];refine⟨rA (n:=0) (show tL 0 (.str y)=true from e) (by decide),EA a,?_⟩;rw[ue,HW];exact q
theorem HS(bs:List Bool):inD (.bl true) (bs.map D.bl)=bs.any id:=by
 unfold inD
 induction bs with
 |nil=>rfl
 |cons b bs ih=>
  rw[zco,zcp,ih,zcp];cases b<;>rfl
noncomputable def Km(l:List Str)(i:Nat):Bool:=(l[i]?.map λx=>decide (x∈l.take i)).getD false
theorem yh(h:l[i]? =some x):Km l i=decide (x∈l.take i):=by unfold Km;rw[h];rfl
theorem Hz(l:List Str):((zcX l.length).map (Km l)).any id= !decide l.Nodup:=by
 rw[<-decide_not];refine(zca.mpr ?_);rw[zcC,zbG,decide_eq_true_eq];constructor
 ·intro h nd;obtain⟨i,a,h⟩:=h;have a:=zcd.mp a;have h:Km l i=true:=h;rw[yh (zal a)] at h;obtain⟨k,n,e⟩:=zaI (of_decide_eq_true h);rw[zbv] at n;rw[zbk] at e;exact zah.mp nd k i (by lia) a (by lia) e
 ·intro nd;refine Classical.byContradiction λh=>nd (zah.mpr λi j a m o e=>h ⟨j,zcd.mpr m,?_⟩);show Km l j=true;rw[yh (zal m)];refine yDt ?_;rw[<-e];exact List.mem_iff_getElem.mpr ⟨i,by rw[zbv];lia,zbk ..⟩
theorem JR{Q:AK}(q:Q (.dat (.bl (!decide (x=y)))) S):Kp (.str x) (.str y) S Q:=q
theorem lz{n:Type}{P:aD->Prop}{t:AT}{e:AE}{Q:List D->aD->Prop}{δ:bF}{S:aD}(g:n->D)(c:n->Bool)(f:n->D)(o:P S):∀(as:List n)(j:List D)(i:bF),i.set 0 none=δ.set 0 none->
  (∀a∈as,∀Q:Bool->aD->Prop,Q (c a) S->t (δ.set 0 (some (g a))) S Q)->(∀a∈as,∀Q:AK,Q (.dat (f a)) S->e (δ.set 0 (some (g a))) S Q)->j.length+as.length<=yah->Q (j++(as.filter c).map f) S->
  cK P (bg 0) t e (as.map g) j i S Q
 |[],j,i,_,_,_,_,q=>⟨o,by simpa using q⟩
 |a::as,j,i,hd,ht,he,hl,q=>by
  refine⟨o,?_⟩;have y:i.set 0 (some (g a))=δ.set 0 (some (g a)):=by
   have:=congrArg (λl=>l.set 0 (some (g a))) hd;simpa[zcD] using this
  show bg 0 (g a) i S _;simp only[bg];rw[y];simp only[zbu] at hl;refine ht a (by simp) _ ?_;cases u:c a with
  |true=>
   rw[yIp rfl];refine he a (by simp) _ ⟨by lia,?_⟩;refine lz g c f o as _ _ (by simp[zcD]) (λx m=>ht x (by simp[m])) (λx m=>he x (by simp[m])) (by simp;lia) ?_;rw[List.filter_cons,u,yIp rfl,zco] at q;simpa[R.d,zbg] using q
  |false=>
   rw[yIn (by decide)];refine lz g c f o as _ _ (by simp[zcD]) (λx m=>ht x (by simp[m])) (λx m=>he x (by simp[m])) (by lia) ?_;rw[List.filter_cons,u,yIn (by decide)] at q;exact q
theorem kC{j:Type}{e:AE}{Q:List D->aD->Prop}(g f:j->D)(as:List j)(i:List D)(m:∀a∈as,∀Q:AK,Q (.dat (f a)) S->e (δ.set 0 (some (g a))) S Q)(l:i.length+as.length<=yah)(q:Q (i++as.map f) S):cK (λ_=>True) (bg 0) gM e (as.map g) i δ S Q:=
 lz g (λ_=>true) f trivial as i δ rfl (λa n Q q=>q) m l (by rw[List.filter_eq_self.mpr λ_ _=>rfl];exact q)
theorem IB(ws:List Str)(a k:Nat)(h:a+k<=ws.length):Ue (ws.map D.str) (some (a:Int)) (some ((a+k:Nat):Int))=((ws.drop a).map D.str).take k:=by
 unfold Ue;rw[HT.iL,HT.iL,zbN,zbX h,zbX (show a<=ws.length by lia),zcs];congr 1;lia
section
variable {w:yal}{EP:Addr}
def Oq:AN:=λe S Q=>∃a:List Str,e=[.lst (a.map D.str)]/\a.length<=60/\a≠[]/\(∀y∈a,gf y=true)/\Q (.dat (.bl (B8 a||Cm a))) S
theorem Sj(T:Txt K mg ec EP C fi)(F:Src K mg "_law_is_line" vY (top 41))(a:Def P w K mg base 1 "_law_is_name" iC (aN K rG)):Def P w K mg base 2 "_law_is_line" vY (aN K Oq):=by
 refine l5 F Rn (λds S Q h=>?_) (λf cdv A outer s H E l=>?_)
 ·obtain⟨x,rfl,_⟩:=h;rfl
 ·refine⟨_,(Tr (T6 (UO (UU (TZ M.OX (TM T9 T.len (Tp (Tn 0))) Tu (aS _)) (UW (TZ (M.DR l) Uk (Uw ["_law_word"] [none] (Uq (TU TV (Tn 0) (TQ Tu) T4)) (λ_ _ _ _=>Uj) (λ_ _ _ _=>(TJ a l (Tp (Tn 0))))) rfl)))) (Tw (TL Uk)) T7) (Tr (T6 (TZ (Ua l) (TR (Tn 0)) Tv (aS _)) (Tw (TL (Um (Ua l) (TM T9 T.len (Tp (Tn 0))) Tu (aS _)))) T7) (Tr (T6 (UO (UU (TZ (M.Mb l) (TR (Tn 0)) Tv (aS _)) (UW (TZ M.O1 (TM T9 T.len (Tp (Tn 0))) Tu (aS _))))) (Tw (TL Uk)) T7) (Tw (TL (Um (M.zD l) Uk (Uw ["_law_k","_law_words"] [none,some 0] (M.kT (by rfl) T.range (To Tu (To (TM T9 T.len (Tp (Tn 0))) Tt))) (λ_ _ _ _=>Uj) (λ_ _ _ _=>(Um (M.DR l) (Ub (Tn 1) (Tn 0)) (TU TV (Tn 1) (TQ Tu) (TQ (Tn 0))) rfl))) rfl)))))),λds S Q h=>?_⟩;obtain⟨n,rfl,hl,hne,hy,q⟩:=h;have e0:aL Kx [.lst (n.map D.str)]=[some (.lst (n.map D.str))]:=rfl;rw[e0];have u:gC (.lst (n.map D.str))=some n.length:=len_strs (by lia);obtain⟨x,r,rfl⟩:∃x r,n=x::r:=by
   cases n with
   |nil=>exact absurd rfl hne
   |cons x r=>exact⟨x,r,rfl⟩
  have hr':∀y∈r,gf y=true:=λy h=>hy y (zaA _ h);have q:Q (.dat (.bl (!decide (5<((x::r).drop 2).length)&&decide ((x::r).drop 2).Nodup&&(decide (x="knot")&&(decide (2<=(x::r).length)&&r.all wC))||decide (x="tie")&&(decide ((x::r).length=4)&&r.all wC)))) S:=q;by_cases h2:(x::r).length<2
  ·rw[yDf (show¬2<=(x::r).length by lia),yDf (show¬(x::r).length=4 by lia),zcg,zch,zch,zch,zcv] at q;refine e7 (λQ q=>?_) ?_
   ·push_cast[true_and];refine⟨_,u,?_⟩;rw[yDt (by lia),yIp rfl];exact q
   ·push_cast[true_and];exact q
  rw[yDt (show 2<=(x::r).length by lia),zcy] at q;have e:∀{Q:Bool->aD->Prop},Q (!r.all wC) S->(Qg (aB (yj Q0 (aCall Jb (fH (cQ 0) jx)) (aC (D.int 2)))) (aB (yj (Fw false) (aC (D.bl false)) (dS [none] (oV (Nn iY (cQ 0) (pI (aC (D.int 1))) eG)) (bg 0) gM (aCall rG (fH (cQ 0) jx)))))) [some (.lst ((x::r).map D.str))] S Q:=λ{Q} q=>by
   push_cast[true_and];refine⟨_,u,?_⟩;rw[yDf (by lia),yIn (by decide)];push_cast[dS,oV];rw[cF,show(1:Int)=((1:Nat):Int) from rfl,xZ];show cK (λ_=>True) (bg 0) gM _ (r.map D.str) [] [none] S _;refine comp_map (δ:=[none]) (λd=>.bl (isName d)) trivial _ [] _ rfl (λy X Q' W=>?_) (by rw[zbN,yag];simp at hl;simp;lia) ?_
   ·obtain⟨z,hz,rfl⟩:=zcE.mp X;exact⟨_,rfl,z,rfl,hr' z hz,W⟩
   ·rw[zbT,show(r.map D.str).map (λd=>D.bl (isName d))=(r.map wC).map D.bl by rw[zcF,zcF];rfl];refine⟨rfl,zY _,?_⟩;rw[rL,Mx,List.all_map];exact⟨_,rfl,by simpa using q⟩
  by_cases o:r.all wC=true
  ·rw[o,zcx,zcx] at q;refine lN (λQ q=>e (by rw[o];exact q)) ?_;have Kl:ji ((x::r).map D.str) 0=some (.str x):=show ji _ ((0:Nat):Int)=_ from bU rfl;by_cases Z:x="tie"
   ·subst Z;rw[yDf (show¬(("tie":Str)="knot") by decide+kernel),zch,zcu,yDt (show("tie":Str)="tie" from rfl),zcy] at q;refine e7 (λQ q=>?_) ?_
    ·push_cast[true_and];refine⟨_,Kl,?_⟩;show BO (.str "tie") (.str "tie") S _;rw[gE];exact⟨_,rfl,qT rfl q⟩
    ·push_cast[true_and];refine⟨_,u,?_⟩;rw[show decide ((((("tie":Str)::r).length:Nat):Int)=4)=decide ((("tie":Str)::r).length=4) from decide_eq_decide.mpr (by lia)];exact q
   ·rw[yDf Z,zcg,zcv] at q;refine lN (λQ q=>?_) ?_
    ·push_cast[true_and];refine⟨_,Kl,?_⟩;show BO (.str x) (.str "tie") S _;rw[gE];exact⟨_,rfl,qF Z q⟩
    by_cases O:x="knot"
    ·rw[yDt O,zcx] at q;have J8:∀{Q:Bool->aD->Prop},Q (decide (7<(x::r).length)) S->(Qg (aB (yj Kp (yj sU (cQ 0) (aC (D.int 0))) (aC (D.str "knot")))) (aB (yj (aI (λ_ _=>True) λi j=>D.bl (decide (j<i))) (aCall Jb (fH (cQ 0) jx)) (aC (D.int 7))))) [some (.lst ((x::r).map D.str))] S Q:=λ{Q} q=>by
      push_cast[true_and];refine⟨_,Kl,JR ?_⟩;refine⟨_,rfl,?_⟩;rw[yDt O,yIn (by decide)];refine⟨_,u,?_⟩;rw[show decide ((7:Int)<(((x::r).length:Nat):Int))=decide (7<(x::r).length) from decide_eq_decide.mpr (by lia)];exact q
     by_cases h7:7<(x::r).length
     ·rw[yDt (show 5<((x::r).drop 2).length by rw[zbw];lia),Bool.not_true,zcg] at q;refine e7 (λQ q=>J8 (qT h7 q)) ?_;push_cast[true_and];exact q
     ·rw[yDf (show¬5<((x::r).drop 2).length by rw[zbw];lia),Bool.not_false,zcy] at q;refine lN (λQ q=>J8 (qF h7 q)) ?_;push_cast[dS,M.qH];refine⟨_,u,by decide,by decide,by lia,by lia,?_⟩;have el:((((x::r).length:Nat):Int) - 2).toNat=((x::r).drop 2).length:=by rw[zbw];lia
      rw[el];generalize U:(x::r).drop 2=L at q;have I:∀y∈L,gf y=true:=λy h=>hy y (zaF (U▸h));have hLl:L.length+2=(x::r).length:=by rw[<-U,zbw];lia
      show cK (λ_=>True) (bg 0) gM _ ((zcX L.length).map λk:Nat=>.int (2+(k:Int))) [] [none,some (.lst ((x::r).map D.str))] S _;refine kC (λk:Nat=>.int (2+(k:Int))) (λk=>.bl (Km L k)) (zcX L.length) [] (λk m Q' W=>?_) (by rw[yag,List.length_range];simp;lia) ?_
      ·have m:=zcd.mp m;have hg:L[k]? =some L[k]:=zal m;have Y:(x::r)[2+k]? =some L[k]:=by rw[<-hg,<-U,List.getElem?_drop]
       push_cast[zaU];refine⟨.str L[k],by rw[show(2:Int)+(k:Int)=((2+k:Nat):Int) by simp];exact bU (by rw[zbe,Y];rfl),?_⟩;show iY _ _ _ S _;rw[cF,show(2:Int)+(k:Int)=((2+k:Nat):Int) by lia,show Ue ((x::r).map D.str) (some 2) (some ((2+k:Nat):Int))=_ from IB (x::r) 2 k (by lia),U];refine HU (ss:=L.take k) (by rw[<-zcr];rfl) (I _ (zbB _)) (λy h=>I y (zaE h)) ?_;rw[<-yh hg,Bool.false_bne];exact W
      ·rw[zbT,show(zcX L.length).map (λk=>D.bl (Km L k))=((zcX L.length).map (Km L)).map D.bl by rw[zcF];rfl];refine⟨rfl,zY _,?_⟩;rw[rL,HS,Hz];show Uz S S _ Q;rw[eX];simpa using q
    ·rw[yDf O,zch] at q;refine e7 (λQ q=>?_) ?_
     ·push_cast[true_and];refine⟨_,Kl,JR ?_⟩;refine⟨_,rfl,?_⟩;rw[yDf O,yIp (by decide)];exact q
     ·push_cast[true_and];exact q
  ·have o:r.all wC=false:=by simpa using o
   rw[o,zch,zch,zch,zch,zcv] at q;refine e7 (λQ q=>e (by rw[o];exact q)) ?_;push_cast[true_and];exact q
end
open PySem PySem.Spec L2 M M6 PyProof.Rows
noncomputable abbrev wj:List Str:=["_law_rows_here","_law_lines_here"]
noncomputable abbrev iB:=wj.take 1
theorem ze:aE wj iB (ah (top 38)):=L2.cL
noncomputable abbrev wu:List Str:=["_law_names_here","_law_way","_law_letters","_law_heads","_law_lines_here","_law_k","_law_tie"]
noncomputable abbrev iE:=wu.take 2
theorem iK:aE wu iE (ah (top 39)):=L2.cL
noncomputable abbrev J(ws:List Str):Str:=PySem.Txt.join " " ws
theorem l7(ws:List Str):J ws=Str.join ⟨#[32]⟩ ws:=by
 have e:(" ":Str)=⟨#[32]⟩:=by decide+kernel
 show PySem.Txt.join " " ws=_;rw[e];exact PySem.StrLaws.glued_eq_join _ _
theorem CG(l:Str):c5 l=PySem.Txt.split l ⟨#[32]⟩:=by
 have e:(" ":Str)=⟨#[32]⟩:=by decide+kernel
 unfold c5;rw[e]
theorem ny(l:Str):c5 l≠[]:=λz=>by
 have:=split_pos l (" ");unfold c5 at z;rw[z] at this;simp at this
theorem tZ(l:Str):∀y∈c5 l,(32:Nat) ∉ y.cps.toList:=λy a=>by
 rw[CG] at a;exact PySem.StrLaws.split_free _ 32 y a
theorem F2(l:Str):J (c5 l)=l:=by
 rw[l7,CG];exact Str.ext' (zbI.mp (by rw[PySem.StrLaws.join_split]))
theorem Aw:∀{a b:List Str},a≠[]->b≠[]->(Str.join ⟨#[32]⟩ (a++b)).cps.toList=(Str.join ⟨#[32]⟩ a).cps.toList++32::(Str.join ⟨#[32]⟩ b).cps.toList
 |[],_,h,_=>absurd rfl h
 |_::_,[],_,h=>absurd rfl h
 |[x],y::r,_,_=>by
  show(x++⟨#[32]⟩++Str.join ⟨#[32]⟩ (y::r)).cps.toList=x.cps.toList++_;rw[ck,ck];simp
 |x::z::a,y::r,_,_=>by
  have:=Aw (a:=z::a) (b:=y::r) (by simp) (by simp);show(x++⟨#[32]⟩++Str.join ⟨#[32]⟩ ((z::a)++(y::r))).cps.toList=(x++⟨#[32]⟩++Str.join ⟨#[32]⟩ (z::a)).cps.toList++_;rw[ck,ck,ck,ck,this];simp
theorem F3:∀{ws:List Str},ws≠[]->J (ws.flatMap c5)=J ws
 |[],h=>absurd rfl h
 |[x],_=>by
  rw[zbm,List.flatMap_nil,zbO,F2,l7];rfl
 |x::y::r,_=>by
  have e:=F3 (ws:=y::r) (by simp);have n1:(y::r).flatMap c5≠[]:=λz=>by
   rw[zbm] at z;exact ny y (List.append_eq_nil_iff.mp z).1
  rw[zbm];refine Str.ext' (zbI.mp ?_);rw[l7,Aw (ny x) n1,<-l7,<-l7,F2,e,l7,l7];exact(Aw (a:=[x]) (b:=y::r) (by simp) (by simp)).symm
theorem CF(h:ws≠[]):c5 (J ws)=ws.flatMap c5:=by
 have n1:ws.flatMap c5≠[]:=λz=>by
  cases ws with
  |nil=>exact h rfl
  |cons y r=>
   rw[zbm] at z;exact ny y (List.append_eq_nil_iff.mp z).1
 rw[<-F3 h];refine nv n1 λx e=>?_;obtain⟨y,_,a⟩:=List.mem_flatMap.mp e;exact tZ y x a
theorem yR(h:(32:Nat) ∉ y.cps.toList):c5 y=[y]:=by
 have e:J [y]=y:=by rw[l7];rfl
 have:=nv (ws:=[y]) (by simp) (by simpa using h);rw[show PySem.Txt.join " " [y]=y from e] at this;exact this
noncomputable def Jr(y:Str):Bool:=y.cps.toList.all (λc=>decide (c<128))&&decide (y.length<=9)
structure eT(n:Nat)(l:Str):Prop where
 len:(c5 l).length<=n
 ok:∀y∈c5 l,Jr y=true
theorem Oe(h:Jr y=true):gf y=true:=by
 unfold Jr at h;unfold gf;rw[zbH] at h⊢;exact⟨h.1,yDt (by have:=of_decide_eq_true h.2;lia)⟩
theorem KC:∀{ws:List Str},(∀y∈ws,Jr y=true)->(J ws).length<=10*ws.length/\∀c∈(J ws).cps.toList,c<128
 |[],_=>by decide+kernel
 |[x],h=>by
  have e:J [x]=x:=by rw[l7];rfl
  have:=h x (by simp);unfold Jr at this;rw[zbH] at this;rw[e];exact⟨by have:=of_decide_eq_true this.2;simp;lia,λc i=>of_decide_eq_true (zby.mp this.1 c i)⟩
 |x::y::r,h=>by
  obtain⟨l,j⟩:=KC (ws:=y::r) λz hz=>h z (zaA _ hz);have:=h x (by simp);unfold Jr at this;rw[zbH] at this;have e:(J (x::y::r)).cps.toList=x.cps.toList++32::(J (y::r)).cps.toList:=by rw[l7,l7];exact Aw (a:=[x]) (by simp) (by simp)
  constructor
  ·have m:(J (x::y::r)).length=x.length+(1+(J (y::r)).length):=by
    have:=congrArg zcR e;simp only[zaO,zbu,zaK] at this;unfold Str.length;lia
   have:=of_decide_eq_true this.2;rw[m];simp only[zbu] at l⊢;lia
  ·intro c i;rw[e] at i;rcases zbM.mp i with i|i
   ·exact of_decide_eq_true (zby.mp this.1 c i)
   ·rcases zcn.mp i with rfl|i
    ·decide
    ·exact j c i
theorem eT.all{l:Str}(h:eT n l):l.length<=10*n/\∀c∈l.cps.toList,c<128:=by
 have:=KC h.ok;rw[F2] at this;have h1:=h.len;exact⟨by lia,this.2⟩
theorem eT.ln{l:Str}(h:eT n l)(e:n<=60):pM l:=by
 have h1:=h.len;exact⟨by have:=h.all.1;lia,by lia,ny l,λy a=>Oe (h.ok y a)⟩
theorem eT.mono{l:Str}(h:eT n l)(a:n<=m):eT m l:=⟨zcH h.len a,h.ok⟩
theorem eT.join(h:∀y∈ws,eT m y)(q:ws.length<=n)(j:1<=n)(o:1<=m):eT (m*n) (J ws):=by
 cases ws with
 |nil=>
  have e:c5 (J [])=[("":Str)]:=by decide+kernel
  exact⟨by rw[e];exact Nat.mul_pos o j,by rw[e];intro y i;simp at i;subst i;decide+kernel⟩
 |cons x r=>
  have e:=CF (ws:=x::r) (by simp);constructor
  ·rw[e,List.length_flatMap];have:∀l:List Str,(∀y∈l,eT m y)->(l.map λa=>(c5 a).length).sum<=m*l.length:=λl=>by
    induction l with
    |nil=>intro _;simp
    |cons y l ih=>
     intro h;have:=ih λz hz=>h z (zaA _ hz);have:=(h y (by simp)).len;simp only[zco,List.sum_cons,zbu];rw[Nat.mul_succ];lia
   exact zcH (this _ h) (Nat.mul_le_mul_left _ q)
  ·rw[e];intro y i;obtain⟨z,hz,i⟩:=List.mem_flatMap.mp i;exact(h z hz).ok y i
theorem eT.word{l:Str}(h:eT n l)(a:y∈c5 l):eT 1 y:=by
 have e:=yR (tZ l y a);exact⟨by rw[e];simp,by rw[e];intro z hz;simp at hz;subst hz;exact h.ok _ a⟩
theorem eT.nm(h:Nm y):eT 1 y:=by
 obtain⟨_,h2,a⟩:=h;have a:∀c∈y.cps.toList,cZ c=true:=a;have e:=yR (y:=y) λz=>by have:=a _ z;revert this;decide
 refine⟨by rw[e];simp,?_⟩;rw[e];intro z hz;simp at hz;subst hz;unfold Jr;rw[zbH];refine⟨zby.mpr λc i=>?_,yDt (by lia)⟩;have:=a c i;unfold cZ at this;rw[zbH] at this;have:=of_decide_eq_true this.2;exact yDt (by lia)
noncomputable def Eg(m:Nat)(y:Str):Bool:=decide ((c5 y).length<=m)&&(c5 y).all Jr
theorem eT.lit(h:Eg m y=true):eT m y:=by
 unfold Eg at h;rw[zbH] at h;exact⟨of_decide_eq_true h.1,λz hz=>zby.mp h.2 z hz⟩
theorem CB{n:Nat}:∀l:List Str,(∀y∈l,y.length<=n)->(l.map (·.length)).sum<=n*l.length
 |[],_=>zcS _
 |y::l,h=>by
  have:=CB l λz hz=>h z (zaA _ hz);have:=h y (by simp);rw[zco,List.sum_cons,zbu,Nat.mul_succ];lia
theorem mL{e:D}{Q:AK}{ys:List Str}(i:bq S e=.lst (ys.map D.str))(o:ys.length<=100)(a:∀y∈ys,eT m y)(l:1<=m)(j:m<=2)(q:eT (m*(ys.length+1)) (J ys)->Q (.dat (.str (J ys))) S):Kq (.str " ") [e] S Q:=by
 refine⟨" ",e,ys,rfl,rfl,i,?_,q (eT.join a (by lia) (by simp) l)⟩;have:=CB (n:=20) ys λy h=>by have:=(a y h).all.1;lia
 have e:(" ":Str).length=1:=by decide+kernel
 rw[e];lia
theorem jF{a b:Option MO}:(S++[a]).set S.length b=S++[b]:=by rw[List.set_append,yIn (by omega),Nat.sub_self];rfl
theorem vA{m:Type}{e:AE}{Q:List D->aD->Prop}{S:aD}(g a b f:m->D)(n:∀x,g x=.tup [a x,b x])(rest:bF):∀(as:List m)(i:List D)(l j:Option D),
  (∀x∈as,∀Q:AK,Q (.dat (f x)) S->e (some (a x)::some (b x)::rest) S Q)->i.length+as.length<=yah->Q (i++as.map f) S->
  cK (λ_=>True) (Fi 2 (sP (bg 0) (sP (bg 1) Fj))) gM e (as.map g) i (l::j::rest) S Q
 |[],i,l,j,_,_,q=>⟨trivial,by simpa using q⟩
 |x::as,i,l,j,he,hl,q=>by
  simp only[zbu] at hl;refine⟨trivial,_,n x,rfl,_,_,rfl,_,_,rfl,rfl,?_⟩;refine he x (by simp) _ ⟨by lia,?_⟩;refine vA g a b f n rest as _ _ _ (λy o=>he y (by simp[o])) (by simp;lia) ?_;simpa[R.d,zbg] using q
theorem Ej{k:Kn}(h1:Nm k.1)(h2:∀m∈k.2,Nm m):∀y∈(("knot":Str)::k.1::k.2),eT 1 y:=λy a=>by
 rcases zcn.mp a with rfl|a
 ·exact .lit (by decide+kernel)
 ·rcases zcn.mp a with rfl|a
  ·exact .nm h1
  ·exact .nm (h2 y a)
theorem RO.ends{ks:List Kn}{ts:List Ti}(h:RO ks ts){t:Ti}(l:t∈ts):Nm t.1/\Nm t.2.1/\Nm t.2.2:=by
 obtain⟨h1,h2,m⟩:=h.tk t l;obtain⟨j,e,o⟩:=zcE.mp h1;obtain⟨i,a,n⟩:=zcE.mp h2;exact⟨by rw[<-o];exact(h.nm j e).1,m,by rw[<-n];exact(h.nm i a).1⟩
theorem Co{a b c:Str}(h1:Nm a)(h2:Nm b)(i:Nm c):∀y∈[("tie":Str),a,b,c],eT 1 y:=λy e=>by
 simp only[zcn,zbC,or_false] at e;rcases e with rfl|rfl|rfl|rfl
 ·exact .lit (by decide+kernel)
 ·exact .nm h1
 ·exact .nm h2
 ·exact .nm i
section
variable {w:yal}{EP:Addr}
structure KA(n:Nat)(ls:List Str):Prop where
 ne:ls≠[]
 len:ls.length<=345
 ok:∀l∈ls,eT n l
def yU:AN:=λj S Q=>∃a e,j=[kR a e]/\RW a e/\1<=a.length/\a.length<=8/\e.length<=23/\∀i,KA 8 i->i.length<=31->Q (.new (.lst (i.map D.str))) S
theorem Iq(T:Txt K mg ec EP C fi)(F:Src K mg "_law_lines" iB (top 38)):Def P w K mg base 1 "_law_lines" iB (aN K yU):=by
 refine l5 F ze (λZ S Q h=>?_) (λf cdv A outer s H E hr=>?_)
 ·obtain⟨o,j,rfl,_⟩:=h;rfl
 ·refine⟨_,(Tr (M.cU (i:=1) ze.nd rfl rfl (N:=["_law_name","_law_marks"]) (caps:=[none,none]) (lT (by decide+kernel)) (by rfl) (by rfl) rfl (Uq (TR (Tn 0))) (λ_ _ _ _=>(M.oh (n:=2) rfl (UJ (UB (i:=0) (by decide+kernel:List.Nodup (["_law_name","_law_marks"]:List Str)) rfl (Or.inl rfl)) (UJ (UB (i:=1) (by decide+kernel:List.Nodup (["_law_name","_law_marks"]:List Str)) rfl (Or.inl rfl)) M.jR)))) (λ_ _ _ _=>Uj) (λ_ _ _ _=>(Ud PySem.F.plainAttrs_str PySem.F.slot_str_join PySem.F.type_str_join M.oH Tv (To (Tz TH (T5 (To Tv (Tp (Tn 0)))) (Tn 1)) Tt)))) (Tw (TL (Tz TH (Tn 1) (Uw ["_law_tie"] [none] (Uq (TR (Tn 0))) (λ_ _ _ _=>Uj) (λ_ _ _ _=>(Ud PySem.F.plainAttrs_str PySem.F.slot_str_join PySem.F.type_str_join M.oH Tv (To (Tz TH (T5 (Tp Tv)) (Uo M.uJ T.list (Tp (Tn 0)))) Tt)))))))),λZ S Q h=>?_⟩;obtain⟨o,j,rfl,y,X,W,U,q⟩:=h;have Y:aL wj [kR o j]=[some (kR o j),none]:=rfl;rw[Y];push_cast[dS,oV];refine⟨_,rfl,?_⟩;show cK (λ_=>True) _ gM _ (o.map tM) [] [none,none] S _;refine vA tM (λk=>.str k.1) (λk=>.lst (k.2.map D.str)) (λk=>.str (J ("knot"::k.1::k.2))) (λ_=>rfl) [] o [] none none (λk O Q' I=>?_) (by rw[yag];simp;lia) ?_
  ·have a:=y.nm k O;have:=a.2.1;push_cast[tN];exact⟨rfl,ySz 2,by show 2+_<=_;rw[zbN,yag];lia,mL (ys:="knot"::k.1::k.2) rfl (by simp;lia) (Ej a.1 a.2.2) (by decide) (by decide) λ_=>I⟩
  rw[zbT];refine⟨_,rfl,?_⟩;show cK (λ_=>True) _ gM _ (j.map T3) [] [none] S _;refine kC T3 (λt=>.str (J ["tie",t.1,t.2.1,t.2.2])) j [] (λt L Q' I=>?_) (by rw[yag];simp;lia) ?_
  ·have a:=y.tn t L;push_cast[tN,zaU];exact⟨rfl,ySz 1,_,rfl,by show 1+3<=_;decide,mL (ys:=["tie",t.1,t.2.1,t.2.2]) rfl (by simp) (Co a.1 a.2.1 a.2.2) (by decide) (by decide) λ_=>I⟩
  ·rw[zbT];have e:(o.map λk=>D.str (J ("knot"::k.1::k.2)))++(j.map λt=>D.str (J ["tie",t.1,t.2.1,t.2.2]))=((o.map λk=>J ("knot"::k.1::k.2))++j.map λt=>J ["tie",t.1,t.2.1,t.2.2]).map D.str:=by rw[zbU,zcF,zcF];rfl
   refine⟨by show _+_<=_;rw[zbN,zbN,yag];lia,?_⟩;rw[e];refine GQ (gV _) (q _ ⟨λz=>?_,by rw[zaO,zbN,zbN];lia,λl u=>?_⟩ (by rw[zaO,zbN,zbN];lia))
   ·have:=congrArg zcR z;rw[zaO,zbN,zbN] at this;rw[zbS] at this;lia
   ·rcases zbM.mp u with u|u
    ·obtain⟨k,O,rfl⟩:=zcE.mp u;have a:=y.nm k O;have:=a.2.1;exact eT.join (m:=1) (n:=8) (Ej a.1 a.2.2) (by simp;lia) (by decide) (by decide)
    ·obtain⟨t,L,rfl⟩:=zcE.mp u;have a:=y.tn t L;exact eT.join (m:=1) (n:=8) (Co a.1 a.2.1 a.2.2) (by simp) (by decide) (by decide)
theorem Mm(y:Str):("knot ":Str)++y=J ["knot",y]:=by
 rw[l7];show _=(("knot":Str)++⟨#[32]⟩)++y;rw[show(("knot":Str)++⟨#[32]⟩)="knot " by decide+kernel]
noncomputable def hd(k:Nat):Str:=⟨#[107,97+k % 26,97+k / 26]⟩
theorem Pq:∀k<42,(decide (1<=(hd k).length)&&decide ((hd k).length<=8)&&Mi (hd k))=true:=by decide+kernel
def yY:AN:=λe S Q=>∃(A B M:List Str)(x:D)(v:Nat),e=[x,.int v]/\tE A B M x/\v<2/\∀a,KA 8 a->Q (.new (.lst (a.map D.str))) S
theorem Iv(T:Txt K mg ec EP C fi)(F:Src K mg "_law_great" iE (top 39)):Def P w K mg base 1 "_law_great" iE (aN K yY):=by
 refine l5 F iK (λds S Q h=>?_) (λf cdv A outer s H E hr=>?_)
 ·obtain⟨A,B,M,x,v,rfl,_⟩:=h;rfl
 ·refine⟨_,(Tr (TF 2 iK.nd Tv) (Tr (M.cU (i:=3) iK.nd rfl rfl (N:=["_law_k","_law_letters"]) (caps:=[none,some 2]) (lT (by decide+kernel)) (by rfl) (by rfl) rfl (Ut (by rfl) T.range (To (Tz TH Tu (Tn 1)) Tt)) (λ_ _ _ _=>(UB (i:=0) (by decide+kernel:List.Nodup (["_law_k","_law_letters"]:List Str)) rfl (Or.inl rfl))) (λ_ _ _ _=>Uj) (λ_ _ _ _=>(Tz TH (Tz TH Tv (Ub (Tn 1) (Tz M.zE (Tn 0) Tu))) (Ub (Tn 1) (Tz M.xD (Tn 0) Tu))))) (Tr (M.lJ (i:=4) iK.nd rfl rfl (N:=["_law_head"]) (caps:=[none]) (lT (by decide+kernel)) (by rfl) (by rfl) rfl (Uq (Tn 3)) (λ_ _ _ _=>(UB (i:=0) (by decide+kernel:List.Nodup (["_law_head"]:List Str)) rfl (Or.inl rfl))) (λ_ _ _ _=>Uj) (λ_ _ _ _=>(Tz TH Tv (Tn 0)))) (Tr (Uu PassesOwn.never rfl (Ut (by rfl) T.range (To (Tz M.OV Tu (Tn 1)) Tt)) (Ul 5 iK.nd) (Tr (TF 6 iK.nd (T5 (To Tv (To (Ub (Tn 3) (Tz M.zE (Tn 5) Tu)) (To (Ub (TR (Tn 0)) (Tz M.xD (Tn 5) Tu)) (To (Ub (Tn 3) (Tz M.zE (Tz M.xD (Tn 5) Tu) Tu)) Tt)))))) (Tw (Uh (Ud PySem.F.plainAttrs_list PySem.F.slot_list_append PySem.F.type_list_append UC (Tn 4) (To (Ud PySem.F.plainAttrs_str PySem.F.slot_str_join PySem.F.type_str_join M.oH Tv (Tp (Tn 6))) Tt)))))) (Tw (TL (Tn 4))))))),λds S Q h=>?_⟩;obtain⟨NA,NB,N8,x,v,rfl,⟨rfl,lA,lB,l8,nA,nB,n8⟩,hv,q⟩:=h;generalize hXN:D.lst [D.lst (NA.map D.str),D.lst (NB.map D.str),D.lst ((N8.take 5).map D.str),.lst (N8.map D.str)]=XN;have Y:∀{S:aD}{Q:AK},Q (.dat (.lst (NB.map D.str))) S->sU XN (.int 1) S Q:=λ{S Q} O=>by rw[<-hXN];exact⟨_,rfl,O⟩
  have e0:aL wu [XN,.int v]=[some XN,some (.int v),none,none,none,none,none]:=rfl;rw[e0];refine bW λN h=>?_;push_cast[true_and];refine h _ _ ?_;clear h;refine bW λN h=>?_;push_cast[dS,l0];have ev:(40+(v:Int)).toNat=40+v:=by rfl
  rw[ev];refine⟨by lia,by lia,?_⟩;show cK (λ_=>True) (bg 0) gM _ ((zcX (40+v)).map λk:Nat=>.int (0+(k:Int))) [] [none,some (.str "abcdefghijklmnopqrstuvwxyz")] S _;refine kC (λk:Nat=>.int (0+(k:Int))) (λk=>.str (hd k)) (zcX (40+v)) [] (λk W Q' O=>?_) (by rw[yag,List.length_range];simp;lia) ?_
  ·have W:=zcd.mp W;rw[Int.zero_add];push_cast[zaU];have e1:((k:Int) % 26)=((k % 26:Nat):Int):=by simp
   have e2:((k:Int) / 26)=((k / 26:Nat):Int):=by simp
   rw[e1,e2];refine⟨by decide,sj (by lia) ⟨by show 1+1<=yah;decide,by unfold F8;simp,sj (by lia) ⟨by show 2+1<=yah;decide,?_⟩⟩⟩;exact O
  rw[zbT,show(zcX (40+v)).map (λk=>D.str (hd k))=((zcX (40+v)).map hd).map D.str by rw[zcF];rfl];refine h _ _ ?_;clear h;have e:((zcX (40+v)).map hd).length=40+v:=by rw[zbN,List.length_range]
  have U:∀y∈(zcX (40+v)).map hd,Nm y:=λy u=>by
   obtain⟨k,W,rfl⟩:=zcE.mp u;have:=zcd.mp W;exact DV (Pq k (by lia))
  generalize (zcX (40+v)).map hd=HD at e U;refine bW λN h=>?_;push_cast[dF,dS,oV];show cK (λ_=>True) (bg 0) gM _ (HD.map D.str) [] [none] S _;refine kC D.str (λy=>.str ("knot "++y)) HD [] (λy u Q' O=>?_) (by rw[yag,e];simp;lia) ?_
  ·push_cast[zaU];exact⟨by have:=(U y u).2.1;show 5+y.length<=yah;rw[yag];lia,O⟩
  rw[zbT,show HD.map (λy=>D.str ("knot "++y))=(HD.map λy=>("knot ":Str)++y).map D.str by rw[zcF];rfl];have hL:KA 8 (HD.map λy=>("knot ":Str)++y):=by
   refine⟨λz=>?_,by rw[zbN,e];lia,λl L=>?_⟩
   ·have:=congrArg zcR z;rw[zbN,e,zbS] at this;lia
   ·obtain⟨y,u,rfl⟩:=zcE.mp L;rw[Mm];exact eT.join (m:=1) (n:=8) (Ej (k:=(y,[])) (U y u) (by simp)) (by simp) (by decide) (by decide)
  have hLl:(HD.map λy=>("knot ":Str)++y).length=40+v:=by rw[zbN,e]
  generalize (HD.map λy=>("knot ":Str)++y)=L0 at hL hLl;refine h _ _ ?_;clear h;refine bW λN h=>?_;push_cast[kG,l0];refine⟨by lia,by lia,?_⟩;generalize hLT:D.str "abcdefghijklmnopqrstuvwxyz"=LT;refine dJ (λrest X S'=>∃(I:List Str)(j:Nat)(v5 Z:Option D),rest=(cC 0 (301 - (v:Int)).toNat).drop j/\X=[some XN,some (.int v),some LT,some (.lst (HD.map D.str)),some (.loc S.length),v5,Z]/\S'=S++[some (.lst (I.map D.str))]/\KA 8 I/\I.length+rest.length<=342) ?_ ?_ _ _ _ ⟨L0,0,none,none,rfl,rfl,rfl,hL,by rw[eu];lia⟩
  ·rintro X S' ⟨I,j,v5,Z,_,rfl,rfl,L,_⟩;refine⟨trivial,h _ _ ?_⟩;refine⟨_,rfl,?_⟩;exact GR (zcS _) (gV _) bJ (List.take_left' rfl) (q I L)
  ·rintro x xs X S' N ⟨I,j,v5,Z,e1,rfl,rfl,L,hn⟩ hN;obtain⟨hj,rfl,e2⟩:=jH e1;refine⟨trivial,?_⟩;push_cast[true_and];have g1:((j:Int) % 11)=((j % 11:Nat):Int):=by simp
   have g2:((j:Int) / 121)=((j / 121:Nat):Int):=by simp
   have g3:((j:Int) / 11 % 11)=((j / 11 % 11:Nat):Int):=by simp
   rw[g1,g2,g3];refine⟨by decide,pick (by rw[zbN,e];lia) (λy u=>?_)⟩;obtain⟨a,ha,rfl⟩:=zcE.mp u;refine Y ⟨by unfold F8;simp,pick (by rw[zbN,lB];lia) (λy u=>?_)⟩;obtain⟨b,hb,rfl⟩:=zcE.mp u;refine⟨by unfold F8;simp,by decide,pick (by rw[zbN,e];lia) (λy u=>?_)⟩;obtain⟨c,hc,rfl⟩:=zcE.mp u;refine⟨ySz 4,?_⟩;push_cast[tN];have hw:=Co (U a ha) (nB b hb) (U c hc);refine⟨by rw[aV (o:=.lst (I.map D.str)) bJ];rfl,rfl,mL (ys:=["tie",a,b,c]) rfl (by simp) hw (by decide) (by decide) λhj=>⟨_,_,_,rfl,rfl,bJ,by rw[zbN,yag];have:=L.len;lia,?_⟩⟩;rw[jF];simp only[zbu] at hn;refine hN _ _ ⟨I++[J ["tie",a,b,c]],j+1,_,_,e2,rfl,by rw[zbU];rfl,⟨by simp,by rw[zaO];show I.length+1<=345;lia,λl h=>?_⟩,by rw[zaO];show I.length+1+_<=_;lia⟩;rcases zbM.mp h with h|h
   ·exact L.ok l h
   ·rw[zaS.mp h];exact hj.mono (by show 1*(4+1)<=8;decide)
end
open PySem PySem.Spec L2 M M6 PyProof.Rows
noncomputable abbrev Av:List Str:=["_law_feed_here","_law_lines_here","_law_names_here","_law_at","_law_words","_law_spot","_law_some","_law_other","_law_bent_here","_law_way"]
noncomputable abbrev kK:=Av.take 3
theorem dZ:aE Av kK (ah (top 40)):=L2.cL
noncomputable abbrev bw(ws:List Str):D:=.lst (ws.map D.str)
def Wss(n:Nat)(W:List (List Str)):Prop:=∀a∈W,a.length<=n/\∀y∈a,eT 2 y
theorem M7(ws:List Str)(k:Nat):Ue (ws.map D.str) none (some (k:Int))=(ws.take k).map D.str:=by
 unfold Ue;rw[HT.iL,show HT.bX (ws.map D.str).length 0 none=0 by simp[HT.bX],zcf,Nat.sub_zero,zcr,zbN];rcases Nat.le_total k ws.length with h|h
 ·rw[zbX h]
 ·rw[Nat.min_eq_right h,zap (by simp),zap (by simpa using h)]
theorem bZ{xs ys:List Str}{Q:AK}(h1:xs.length<=500)(h2:ys.length<=400)(q:Q (.new (.lst ((xs++ys).map D.str))) S):sV (.lst (xs.map D.str)) (.lst (ys.map D.str)) S Q:=by
 rw[zbU] at q;exact⟨by show _+_<=_;rw[zbN,zbN,yag];lia,q⟩
theorem AJ{k:Nat}{Q:AK}(q:Q (.new (.lst ((ws.take k).map D.str))) S):iY (.lst (ws.map D.str)) none (some (k:Int)) S Q:=by rw[cF,M7];exact q
theorem AL{k:Nat}{Q:AK}(q:Q (.new (.lst ((ws.drop k).map D.str))) S):iY (.lst (ws.map D.str)) (some (k:Int)) none S Q:=by rw[cF,xZ];exact q
theorem sQ{x y:D}{xs ys:List D}{Q:AK}(e:bq S x=.lst xs)(a:bq S y=.lst ys)(i:xs.length+ys.length<=1000)(q:Q (.new (.lst (xs++ys))) S):sV x y S Q:=by
 unfold sV;rw[e,a];exact⟨by rw[yag];lia,q⟩
theorem Rk{Q:AK}(h:0<ws.length)(q:∀u∈ws,Q (.new (.lst ([u].map D.str))) S):iY (.lst (ws.map D.str)) (some (-1)) none S Q:=by
 rw[cF];have e:Ue (ws.map D.str) (some (-1)) none=[ws[ws.length - 1]].map D.str:=by
  unfold Ue;have a:HT.bX (ws.map D.str).length 0 (some (-1))=ws.length - 1:=by unfold HT.bX;simp only[zbN];split<;>lia
  rw[a,show HT.bX (ws.map D.str).length (ws.map D.str).length none=ws.length by simp[HT.bX],show ws.length - (ws.length - 1)=1 by lia,<-zcs,<-zcr,zag (by omega),List.take_succ_cons,List.take_zero]
 rw[e];exact q _ (zbB _)
theorem Cn{b:Nat}(h:l.length<=n):(l.take b).length<=n:=by rw[zbv];lia
theorem N6{b:Nat}(h:l.length<=n):(l.drop b).length<=n:=by rw[zbw];lia
theorem P9{m:List Str}{k:Nat}(h:l.length<=n)(g:m.length<=k):(l++m).length<=n+k:=by rw[zaO];lia
def Wg(k:Nat)(ws:List Str):Prop:=ws.length<=k/\∀y∈ws,eT 2 y
theorem M4{os:List Str}{k b:Nat}(h:Wg k ws)(e:∀y∈os,eT 2 y)(i:os.length<=1)(l:b<=j):Wg (k+1) ((ws.take b++os)++ws.drop j):=by
 have:=h.1;refine⟨by rw[zaO,zaO,zbv,zbw];lia,λy a=>?_⟩;rcases zbM.mp a with a|a
 ·rcases zbM.mp a with a|a
  ·exact h.2 y (zaE a)
  ·exact e y a
 ·exact h.2 y (zaF a)
theorem Ma{o:Str}(h:eT 2 o):∀y∈[o],eT 2 y:=λy a=>by rw[zaS.mp a];exact h
theorem P8{o:Str}{k:Nat}(h:Wg k ws)(e:eT 2 o):Wg (k+1) (ws++[o]):=⟨P9 h.1 (zcS 1),λy a=>(zbM.mp a).elim (h.2 y) (Ma e y)⟩
noncomputable def NV:List Str:=["","A","1","*","abcdefghi","Knot","ties","knot","tie","zq","a b"]
theorem Lc:∀y∈NV,eT 2 y:=λy a=>.lit (by
 have:NV.all (Eg 2)=true:=by decide+kernel
 exact zby.mp this y a)
section
variable {w:yal}{EP:Addr}
def wQ:AN:=λj S Q=>∃(p n k:Nat)(A B M:List Str)(x:D)(e:List Str),j=[.loc p,.lst (e.map D.str),x]/\tE A B M x/\S[p]? =some (some (.feed n))/\n+5<1000/\KA k e/\e.length<=40/\8<=k/\k<=20/\∀a i,KA (2*k+4) a->a.length<=e.length+1->i<=n+5->Q (.new (.lst (a.map D.str))) (S.set p (some (.feed i)))
theorem M3(T:Txt K mg ec EP C fi)(F:Src K mg "_law_bent" kK (top 40))(i:Def P w K mg base 1 "_law_next" dM (aN K gj)):Def P w K mg base 2 "_law_bent" kK (aN K wQ):=by
 refine l5 F dZ (λds S Q h=>?_) (λf cdv A outer s H E hr=>?_)
 ·obtain⟨p,n,k,A,B,M,x,O,rfl,_⟩:=h;rfl
 ·refine⟨_,(Tr (TF 3 dZ.nd (TJ i hr (To (Tn 0) (To (TM T9 T.len (Tp (Tn 1))) Tt)))) (Tr (TF 4 dZ.nd (Ud PySem.F.plainAttrs_str PySem.F.slot_str_split PySem.F.type_str_split UX (Ub (Tn 1) (Tn 3)) (Tp Tv))) (Tr (TF 5 dZ.nd (TJ i hr (To (Tn 0) (To (TM T9 T.len (Tp (Tn 4))) Tt)))) (Tr (TF 6 dZ.nd (T5 (To Tv (To Tv (To Tv (To Tv (To Tv (To Tv (To Tv (To Tv (Tp Tv))))))))))) (Tr (TF 6 dZ.nd (Tz TH (Tz TH (Tz TH (Tn 6) (T5 (To Tv (Tp Tv)))) (TU TV (TR (Tn 2)) T4 (TQ Tu))) (TU TV (TR (Tn 2)) T4 (TQ Tu)))) (Tr (TF 7 dZ.nd (Ub (Tn 6) (TJ i hr (To (Tn 0) (Tp Tu))))) (Tr (TF 8 dZ.nd (Ug (T5 (To (Tz TH (Tz TH (TU TV (Tn 4) T4 (TQ (Tn 5))) (T5 (Tp (Tn 7)))) (TU TV (Tn 4) (TQ (Tz TH (Tn 5) Tu)) T4)) Tt)))) (Tr (Uh (Ud PySem.F.plainAttrs_list PySem.F.slot_list_append PySem.F.type_list_append UC (Tn 8) (To (Tz TH (Tz TH (TU TV (Tn 4) T4 (TQ (Tn 5))) (T5 (Tp (Tn 7)))) (TU TV (Tn 4) (TQ (Tn 5)) T4)) Tt))) (Tr (TF 8 dZ.nd (Ug (Tz TH (Tn 8) (T5 (To (Tz TH (TU TV (Tn 4) T4 (TQ (Tn 5))) (TU TV (Tn 4) (TQ (Tz TH (Tn 5) Tu)) T4)) (To (Tz TH (Tn 4) (T5 (Tp (Tn 7)))) Tt)))))) (Tr (TF 8 dZ.nd (Ug (Tz TH (Tn 8) (T5 (To (Tz TH (Tn 4) (TU TV (Tn 4) (TQ (M.DE M.OW Tu)) T4)) (To (T5 (To Tv (To (TR (TR (Tn 2))) (To Tv (Tp Tv))))) Tt)))))) (Tr (Uh (Ud PySem.F.plainAttrs_list PySem.F.slot_list_append PySem.F.type_list_append UC (Tn 8) (To (Tz TH (T5 (To Tv (Tp Tv))) (TU TV (TR (Tn 2)) T4 (TQ (Tz TH Tu (TJ i hr (To (Tn 0) (Tp Tu))))))) Tt))) (Tr (TF 8 dZ.nd (Ug (Tz TH (Tn 8) (T5 (To (T5 (To Tv (To Tv (To Tv (Tp Tv))))) (To (T5 (Tp Tv)) (To (T5 (Tp Tv)) Tt))))))) (Tr (TF 9 dZ.nd (TJ i hr (To (Tn 0) (Tp Tu)))) (Tr (T6 (TZ (Ua hr) (Tn 9) Tu (aS _)) (Tw (TL (Tz TH (Tz TH (TU TV (Tn 1) T4 (TQ (Tn 3))) (T5 (To (Ub (Tn 1) (Tn 3)) Tt))) (TU TV (Tn 1) (TQ (Tn 3)) T4)))) T7) (Tr (T6 (TZ (Ua hr) (Tn 9) Tu (aS _)) (Tw (TL (Tz TH (TU TV (Tn 1) (TQ (Tn 3)) T4) (TU TV (Tn 1) T4 (TQ (Tn 3)))))) T7) (Tr (T6 (TZ (Ua hr) (Tn 9) Tu (aS _)) (Tw (TL (Tz TH (Tn 1) (T5 (To (Ub (Tn 1) (Tn 3)) Tt))))) T7) (Tw (TL (Tz TH (Tz TH (TU TV (Tn 1) T4 (TQ (Tn 3))) (T5 (To (Ud PySem.F.plainAttrs_str PySem.F.slot_str_join PySem.F.type_str_join M.oH Tv (To (Ub (Tn 8) (Tn 9)) Tt)) Tt))) (TU TV (Tn 1) (TQ (Tz TH (Tn 3) Tu)) T4)))))))))))))))))))),λds S Q h=>?_⟩;obtain⟨p,n,k,NA,NB,Z,x,O,rfl,⟨rfl,lA,lB,l8,nA,nB,n8⟩,hp,hn,hL,I,hk8,hk,q⟩:=h;generalize hXN:D.lst [D.lst (NA.map D.str),D.lst (NB.map D.str),D.lst ((Z.take 5).map D.str),.lst (Z.map D.str)]=XN;have x00:∀{S:aD}{Q:AK},Q (.dat (.lst (NA.map D.str))) S->sU XN (.int 0) S Q:=λ{S Q} q'=>by rw[<-hXN];exact⟨_,rfl,q'⟩
  have x02:∀{S:aD}{Q:AK},Q (.dat (.lst ((Z.take 5).map D.str))) S->sU XN (.int 2) S Q:=λ{S Q} q'=>by rw[<-hXN];exact⟨_,rfl,q'⟩
  have x03:∀{S:aD}{Q:AK},Q (.dat (.lst (Z.map D.str))) S->sU XN (.int 3) S Q:=λ{S Q} q'=>by rw[<-hXN];exact⟨_,rfl,q'⟩
  have e0:aL Av [.loc p,.lst (O.map D.str),XN]=[some (.loc p),some (.lst (O.map D.str)),some XN,none,none,none,none,none,none,none]:=rfl;rw[e0];have hll:0<O.length:=by
   cases O with
   |nil=>exact absurd rfl hL.ne
   |cons _ _=>simp
  have lw:gC (.lst (O.map D.str))=some O.length:=len_strs (by lia);refine bW λN h=>?_;push_cast[true_and];refine⟨_,lw,bI hp (by lia) (by lia) (by lia) λa ha=>h _ _ ?_⟩;clear h;generalize Y:D.lst (O.map D.str)=LS;refine bW λN h=>?_;push_cast[tN];rw[<-Y];refine pick (by rw[zbN];lia) λy e=>?_;obtain⟨l,hl,rfl⟩:=zcE.mp e;have hB:=hL.ok l hl;refine⟨rfl,l," ",rfl,rfl,by decide+kernel,by have:=hB.all.1;rw[yag];lia,h _ _ ?_⟩;clear h e;rw[Y];show(fZ _ _) _ [some (D.loc p),some LS,some XN,some (D.int a),some (.lst ((c5 l).map D.str)),none,none,none,none,none] _;have w0:=ny l;have w1:∀y∈c5 l,eT 2 y:=λy e=>(hB.word e).mono (by decide);have w2:=hB.len;generalize c5 l=ws at w0 w1 w2;have HX:k<=500:=by lia
  have Pu:k+1<=500:=by lia
  have MA:k<=400:=by lia
  have wl:0<ws.length:=by
   cases ws with
   |nil=>exact absurd rfl w0
   |cons _ _=>simp
  refine bW λN h=>?_;push_cast[true_and];refine⟨_,len_strs (by lia),bI (bE hp) (by lia) (by lia) (by lia) λb hb=>h _ _ ?_⟩;clear h;rw[zcD];refine bW λN h=>?_;push_cast[true_and];refine⟨ySz 9,h _ _ ?_⟩;clear h;refine bW λN h=>?_;push_cast[true_and];refine⟨ySz 2,by show 9+2<=yah;decide,x00 ?_⟩;push_cast[cB,cF];rw[show(2:Int)=((2:Nat):Int) from rfl,M7];refine⟨by show 11+_<=yah;rw[zbN,zbv,yag];lia,x02 ?_⟩;push_cast[cB,cF];rw[M7];refine⟨by rw[zaO,zbN,zbN,zbv,zbv];show 11+_+_<=_;rw[yag];lia,?_⟩;have eL:([D.str (Str.ofString ""),D.str (Str.ofString "A"),D.str (Str.ofString "1"),D.str (Str.ofString "*"),D.str (Str.ofString "abcdefghi"),D.str (Str.ofString "Knot"),D.str (Str.ofString "ties"),D.str (Str.ofString "knot"),D.str (Str.ofString "tie")]++[D.str (Str.ofString "zq"),D.str (Str.ofString "a b")]++(NA.take 2).map D.str)++((Z.take 5).take 2).map D.str=((NV++NA.take 2)++(Z.take 5).take 2).map D.str:=by rw[zbU,zbU];rfl
  rw[eL];have sl:((NV++NA.take 2)++(Z.take 5).take 2).length=15:=by rw[zaO,zaO,zbv,zbv,zbv,lA,l8];rfl
  have so:∀y∈(NV++NA.take 2)++(Z.take 5).take 2,eT 2 y:=λy e=>by
   rcases zbM.mp e with e|e
   ·rcases zbM.mp e with e|e
    ·exact Lc y e
    ·exact(eT.nm (nA y (zaE e))).mono (by decide)
   ·exact(eT.nm (n8 y (zaE (zaE e)))).mono (by decide)
  generalize (NV++NA.take 2)++(Z.take 5).take 2=SM at sl so;clear eL;refine h _ _ ?_;clear h;refine bW λN h=>?_;push_cast[true_and];refine bI (bE hp) (by lia) (by simp) (by simp) λc hc=>?_;rw[zcD];refine pick (by rw[zbN];lia) λy e=>h _ _ ?_;obtain⟨o,ho,rfl⟩:=zcE.mp e;have ho:=so o ho;clear h e so sl;generalize hSM:D.lst (SM.map D.str)=SD;refine bW λN h=>?_;push_cast[dF];rw[show(b:Int)+1=((b+1:Nat):Int) by lia];refine AJ ⟨ySz 1,bZ (ys:=[o]) (zcH (Cn w2) HX) (zbY 1 399) (AL (bZ (zcH (P9 (Cn w2) (zcS 1)) Pu) (zcH (N6 w2) MA) ⟨ySz 1,h _ _ ?_⟩))⟩;clear h;have wg:Wg k ws:=⟨w2,w1⟩
  have o0:=M4 (b:=b) (j:=b+1) wg (Ma ho) (zcS 1) (by simp);generalize (ws.take b++[o])++ws.drop (b+1)=A0 at o0;generalize hT:S.set p (some (MO.feed (n+1+1+1)))=U;have hU:U[p]? =some (some (.feed (n+3))):=by rw[<-hT];exact bE hp
  refine bW λN h=>?_;push_cast[tN];refine⟨by rw[aV (o:=.lst [bw A0]) bJ];rfl,AJ ⟨ySz 1,bZ (ys:=[o]) (zcH (Cn w2) HX) (zbY 1 399) (AL (bZ (zcH (P9 (Cn w2) (zcS 1)) Pu) (zcH (N6 w2) MA) ⟨_,_,_,rfl,rfl,bJ,by show 1<yah;decide,?_⟩))⟩⟩;rw[jF];refine h _ _ ?_;clear h;have o1:=M4 (b:=b) (j:=b) wg (Ma ho) (zcS 1) (zcS _);show(fZ _ _) _ _ (U++[some (.lst [bw A0,bw ((ws.take b++[o])++ws.drop b)])]);generalize (ws.take b++[o])++ws.drop b=A1 at o1;refine bW λN h=>?_;push_cast[dF];rw[show(b:Int)+1=((b+1:Nat):Int) by lia];refine AJ (AL (bZ (zcH (Cn w2) HX) (zcH (N6 w2) MA) ⟨ySz 1,by show _+1<=_;rw[zbN,yag];lia,ySz 2,sQ (xs:=[bw A0,bw A1]) (aV (o:=.lst [bw A0,bw A1]) bJ) c6 (by simp) ?_⟩));refine h _ _ ?_;clear h;have o2:=M4 (os:=[]) (b:=b) (j:=b+1) wg (λy e=>by simp at e) (zcT _) (by lia);rw[zbO] at o2;have o3:=P8 wg ho;have e4:D.lst (ws.map D.str++[D.str o])=bw (ws++[o]):=by show _=D.lst _;rw[zbU];rfl
  rw[e4];clear e4;show(fZ _ _) _ [some (D.loc p),some LS,some XN,some (D.int a),some (D.lst (ws.map D.str)),some (D.int b),some SD,some (D.str o),some (D.loc (U++[some (MO.lst [bw A0,bw A1])]).length),none] ((U++[some (MO.lst [bw A0,bw A1])])++[some (.lst [bw A0,bw A1,bw (ws.take b++ws.drop (b+1)),bw (ws++[o])])]);generalize ws.take b++ws.drop (b+1)=A2 at o2;generalize ws++[o]=A3 at o3;have hT2:∃E,U++[some (MO.lst [bw A0,bw A1])]=S.set p (some (.feed (n+3)))++E:=⟨_,by rw[<-hT]⟩
  have hU2:(U++[some (MO.lst [bw A0,bw A1])])[p]? =some (some (.feed (n+3))):=cW hU;generalize U++[some (MO.lst [bw A0,bw A1])]=U at hT2 hU2;clear hT hU;refine bW λN h=>?_;push_cast[dF];refine Rk wl λu hu=>bZ (ys:=[u]) (zcH w2 HX) (zbY 1 399) (x00 ?_);have n0:∃m∈NA,ji (NA.map D.str) 0=some (.str m):=⟨NA[0],zbB _,show ji _ ((0:Nat):Int)=_ from bU (by rw[zbe,zal (by omega)];rfl)⟩
  obtain⟨m,hm,n0⟩:=n0;refine⟨_,n0,ySz 4,ySz 2,sQ (xs:=[bw A0,bw A1,bw A2,bw A3]) (aV (o:=.lst [bw A0,bw A1,bw A2,bw A3]) bJ) c6 (by simp) ?_⟩;refine h _ _ ?_;clear h n0;have o4:=P8 wg (w1 u hu);have o5:Wg (k+1) [("tie":Str),m,"a","zq"]:=by
   refine⟨by simp;lia,λy e=>?_⟩;simp only[zcn,zbC,or_false] at e;rcases e with rfl|rfl|rfl|rfl
   ·exact .lit (by decide+kernel)
   ·exact(eT.nm (nA _ hm)).mono (by decide)
   ·exact .lit (by decide+kernel)
   ·exact .lit (by decide+kernel)
  show(fZ _ _) _ [some (D.loc p),some LS,some XN,some (D.int a),some (D.lst (ws.map D.str)),some (D.int b),some SD,some (D.str o),some (D.loc (U++[some (MO.lst [bw A0,bw A1,bw A2,bw A3])]).length),none] ((U++[some (MO.lst [bw A0,bw A1,bw A2,bw A3])])++[some (.lst [bw A0,bw A1,bw A2,bw A3,bw (ws++[u]),bw ["tie",m,"a","zq"]])]);generalize ws++[u]=A4 at o4;generalize [("tie":Str),m,"a","zq"]=A5 at o5;have hT3:∃E,U++[some (MO.lst [bw A0,bw A1,bw A2,bw A3])]=S.set p (some (.feed (n+3)))++E:=by
   obtain⟨E,rfl⟩:=hT2;exact⟨_,zbg ..⟩
  have hU3:(U++[some (MO.lst [bw A0,bw A1,bw A2,bw A3])])[p]? =some (some (.feed (n+3))):=cW hU2;generalize U++[some (MO.lst [bw A0,bw A1,bw A2,bw A3])]=U at hT3 hU3;clear hT2 hU2;refine bW λN h=>?_;push_cast[tN];refine⟨by rw[aV (o:=.lst [bw A0,bw A1,bw A2,bw A3,bw A4,bw A5]) bJ];rfl,ySz 2,x03 (bI (cW hU3) (by lia) (by decide) (by decide) λz hz=>⟨5+(z:Int),rfl,?_⟩)⟩;have pl:=fu hp;have pu:=fu hU3;rw[show 5+(z:Int)=((5+z:Nat):Int) by simp,nk pu,show U.length=(U.set p (some (MO.feed (n+3+1)))).length by rw[zbV]];have hT4:∃E,U.set p (some (MO.feed (n+3+1)))=S.set p (some (.feed (n+4)))++E:=by
   obtain⟨E,rfl⟩:=hT3;exact⟨E,gi pl⟩
  have hU4:(U.set p (some (MO.feed (n+3+1))))[p]? =some (some (.feed (n+4))):=bE hU3;generalize U.set p (some (MO.feed (n+3+1)))=U at hT4 hU4;clear hT3 hU3 pu;refine AJ (bZ (xs:=["knot","zr"]) (zbY 2 498) (zcH (Cn (Nat.le_of_eq l8)) (zbY 7 393)) ⟨_,_,_,rfl,rfl,bJ,by show 6<yah;decide,?_⟩);rw[jF];refine h _ _ ?_;clear h;have o6:([("knot":Str),"zr"]++Z.take (5+z)).length<=k+1/\∀y∈[("knot":Str),"zr"]++Z.take (5+z),eT 2 y:=by
   refine⟨by rw[zaO,zbv];simp;lia,λy e=>?_⟩;rcases zbM.mp e with e|e
   ·simp only[zcn,zbC,or_false] at e;rcases e with rfl|rfl
    ·exact .lit (by decide+kernel)
    ·exact .lit (by decide+kernel)
   ·exact(eT.nm (n8 y (zaE e))).mono (by decide)
  show(fZ _ _) _ _ (U++[some (.lst [bw A0,bw A1,bw A2,bw A3,bw A4,bw A5,bw ([("knot":Str),"zr"]++Z.take (5+z))])]);generalize [("knot":Str),"zr"]++Z.take (5+z)=A6 at o6;refine bW λN h=>?_;push_cast[dF];refine⟨ySz 4,ySz 1,ySz 1,ySz 3,sQ (aV (o:=.lst [bw A0,bw A1,bw A2,bw A3,bw A4,bw A5,bw A6]) bJ) c6 (by simp) ?_⟩;refine h _ _ ?_;clear h;have hW:Wss (k+1) [A0,A1,A2,A3,A4,A5,A6,["tie","zq","a","zs"],["knot"],[""]]:=by
   have ab:∀l:List Str,l.length<=4->l.all (Eg 2)=true->l.length<=k+1/\∀y∈l,eT 2 y:=λl h1 h2=>⟨by lia,λy e=>.lit (zby.mp h2 y e)⟩
   intro x hx;simp only[zcn,zbC,or_false] at hx;rcases hx with rfl|rfl|rfl|rfl|rfl|rfl|rfl|rfl|rfl|rfl
   ·exact o0
   ·exact o1
   ·exact o2
   ·exact o3
   ·exact o4
   ·exact o5
   ·exact o6
   ·exact ab _ (by simp) (by decide+kernel)
   ·exact ab _ (by simp) (by decide+kernel)
   ·exact ab _ (by simp) (by decide+kernel)
  have hWl:[A0,A1,A2,A3,A4,A5,A6,["tie","zq","a","zs"],["knot"],[""]].length=10:=rfl;show(fZ _ _) _ [some (D.loc p),some LS,some XN,some (D.int a),some (D.lst (ws.map D.str)),some (D.int b),some SD,some (D.str o),some (D.loc (U++[some (MO.lst [bw A0,bw A1,bw A2,bw A3,bw A4,bw A5,bw A6])]).length),none] ((U++[some (MO.lst [bw A0,bw A1,bw A2,bw A3,bw A4,bw A5,bw A6])])++[some (.lst ([A0,A1,A2,A3,A4,A5,A6,["tie","zq","a","zs"],["knot"],[""]].map bw))]);have hT5:∃E,U++[some (MO.lst [bw A0,bw A1,bw A2,bw A3,bw A4,bw A5,bw A6])]=S.set p (some (.feed (n+4)))++E:=by
   obtain⟨E,rfl⟩:=hT4;exact⟨_,zbg ..⟩
  have hU5:(U++[some (MO.lst [bw A0,bw A1,bw A2,bw A3,bw A4,bw A5,bw A6])])[p]? =some (some (.feed (n+4))):=cW hU4;generalize U++[some (MO.lst [bw A0,bw A1,bw A2,bw A3,bw A4,bw A5,bw A6])]=U at hT5 hU5;generalize [A0,A1,A2,A3,A4,A5,A6,["tie","zq","a","zs"],["knot"],[""]]=W at hW hWl;clear hT4 hU4 o0 o1 o2 o3 o4 o5 o6;refine bW λN h=>?_;push_cast[true_and];refine bI (cW hU5) (by lia) (by decide) (by decide) λv hv=>h _ _ ?_;clear h;have pu:=fu hU5;rw[nk pu,show U.length=(U.set p (some (MO.feed (n+4+1)))).length by rw[zbV]];obtain⟨E,hE⟩:∃E,U.set p (some (MO.feed (n+4+1)))=S.set p (some (.feed (n+5)))++E:=by
   obtain⟨E,rfl⟩:=hT5;exact⟨E,gi pl⟩
  generalize U.set p (some (MO.feed (n+4+1)))=U at hE;clear hT5 hU5 pu;have gl:∀{Q:AK}{S:aD},(∀l∈O,Q (.dat (.str l)) S)->sU LS (.int a) S Q:=λ{Q S} h=>by
   rw[<-Y];refine pick (by rw[zbN];lia) λy e=>?_;obtain⟨l,hl,rfl⟩:=zcE.mp e;exact h l hl
  have sT:∀{Q:AK}{S:aD},Q (.new (.lst ((O.take a).map D.str))) S->iY LS none (some (a:Int)) S Q:=λ{Q S} h=>by rw[<-Y];exact AJ h
  have sD:∀{j:Nat}{Q:AK}{S:aD},Q (.new (.lst ((O.drop j).map D.str))) S->iY LS (some (j:Int)) none S Q:=λ{j Q S} h=>by rw[<-Y];exact AL h
  have fin:∀{L:List Str}{X:aD},L.length<=O.length+1->L≠[]->(∀l∈L,eT (2*k+4) l)->Uz S (U++X) (.new (.lst (L.map D.str))) Q:=λ{L X} h1 h2 h3=>by
   rw[hE,zbg];exact qi (gV _) (q L (n+5) ⟨h2,by lia,h3⟩ h1 (zcS _))
  refine bW λN h=>?_;push_cast[true_and];have up:∀l∈O,eT (2*k+4) l:=λl h=>(hL.ok l h).mono (by lia);refine jq (λ_=>?_) (λh10=>h _ _ ?_)
  ·refine sT (gl λl hl=>⟨ySz 1,bZ (ys:=[l]) (zcH (Cn I) (zbY 40 460)) (zbY 1 399) (sD (bZ (zcH (P9 (Cn I) (zcS 1)) (zbY 41 459)) (zcH (N6 I) (zbY 40 360)) (fin ?_ ?_ ?_)))⟩)
   ·rw[zaO,zaO,zbv,zbw];simp;lia
   ·simp
   ·intro y e;rcases zbM.mp e with e|e
    ·rcases zbM.mp e with e|e
     ·exact up y (zaE e)
     ·rw[zaS.mp e];exact up l hl
    ·exact up y (zaF e)
  clear h;refine bW λN h=>?_;push_cast[true_and];refine jq (λ_=>?_) (λh11=>h _ _ ?_)
  ·refine sD (sT (bZ (zcH (N6 I) (zbY 40 460)) (zcH (Cn I) (zbY 40 360)) (fin ?_ ?_ ?_)))
   ·rw[zaO,zbv,zbw];lia
   ·intro z;have:=congrArg zcR z;rw[zaO,zbv,zbw,zbS] at this;lia
   ·intro y e;rcases zbM.mp e with e|e
    ·exact up y (zaF e)
    ·exact up y (zaE e)
  clear h;refine bW λN h=>?_;push_cast[true_and];refine jq (λ_=>?_) (λh12=>h _ _ ?_)
  ·refine gl λl hl=>⟨ySz 1,?_⟩
   rw[<-Y];refine bZ (ys:=[l]) (zcH I (zbY 40 460)) (zbY 1 399) (fin ?_ ?_ ?_)
   ·rw[zaO];simp
   ·simp
   ·intro y e;rcases zbM.mp e with e|e
    ·exact up y e
    ·rw[zaS.mp e];exact up l hl
  clear h;have h10:v≠10:=λz=>h10 (yDt (by lia));have h11:v≠11:=λz=>h11 (yDt (by lia));have h12:v≠12:=λz=>h12 (yDt (by lia));push_cast[tN];refine sT ⟨rfl,xR (z:=v) (aV (o:=.lst (W.map bw)) bJ) (by rw[zbN];lia) λy e=>?_⟩;obtain⟨us,hus,rfl⟩:=zcE.mp e;obtain⟨u1,u2⟩:=hW us hus;refine mL (m:=2) (ys:=us) c6 (by lia) u2 (by decide) (by decide) λhJ=>⟨ySz 1,bZ (ys:=[J us]) (zcH (Cn I) (zbY 40 460)) (zbY 1 399) ?_⟩
  rw[show(a:Int)+1=((a+1:Nat):Int) by lia];refine sD (bZ (zcH (P9 (Cn I) (zcS 1)) (zbY 41 459)) (zcH (N6 I) (zbY 40 360)) (fin ?_ ?_ ?_))
  ·rw[zaO,zaO,zbv,zbw];simp;lia
  ·simp
  ·intro y e;rcases zbM.mp e with e|e
   ·rcases zbM.mp e with e|e
    ·exact up y (zaE e)
    ·rw[zaS.mp e];exact hJ.mono (by lia)
   ·exact up y (zaF e)
end
open PySem PySem.Spec L2 M M6 PyProof.Rows
noncomputable abbrev FY:List Str:=["_law_lines_here","_law_marks","_law_ties","_law_number","_law_words","_law_name"]
noncomputable abbrev pK:=FY.take 1
theorem qg:aE FY pK (ah (top 42)):=L2.cL
theorem oS(h:wC y=true):Nm y:=by
 have h:(decide (1<=y.length)&&decide (y.length<=8)&&y.cps.toList.all cZ)=true:=h;simp only[zbH,decide_eq_true_eq] at h;exact⟨h.1.1,h.1.2,λc a=>zby.mp h.2 c a⟩
theorem JT(h:B8 ("knot"::x::ms)=true):Nm x/\∀m∈ms,Nm m:=by
 have h:(!decide (5<ms.length)&&decide ms.Nodup&&(decide (("knot":Str)="knot")&&(decide (2<=(("knot":Str)::x::ms).length)&&(x::ms).all wC)))=true:=h;simp only[zbH] at h;have h:=h.2.2.2;exact⟨oS (zby.mp h x (by simp)),λm a=>oS (zby.mp h m (by simp[a]))⟩
theorem Jt{a b c:Str}(h:Cm ["tie",a,b,c]=true):Nm a/\Nm b/\Nm c:=by
 have h:(decide (("tie":Str)="tie")&&(decide ([("tie":Str),a,b,c].length=4)&&[a,b,c].all wC))=true:=h;simp only[zbH] at h;have h:=h.2.2;exact⟨oS (zby.mp h a (by simp)),oS (zby.mp h b (by simp)),oS (zby.mp h c (by simp))⟩
theorem zF(ks:List Kn)(k:Kn):nms (ks++[k])=nms ks++[k.1]:=by unfold nms;rw[zbU];rfl
theorem RO.Qe{ks:List Kn}{ts:List Ti}(h:RO ks ts)(y:ks.length<40)(j:x ∉ nms ks)(h1:Nm x)(h2:ms.length<=5)(u:ms.Nodup)(q:∀m∈ms,Nm m):RO (ks++[(x,ms)]) ts:=by
 refine⟨by rw[zaO];show ks.length+1<=62;lia,?_,λk i=>?_,h.tn,h.tl,λt l=>?_⟩
 ·rw[zF,zbi];refine⟨h.nd,by simp,λa o b n e=>j ?_⟩;rw[<-show b=x from zaS.mp n,<-e];exact o
 ·rcases zbM.mp i with i|i
  ·exact h.nm k i
  ·rw[zaS.mp i];exact⟨h1,h2,u,q⟩
 ·obtain⟨a,b,c⟩:=h.tk t l;rw[zF];exact⟨zaB _ a,zaB _ b,c⟩
theorem RO.Qc{ks:List Kn}{ts:List Ti}{a b c:Str}(h:RO ks ts)(o:ts.length<300)(h1:a∈nms ks)(h2:c∈nms ks)(n:Nm b)(m:(a,b,c) ∉ ts):RO ks (ts++[(a,b,c)]):=by
 refine⟨h.kl,h.nd,h.nm,?_,by rw[zaO];show ts.length+1<=302;lia,λt i=>?_⟩
 ·rw[zbi];refine⟨h.tn,by simp,λx j y l e=>m ?_⟩;rw[<-zaS.mp l,<-e];exact j
 ·rcases zbM.mp i with i|i
  ·exact h.tk t i
  ·rw[zaS.mp i];exact⟨h1,h2,n⟩
theorem D5{ks:List Kn}(e:(nms ks).Nodup){k:Kn}(a:k∈ks):dI ks k.1=k.2:=by
 have h1:=iP (ks:=ks) (x:=k.1) (zcE.mpr ⟨k,a,rfl⟩);exact congrArg Prod.snd (xG e _ h1 _ a rfl)
theorem ME{ks us:List Kn}(i:(nms ks).Nodup)(a:us.Perm ks)(j:us.Pairwise (λx y=>¬y.1.cps.toList<x.1.cps.toList)):us.map (λk=>D.tup [.str k.1,.tup ((ja k.2).map D.str)])=(ja (nms ks)).map (AV ks):=by
 have e:nms us=ja (nms ks):=rD i (a.map (·.1)) (sortedS_of_pairwise _ (by unfold nms;rw[zbl];exact j.imp λh=>by rw[ltCps_eq];exact yDf h));rw[<-e];unfold nms;rw[zcF];refine zaJ λk l=>?_;show _=D.tup [.str k.1,.tup ((ja (dI ks k.1)).map D.str)];rw[D5 i (a.mem_iff.mp l)]
theorem qh(ks:List Kn)(ts:List Ti):Ui (nI ks ts)=true:=by
 have a:∀l:List Str,bQ (l.map (AV ks))=true:=λl=>by
  induction l with
  |nil=>rfl
  |cons k l ih=>simp only[zco,bQ,zbH];exact⟨by simp[AV,Ui,bQ,gV],ih⟩
 have p3:∀l:List Ti,bQ (l.map T3)=true:=λl=>by
  induction l with
  |nil=>rfl
  |cons k l ih=>simp only[zco,bQ,zbH];exact⟨by simp[T3,Ui,bQ],ih⟩
 simp[nI,Ui,bQ,a,p3]
noncomputable def MF:(Nat×D) ⊕ (List Kn×List Ti)->D
 |.inl e=>.tup [.str (wd e.1),e.2]
 |.inr r=>.tup [.str "told",nI r.1 r.2]
noncomputable abbrev O8(ks:List Kn):MO:=.dct (ks.map λk=>.inr k.1) (ks.map λk=>.tup ((ja k.2).map D.str))
noncomputable abbrev pY(S:aD)(ks:List Kn)(ts:List Ti):aD:=S++[some (O8 ks),some (.lst (ts.map T3))]
theorem eB{X:aD}{d:D}{Q:AK}(h:bY d=true)(q:Q (.dat d) S):ret S (S++X) (.dat d) Q:=
 ⟨_,mH h,λk o a e=>.inl (by rw[zaf a] at e;exact e),by rw[List.take_left' rfl];exact q⟩
theorem su{c:AT}{a b:AS}{D:fL}(h:∀Q:Bool->aD->Prop,Q true S->c δ S Q)(k:a D δ S):vR c a b D δ S:=h _ (by rw[yIp rfl];exact k)
theorem xV{c:AT}{a b:AS}{D:fL}(h:∀Q:Bool->aD->Prop,Q false S->c δ S Q)(k:b D δ S):vR c a b D δ S:=h _ (by rw[yIn (by decide)];exact k)
theorem zG(ks:List Kn):(ks.map λk=>(.inr k.1:Key))=(nms ks).map Sum.inr:=by unfold nms;rw[zcF];rfl
theorem qG{ks:List Kn}{Q:AK}(h:S[n]? =some (some (O8 ks)))(q:Q (.dat (.bl (neg != decide (x∈nms ks)))) S):vQ neg (.str x) (.loc n) S Q:=by
 unfold vQ;rw[aV h];refine⟨.inr x,rfl,?_⟩;rw[zG,pe];exact q
theorem LU{ks:List Kn}(h:x ∉ nms ks):kq (ks.map λk=>.inr k.1) (ks.map λk=>.tup ((ja k.2).map D.str)) (.inr x) (.tup ((ja ms).map D.str))=O8 (ks++[(x,ms)]):=by
 have:=pe (nms ks) x;rw[yDf h,<-zG] at this;unfold pq at this;unfold kq;rw[this,yIn (by decide)];show MO.dct _ _=MO.dct _ _;rw[zbU,zbU];rfl
section
variable {w:yal}{EP:Addr}
theorem ki{ks:List Kn}{ts:List Ti}:(pY S ks ts)[S.length]? =some (some (O8 ks)):=eW (i:=0) rfl
theorem vm{ks:List Kn}{ts:List Ti}:(pY S ks ts)[S.length+1]? =some (some (.lst (ts.map T3))):=eW (i:=1) rfl
def JE:AN:=λe S Q=>∃a:List Str,e=[.lst (a.map D.str)]/\a.length<=1000/\(∀l∈a,pM l)/\Q (.dat (MF (mw 0 (a.map c5) [] []))) S
theorem PK(T:Txt K mg ec EP C fi)(F:Src K mg "_law_due" pK (top 42))(y:Def P w K mg base 2 "_law_is_line" vY (aN K Oq)):Def P w K mg base 3 "_law_due" pK (aN K JE):=by
 refine l5 F qg (λds S Q h=>?_) (λf cdv A outer s H E O=>?_)
 ·obtain⟨x,rfl,_⟩:=h;rfl
 ·refine⟨_,(Tr (TF 1 qg.nd (Ug M.gZ)) (Tr (TF 2 qg.nd (Ug (T5 Tt))) (Tr (Uu PassesOwn.never rfl (Ut (by rfl) T.range (To (TM T9 T.len (Tp (Tn 0))) Tt)) (Ul 3 qg.nd) (Tr (TF 4 qg.nd (Ud PySem.F.plainAttrs_str PySem.F.slot_str_split PySem.F.type_str_split UX (Ub (Tn 0) (Tn 3)) (Tp Tv))) (Tr (T6 (M.gX (Ux (TJ y O (Tp (Tn 4))))) (Tw (TL (T8 (To Tv (Tp (Tn 3)))))) T7) (Tw (T6 (TZ (Ua O) (TR (Tn 4)) Tv (aS _)) (Tr (T6 (TZ (M.DQ O) (TR (Tn 4)) (Tn 1) rfl) (Tw (TL (T8 (To Tv (To (TR (Tn 4)) Tt))))) T7) (Tr (T6 (TZ (Ua O) (TM T9 T.len (Tp (Tn 1))) Tu (aS _)) (Tw (TL (T8 (To Tv (Tp Tv))))) T7) (Tw (M.nY (j6 O) (Tn 1) (TR (Tn 4)) (Uo Uy T.tuple (To (TM M.DL T.sorted (To (TU TV (Tn 4) (TQ Tu) T4) Tt)) Tt)) rfl)))) (Tr (Uu PassesOwn.never rfl (Uq (T5 (To (TR (Tn 4)) (To (TR (Tn 4)) Tt)))) (Ul 5 qg.nd) (Tw (T6 (TZ (M.oz O) (Tn 5) (Tn 1) rfl) (Tw (TL (T8 (To Tv (Tp (Tn 5)))))) T7))) (Tr (T6 (TZ (M.DR O) (Uo Uy T.tuple (To (TU TV (Tn 4) (TQ Tu) T4) Tt)) (Tn 2) rfl) (Tw (TL (T8 (To Tv (To (TR (Tn 4)) Tt))))) T7) (Tr (T6 (TZ (Ua O) (TM T9 T.len (Tp (Tn 2))) Tu (aS _)) (Tw (TL (T8 (To Tv (Tp Tv))))) T7) (Tw (Uh (Ud PySem.F.plainAttrs_list PySem.F.slot_list_append PySem.F.type_list_append UC (Tn 2) (To (Uo Uy T.tuple (To (TU TV (Tn 4) (TQ Tu) T4) Tt)) Tt)))))))))))) (Tw (TL (T8 (To Tv (To (T8 (To (Uo Uy T.tuple (To (M.gy O (by rfl) T.sorted (Tn 1)) Tt)) (To (Uo Uy T.tuple (To (TM (M.DM O) T.sorted (Tp (Tn 2))) Tt)) Tt))) Tt)))))))),λds S Q h=>?_⟩;obtain⟨I,rfl,hl,hok,q⟩:=h;have e0:aL FY [.lst (I.map D.str)]=[some (.lst (I.map D.str)),none,none,none,none,none]:=rfl;rw[e0];refine bW λN h=>?_;push_cast[dF,yl];refine h _ _ ?_;clear h;refine bW λN h=>?_;push_cast[dF];refine⟨zcT _,h _ _ ?_⟩;clear h;rw[zbg,zaO];generalize hR:mw 0 (I.map c5) [] []=res at q;have lw:∀S,gC (bq S (.lst (I.map D.str)))=some I.length:=λ_=>by rw[c6];exact len_strs (by omega)
  have gl:∀{j:Nat}{l:Str}{S:aD}{Q:AK},I[j]? =some l->Q (.dat (.str l)) S->sU (.lst (I.map D.str)) (.int j) S Q:=λ{j l S Q} e q'=>⟨_,bU (by rw[zbe,e];rfl),q'⟩
  generalize D.lst (I.map D.str)=LS at lw gl;refine bW λN h=>?_;push_cast[kG,l0];refine⟨_,lw _,by simp,by lia,?_⟩;rw[show((I.length:Nat):Int).toNat=I.length by simp];refine dJ (λrest δ S'=>∃(j:Nat)(m:List Kn)(o:List Ti)(v3 v4 v5:Option D),rest=(cC 0 I.length).drop j/\mw j ((I.drop j).map c5) m o=res/\Wk m o/\RO m o/\δ=[some LS,some (.loc S.length),some (.loc (S.length+1)),v3,v4,v5]/\S'=pY S m o) ?_ ?_ _ _ _ ⟨0,[],[],none,none,none,rfl,hR,⟨by simp,by simp⟩,⟨by simp,.nil,by simp,.nil,by simp,by simp⟩,rfl,rfl⟩
  ·rintro δ S' ⟨j,m,o,v3,v4,v5,e1,Z,wk,U,rfl,rfl⟩;refine⟨trivial,h _ _ ?_⟩;clear h;have hj:I.length<=j:=by
    have:=congrArg zcR e1;rw[zbw,eu] at this;simp at this;lia
   rw[zao hj] at Z;have Z: .inr (m,o)=res:=Z;subst Z;push_cast[jw];refine⟨m.map λk=>(k.1,.tup ((ja k.2).map D.str)),by rw[aV ki];show D.dct _ _=_;rw[zcF,zcF];rfl,by rw[zbN];have:=wk.k;lia,λab hp hu=>?_⟩;obtain⟨us,hu1,rfl⟩:=dR hp;rw[zbl] at hu;have e:=ME U.nd hu1 hu;rw[zcF,show us.map ((λkv:Str×D=>D.tup [.str kv.1,kv.2]) ∘ λk:Kn=>(k.1,D.tup ((ja k.2).map D.str)))=(ja (nms m)).map (AV m) from e];refine⟨_,rfl,_,o.map T3,rfl,aV vm,qf U.DK,by rw[zbN];have:=U.tl;lia,λks' hp hu=>?_⟩;obtain⟨vs,hv1,rfl⟩:=Ci hp;have e:=yQ U.tn hv1 hu;subst e;refine⟨_,rfl,ySz 2,ySz 2,?_⟩;exact eB (d:=.tup [.str "told",nI m o]) (by simp only[Ui,bQ,qh,zcw]) q
  ·rintro x xs δ S' N ⟨j,m,o,v3,v4,v5,e1,Z,wk,U,rfl,rfl⟩ hN;obtain⟨hj,rfl,e3⟩:=jH e1;refine⟨trivial,?_⟩;have hg:I[j]? =some I[j]:=zal hj;obtain⟨b1,b2,b3,b4⟩:=hok I[j] (zbB _);rw[zag hj] at Z;have u:(match gu j (c5 I[j]) m o with
     |.inl e=>.inl e
     |.inr p=>mw (j+1) ((I.drop (j+1)).map c5) p.1 p.2)=res:=Z
   refine bW λN1 h1=>?_;push_cast[tN];refine gl hg ⟨rfl,_,_,rfl,rfl,by decide+kernel,by rw[yag];lia,?_⟩;show N1 [_,_,_,_,some (.lst ((c5 I[j]).map D.str)),_] _;refine h1 _ _ ?_;clear h1;generalize c5 I[j]=ws at b2 b3 b4 u;refine bW λN2 h2=>?_;push_cast[true_and];refine⟨ws,rfl,b2,b3,b4,_,rfl,?_⟩;cases hk:B8 ws with
   |true=>
    rw[Bool.true_or,yIn (by decide)];refine h2 _ _ ?_;clear h2;obtain⟨x,X,rfl,m1,m2⟩:=sr hk;obtain⟨n1,n2⟩:=JT hk;rw[show gu j ("knot"::x::X) m o=if x∈nms m then .inl (3,.str x) else if m.length=40 then .inl (4,.str "knots") else .inr (m++[(x,X)],o) by unfold gu;rw[yIp hk];rfl] at u;have Kl:ji ((("knot":Str)::x::X).map D.str) 0=some (.str "knot"):=show ji _ ((0:Nat):Int)=_ from bU rfl;have W:ji ((("knot":Str)::x::X).map D.str) 1=some (.str x):=show ji _ ((1:Nat):Int)=_ from bU rfl;refine su (λQ q=>?_) ?_
    ·push_cast[true_and];refine⟨_,Kl,?_⟩;show BO (.str "knot") (.str "knot") _ _;rw[gE];exact⟨_,rfl,qT rfl q⟩
    by_cases L:x∈nms m
    ·rw[yIp L] at u;subst u;refine e7 (λQ q=>?_) ?_
     ·push_cast[true_and];exact⟨_,W,qG ki ⟨_,rfl,by rw[yDt L];exact q⟩⟩
     ·push_cast[true_and];exact⟨_,W,ySz 2,eB rfl q⟩
    rw[yIn L] at u;refine lN (λQ q=>?_) ?_
    ·push_cast[true_and];exact⟨_,W,qG ki ⟨_,rfl,by rw[yDf L];exact q⟩⟩
    have hlk:gC (bq (pY S m o) (.loc S.length))=some m.length:=by rw[aV ki];show some _=_;rw[zbN]
    by_cases Y:m.length=40
    ·rw[yIp Y] at u;subst u;refine e7 (λQ q=>?_) ?_
     ·push_cast[true_and];exact⟨_,hlk,qT (by lia) q⟩
     ·push_cast[true_and];exact⟨ySz 2,eB rfl q⟩
    rw[yIn Y] at u;refine lN (λQ q=>?_) ?_
    ·push_cast[true_and];exact⟨_,hlk,qF (by lia) q⟩
    have:=wk.k;push_cast[yk];rw[show(2:Int)=((2:Nat):Int) from rfl];refine AL ⟨_,rfl,.inl ⟨X,rfl,by lia,λss hp hs=>?_⟩⟩;have e:=rD m2 hp hs;subst e;refine⟨_,rfl,_,W,S.length,rfl,_,_,_,rfl,ki,by rw[zbN];lia,?_⟩;rw[show kq _ _ _ (R.dat (D.tup ((ja X).map D.str))).d=_ from LU L,show(pY S m o).set S.length (some (O8 (m++[(x,X)])))=pY S (m++[(x,X)]) o from jk (i:=0) rfl];exact hN _ _ ⟨j+1,_,_,_,_,_,e3,u,⟨by rw[zaO];show m.length+1<=40;lia,wk.t⟩,U.Qe (by lia) L n1 m1 m2 n2,rfl,rfl⟩
   |false=>
    rw[zcu];cases ht:Cm ws with
    |true=>
     rw[yIn (by decide)];refine h2 _ _ ?_;clear h2;obtain⟨a,b,c,rfl⟩:=rz ht;obtain⟨n1,n2,n3⟩:=Jt ht;rw[show gu j ["tie",a,b,c] m o=if a ∉ nms m then .inl (0,.str a) else if c ∉ nms m then .inl (0,.str c) else if(a,b,c)∈o then .inl (3,.str b) else if o.length=300 then .inl (4,.str "ties") else .inr (m,o++[(a,b,c)]) by unfold gu;rw[yIn (by rw[hk];decide),yIp ht];rfl] at u;refine xV (λQ q=>?_) ?_
     ·push_cast[true_and];refine⟨_,rfl,?_⟩;show BO (.str "tie") (.str "knot") _ _;rw[gE];exact⟨_,rfl,qF (by decide+kernel) q⟩
     refine bW λN2 h2=>?_;push_cast[kG,oV];refine⟨_,rfl,_,rfl,ySz 2,?_⟩;show j0 (λ_=>True) (bg 5) _ [.str a,.str c] _ _ _;refine⟨trivial,?_⟩;by_cases L:a∈nms m
     ·rw[yIn (λz=>z L)] at u;refine xV (λQ q=>?_) ?_
      ·push_cast[true_and];exact qG ki ⟨_,rfl,by rw[yDt L];exact q⟩
      refine⟨trivial,?_⟩;by_cases Y:c∈nms m
      ·rw[yIn (λz=>z Y)] at u;refine xV (λQ q=>?_) ?_
       ·push_cast[true_and];exact qG ki ⟨_,rfl,by rw[yDt Y];exact q⟩
       refine⟨trivial,h2 _ _ ?_⟩;clear h2;show fZ _ _ _ [some LS,some (D.loc S.length),some (D.loc (S.length+1)),some (D.int j),some (D.lst ([("tie":Str),a,b,c].map D.str)),some (.str c)] _;have ot:lX (a,b,c)=true:=oq (b4 a (by simp)) (b4 b (by simp)) (b4 c (by simp));have tin:∀{Q:AK},Q (.dat (.bl (decide ((a,b,c)∈o)))) (pY S m o)->Fw false (T3 (a,b,c)) (.loc (S.length+1)) (pY S m o) Q:=λ{Q} q=>by
        have t1':Tm 1 615 (T3 (a,b,c)):=Ao (.name n1) (.name n2) (.name n3);unfold Fw;rw[aV vm];refine⟨rA t1'.th (by decide),ve (n:=1) (by decide) (λd hd=>by obtain⟨t,ht,rfl⟩:=zcE.mp hd;exact(U.t3 t ht).th),?_⟩;rw[show bq _ (T3 (a,b,c))=T3 (a,b,c) from rfl,Eo ot U.DK,Bool.false_bne];exact q
       have s1:∀{S:aD}{Q:AK},Q (.dat (T3 (a,b,c))) S->iY (.lst ([("tie":Str),a,b,c].map D.str)) (some 1) none S (λx S1=>vO [x.d] S1 Q):=λ{S Q} q=>by
        rw[show(1:Int)=((1:Nat):Int) from rfl];exact AL ⟨_,rfl,q⟩
       by_cases c3:(a,b,c)∈o
       ·rw[yIp c3] at u;subst u;refine e7 (λQ q=>?_) ?_
        ·push_cast[true_and];exact s1 (tin ⟨_,rfl,qT c3 q⟩)
        ·push_cast[true_and];exact⟨_,rfl,ySz 2,eB rfl q⟩
       rw[yIn c3] at u;refine lN (λQ q=>?_) ?_
       ·push_cast[true_and];exact s1 (tin ⟨_,rfl,qF c3 q⟩)
       have hlt:gC (bq (pY S m o) (.loc (S.length+1)))=some o.length:=by rw[aV vm];show some _=_;rw[zbN]
       have:=wk.t;by_cases c4:o.length=300
       ·rw[yIp c4] at u;subst u;refine e7 (λQ q=>?_) ?_
        ·push_cast[true_and];exact⟨_,hlt,qT (by lia) q⟩
        ·push_cast[true_and];exact⟨ySz 2,eB rfl q⟩
       rw[yIn c4] at u;refine lN (λQ q=>?_) ?_
       ·push_cast[true_and];exact⟨_,hlt,qF (by lia) q⟩
       push_cast[tN];refine⟨by rw[aV vm];rfl,s1 ⟨_,_,_,rfl,rfl,vm,by rw[zbN,yag];lia,?_⟩⟩;rw[jk (i:=1) rfl];exact hN _ _ ⟨j+1,_,_,_,_,_,e3,u,⟨wk.k,by rw[zaO];show o.length+1<=300;lia⟩,U.Qc (by lia) L Y n2 c3,rfl,by rw[pY,zbU];rfl⟩
      ·rw[yIp Y] at u;subst u;refine su (λQ q=>?_) ?_
       ·push_cast[true_and];exact qG ki ⟨_,rfl,by rw[yDf Y];exact q⟩
       ·push_cast[true_and];exact⟨ySz 2,eB rfl q⟩
     ·rw[yIp L] at u;subst u;refine su (λQ q=>?_) ?_
      ·push_cast[true_and];exact qG ki ⟨_,rfl,by rw[yDf L];exact q⟩
      ·push_cast[true_and];exact⟨ySz 2,eB rfl q⟩
    |false=>
     rw[yIp (by decide)];rw[show gu j ws m o=.inl (8,.int (j:Nat)) by unfold gu;rw[yIn (by rw[hk];decide),yIn (by rw[ht];decide)]] at u;subst u;exact⟨ySz 2,eB rfl q⟩
end
open PySem PySem.Spec L2 M M6 PyProof.Rows
theorem GZ{ks:List Kn}{ts:List Ti}{d:D}(h:gu n ws ks ts=.inl (j,d)):(j=0∨j=3∨j=4∨j=8)/\bY d=true:=by
 unfold gu at h;split at h
 ·split at h
  ·cases h;exact⟨by decide,rfl⟩
  ·split at h
   ·cases h;exact⟨by decide,rfl⟩
   ·cases h
 ·split at h
  ·split at h
   ·cases h;exact⟨by decide,rfl⟩
   ·split at h
    ·cases h;exact⟨by decide,rfl⟩
    ·split at h
     ·cases h;exact⟨by decide,rfl⟩
     ·split at h
      ·cases h;exact⟨by decide,rfl⟩
      ·cases h
  ·cases h;exact⟨by decide,rfl⟩
theorem rT:∀{wss:List (List Str)}{n:Nat}{ks:List Kn}{ts:List Ti}{j:Nat}{d:D},mw n wss ks ts=.inl (j,d)->(j=0∨j=3∨j=4∨j=8)/\bY d=true
 |[],n,ks,ts,j,d,h=>by cases h
 |ws::r,n,ks,ts,j,d,h=>by
  have h:(match gu n ws ks ts with
   |.inl e=>.inl e
   |.inr p=>mw (n+1) r p.1 p.2)=Sum.inl (j,d):=h
  cases e:gu n ws ks ts with
  |inl q=>
   rw[e] at h;cases h;exact GZ e
  |inr p=>
   rw[e] at h;exact rT h
section
variable {w:yal}{EP:Addr}
def t7:AN:=λe S Q=>∃a:List Str,e=[.lst (a.map D.str)]/\a.length<=1000/\(∀l∈a,pM l)/\Q (.dat (MF (mw 0 (a.map c5) [] []))) S
theorem ET(T:Txt K mg ec EP C fi)(F:Src K mg "_law_caught" gc jG)(l:Def P w K mg base 4 "read_web" fJ (aN K (CI C w)))(yD:cX P w K mg base 3 C "rows" iy (yS C w))(DX:Jo P w K mg base 5 "read_web" fJ (BN K EP ec Ca Ai))(Y:Jp P w K mg base 1 "_law_own" pJ (JD ec)):Def P w K mg base 6 "_law_caught" gc (aN K t7):=by
 refine F.def c7 (λvs H Q E h=>?_) (λf cdv A outer s H vs Q E hr h=>?_)
 ·obtain⟨w,ds,S,Qa,_,r,⟨t,rfl,_⟩,_⟩:=h;rw[r.length];rfl
 ·obtain⟨w1,ds,S,Qa,ok,rep,⟨U,rfl,hl,hok,q⟩,bk⟩:=h;cases hR:mw 0 (U.map c5) [] [] with
  |inr p=>
   obtain⟨ks,ts⟩:=p;rw[hR] at q;have g:yC (d9 iF P _ K mg base iR "_law_caught" (ah jG) f cdv A outer s H E).DS (aT jG) _:=(Tr (TF 1 c7.nd M.oi) (Tr (M.rW rfl (Tw (TF 1 c7.nd (T8 (To Tv (To (M.jS (TJ l hr (Tp (Tn 0))) T.cl yD (hr.mono (by decide))) Tt)))))) (Tw (TL (Tn 1)))))
   refine⟨_,g.p,w1,aL iR [.lst (U.map D.str)],S,{nx:=λ_ I=>ret S I (.dat .aY) Qa,rt:=λr I=>ret S I r Qa},ok,eO rep,?_,⟨λδ I σ w' H' le O env q'=>nJ (r:=.dat .aY) (v:=.aY) ok le O (show Rep K w' .aY .aY from .aY) q' bk,λr I v w' H' le O ac q'=>nJ ok le O ac q' bk,λ_ _ _ _ _ _ _ _ z=>z.elim,λ_ _ _ _ _ _ _ _ z=>z.elim⟩⟩;have e0:aL iR [.lst (U.map D.str)]=[some (.lst (U.map D.str)),none,none]:=rfl;rw[e0];push_cast[true_and];refine⟨_,rfl,U,ks,ts,rfl,hl,hok,hR,λI own X' k'=>?_⟩;obtain⟨m,t,e,cs,ro,rk,X⟩:=id X';refine⟨S.length,_,_,rfl,X.at_,by decide+kernel,S.length,own,ks,ts,rfl,X',λp1 n p3=>⟨ySz 2,?_⟩⟩;have eS:I=S++I.drop S.length:=by
    have:=(zav S.length I).symm;rw[k'.take] at this;exact this
   rw[eS];exact eB (d:=.tup [.str "told",nI ks ts]) (by simp only[Ui,bQ,qh,zcw]) q
  |inl p=>
   obtain⟨j,d⟩:=p;rw[hR] at q;obtain⟨y,hpd⟩:=rT hR;have hj:j<9:=by lia
   refine⟨_,L2.aa (L2.bR (i:=1) c7.nd rfl (Or.inl rfl) L2.oi) (L2.aa (G8 (i:=2) rfl rfl (LR (DA rfl L2.ak (AY (DB rfl DX hr (by rfl) (L2.az (L2.pv 0) L2.ai))))) (by rfl) T.at_PathError T.ex_PathError T.sb_PathError c7.nd rfl rfl (λa=>(L2.aa (L2.bR (i:=1) c7.nd rfl (Or.inl rfl) (L2.br (L2.az (Hg Y ((hr.mono (by decide)).h _) (by rfl) (L2.az (L2.pv 2) L2.ai)) (L2.az L2.oi L2.ai)))) (L2.aj (L2.bh (L2.aG DI (L2.fS QO (L2.pv 1) L2.ao (λ_ _=>rfl)) L2.ak (aS _)) (L2.aj (L2.bR (i:=1) c7.nd rfl (Or.inl rfl) (L2.br (L2.az L2.ak (L2.az (rY (L2.pv 2)) L2.ai))))) (L2.aj (L2.bh (L2.aG DI (L2.fS QO (L2.pv 1) L2.ao (λ_ _=>rfl)) L2.ak (aS _)) (L2.aj (L2.bR (i:=1) c7.nd rfl (Or.inl rfl) (L2.br (L2.az L2.ak (L2.az (rY (L2.pv 2)) L2.ai))))) (L2.aj (L2.bh (L2.aG L2.DR (L2.fS QO (L2.pv 1) L2.ao (λ_ _=>rfl)) (L2.br (L2.az L2.ak (L2.az L2.ak L2.ai))) rfl) (L2.aj (L2.bR (i:=1) c7.nd rfl (Or.inl rfl) (L2.br (L2.az (L2.fS QO (L2.pv 1) L2.ao (λ_ _=>rfl)) (L2.az (rY (L2.pv 2)) L2.ai))))) L2.aM))))))))) (L2.aj (L2.aJ (L2.pv 1)))),?_⟩;obtain⟨v1,rfl,r1⟩:=dw rep;refine pV λN1 hN1=>?_;refine hN1 _ _ ?_;refine pV λN2 hN2=>?_;refine⟨v1,rfl,w1,[.lst (U.map D.str)],S,j,d,ok,.cons r1 .nil,⟨U,rfl,hl,hok,hR⟩,λev H' z=>?_⟩;obtain⟨w',H0,a,dx,T',v,le,ok0,rv,na,nd,sm,eva,R⟩:=z;refine⟨a,ec j,dx,T',_,eva,R,λH3 h3 hk=>?_⟩;have s3:cJ H0 H3:=λb o e=>hk b o (sm b o e) (aF e na);have h3d:=hk _ _ R.d R.n2;refine pV λN3 hN3=>?_;refine⟨.ref a,rfl,a,_,j,rfl,hj,⟨dx,h3,h3d,R.n2⟩,λZ s4=>?_⟩;refine⟨ySz 2,λn np2=>hN3 _ _ ?_⟩;have s5:cJ H3 (upd Z n (.tup [.str (wd j),.aY])):=s4.trans (alloc np2);clear hN1 hN3;have fin:∀u,cJ (upd Z n (.tup [.str (wd j),.aY])) u->∀p3,u p3=none->Cs (tV 1) {nx:=λx H'=>Q V.aY H',rt:=Q} [some v1,some (.ref p3),none] (upd u p3 (.tup [.str (wd j),v])):=λu L p3 n3=>by
    refine⟨.ref p3,rfl,?_⟩;obtain⟨w3,le3,ok6,ab⟩:=(zC ok0 (s3.trans (s5.trans L))).kZ (ds:=[.str (wd j),d]) n3 (.cons .str (.cons rv .nil));exact bk.dat (le.trans le3) ok6 ab q
   have t0:∀u,cJ (upd Z n (.tup [.str (wd j),.aY])) u->u n=some (.tup [.str (wd j),.aY]):=λu L=>L _ _ aq;have W:∀u,cJ (upd Z n (.tup [.str (wd j),.aY])) u->CA (KY (nj (tC (.str (wd j))) (nj (Jw K (tV 2) (Ca j)) wK))) (qJ 1) {nx:=λσ' H'=>(∃v,σ'[2]? =some (some v))/\N2 (List.set σ' 2 none) H',rt:=λ_ _=>False} [some v1,some (.ref n),some (.ref a)] u:=λu L=>
    ⟨_,rfl,a,ec j,dx,_,v,rfl,L _ _ (s5 _ _ h3),L _ _ (s5 _ _ h3d),(T.xi j hj).toXCls,T.fld j hj,by simp[zcQ],ySz 2,λp3 n3=>⟨⟨_,rfl⟩,hN2 _ _ (fin u L p3 n3)⟩⟩
   clear fin hN2;have s0:cJ (upd Z n (.tup [.str (wd j),.aY])) (upd Z n (.tup [.str (wd j),.aY])):=λ_ _ e=>e;refine⟨.ref n,rfl,n,_,0,.str (wd j),rfl,rfl,ee.of aq,rfl,rfl,_,rfl,?_⟩;dsimp only;by_cases h8:j=8
   ·subst h8;rw[yIp (by decide+kernel)];exact W _ s0
   rw[yIn (by rcases y with rfl|rfl|rfl|rfl<;>first|decide+kernel|exact absurd rfl h8)];refine⟨.ref n,rfl,n,_,0,.str (wd j),rfl,rfl,ee.of aq,rfl,rfl,_,rfl,?_⟩;dsimp only;by_cases h4:j=4
   ·subst h4;rw[yIp (by decide+kernel)];exact W _ s0
   rw[yIn (by rcases y with rfl|rfl|rfl|rfl<;>first|decide+kernel|exact absurd rfl h4)];refine⟨.ref n,rfl,n,_,0,.str (wd j),rfl,rfl,ee.of aq,rfl,ySz 2,λp3 n3=>⟨p3,[.str "knot",.str "twice"],rfl,.inr (ee.of aq),rfl,rfl,_,rfl,?_⟩⟩;have s7:=alloc (o:=.tup [.str "knot",.str "twice"]) n3;show if R4 (V.str (wd j)) [.str "knot",.str "twice"]=true then _ else _;have ef:Ca j="name":=by rcases y with rfl|rfl|rfl|rfl<;>first|rfl|exact absurd rfl h4|exact absurd rfl h8
   rw[yIp (by rcases y with rfl|rfl|rfl|rfl<;>first|decide+kernel|exact absurd rfl h4|exact absurd rfl h8)];have ag:=W _ s7;rw[ef] at ag;exact⟨_,rfl,n,_,0,.str (wd j),rfl,rfl,ee.of (t0 _ s7),rfl,ag⟩
end
open PySem PySem.Spec L2 M M6 PyProof.Rows
structure Tq(n m:Nat)(d:D):Prop where
 bY:bY d=true
 dep:(py d).depth<=n
 sh:pZ (py d)
 wt:L2.wt (py d)<=m
theorem SK{n m:Nat}:∀{es:List D},(∀e∈es,Tq n m e)->bQ es=true/\PyData.depthAll (dY es)<=n/\cN (dY es)/\gO (dY es)<=es.length*(m+2)
 |[],_=>⟨rfl,by simp[dY,PyData.depthAll],by simp[dY,cN],by simp[dY,gO]⟩
 |e::es,h=>by
  obtain⟨a,b,c,d⟩:=SK (es:=es) λx j=>h x (by simp[j]);have i:=h e (by simp);refine⟨by simp only[bQ,zbH];exact⟨i.bY,a⟩,?_,by simp only[dY,cN];exact⟨i.sh,c⟩,?_⟩
  ·have:=i.dep;simp only[dY,PyData.depthAll];lia
  ·have:=i.wt;simp only[dY,gO,zbu];rw[Nat.succ_mul];lia
theorem Tq.tup{l:Nat}{es:List D}(h:∀e∈es,Tq n m e)(i:es.length<=l):Tq (n+1) (l*(m+2)+3) (.tup es):=by
 obtain⟨a,b,c,d⟩:=SK h;refine⟨by simpa[Ui] using a,by simp only[py,PyData.depth];lia,by simpa[py,pZ] using c,?_⟩;have:es.length*(m+2)<=l*(m+2):=Nat.mul_le_mul_right _ i;simp only[py,L2.wt];lia
theorem Tq.asc(a:y.length<=20)(h:KH y):Tq 0 202 (.str y):=by
 refine⟨rfl,by simp[py,PyData.depth],?_,?_⟩
 ·simp only[py,pZ];exact KH.ok h
 ·simp only[py,L2.wt];lia
theorem Tq.name(h:Nm y):Tq 0 202 (.str y):=.asc (by have:=h.2.1;lia) h.asc
theorem Tq.mono{a e:Nat}{d:D}(h:Tq n m d)(i:n<=a)(j:m<=e):Tq a e d:=⟨h.bY,zcH h.dep i,h.sh,zcH h.wt j⟩
theorem Dj{x:D}{Q:AK}(a:Tq n m x)(i:n<=100)(j:m<=1000000)(q:Q (.dat (.str (py x).shown)) S):Ko [x] S Q:=by
 have e:=zc (S:=S) a.bY;refine⟨x,rfl,?_⟩;rw[e];exact⟨a.bY,a.sh.show,zcH a.dep i,zcH (shown_le _ a.sh) (zcH a.wt (by rw[yag];lia)),q⟩
theorem JX:∀n<400,(PyData.shown (.int (n:Nat))).length<=20/\((n:Nat):Int).natAbs.log2<1920:=by decide+kernel
theorem Tq.int(h:n<400):Tq 0 202 (.int (n:Nat)):=⟨rfl,by simp[py,PyData.depth],by simp only[py,pZ];exact(JX n h).2,by have:=(JX n h).1;simp only[py,L2.wt];lia⟩
theorem mh(l:List Str):(∀m∈ja l,m∈l)/\(ja l).length<=l.length:=by
 unfold ja;split
 ·rename_i z;exact⟨λm h=>z.choose_spec.1.mem_iff.mp h,Nat.le_of_eq z.choose_spec.1.length_eq⟩
 ·exact⟨by simp,by simp⟩
theorem tY(l:List Ti):(∀m∈wN l,m∈l)/\(wN l).length<=l.length:=by
 unfold wN;split
 ·rename_i z;exact⟨λm h=>z.choose_spec.1.mem_iff.mp h,Nat.le_of_eq z.choose_spec.1.length_eq⟩
 ·exact⟨by simp,by simp⟩
theorem RO.tq{ks:List Kn}{ts:List Ti}(h:RO ks ts):Tq 4 372681 (nI ks ts):=by
 refine Tq.tup (n:=3) (l:=2) (m:=186337) ?_ (by simp);simp only[zcn,zbC,or_false];have u:(nms ks).length=ks.length:=by unfold nms;rw[zbN]
 rintro e (rfl|rfl)
 ·refine(Tq.tup (n:=2) (l:=62) (m:=2053) (λe a=>?_) (by rw[zbN];have:=(mh (nms ks)).2;have:=h.kl;lia)).mono (by decide) (by decide);obtain⟨x,o,rfl⟩:=zcE.mp a;have i:=h.nm _ (iP ((mh _).1 x o));refine Tq.tup (n:=1) (l:=2) (m:=1023) ?_ (by simp);simp only[zcn,zbC,or_false];rintro e (rfl|rfl)
  ·exact(Tq.name i.1).mono (by decide) (by decide)
  ·refine Tq.tup (n:=0) (l:=5) (m:=202) (λe a=>?_) (by rw[zbN];exact zcH (mh _).2 i.2.1);obtain⟨y,j,rfl⟩:=zcE.mp a;exact .name (i.2.2.2 y ((mh _).1 y j))
 ·refine(Tq.tup (n:=1) (l:=302) (m:=615) (λe a=>?_) (by rw[zbN];exact zcH (tY ts).2 h.tl)).mono (by decide) (by decide);obtain⟨t,q,rfl⟩:=zcE.mp a;have:=h.ends ((tY ts).1 t q);refine Tq.tup (n:=0) (l:=3) (m:=202) ?_ (by simp);simp only[zcn,zbC,or_false];rintro e (rfl|rfl|rfl)
  ·exact .name this.1
  ·exact .name this.2.1
  ·exact .name this.2.2
def SE:(Nat×D) ⊕ (List Kn×List Ti)->Prop
 |.inl e=>Tq 0 202 e.2
 |.inr r=>RO r.1 r.2/\Wk r.1 r.2
theorem kno:Tq 0 202 (.str "knots"):=.asc (by decide+kernel) (sN (by decide+kernel))
theorem NT:Tq 0 202 (.str "ties"):=.asc (by decide+kernel) (sN (by decide+kernel))
theorem GY{ks:List Kn}{ts:List Ti}(l:n<400)(i:RO ks ts)(e:Wk ks ts):SE (gu n ws ks ts):=by
 have q:=e.k;have m:=e.t;unfold gu;split
 ·next hk=>
  obtain⟨x,o,rfl,m1,m2⟩:=sr hk;obtain⟨n1,n2⟩:=JT hk;split
  ·exact Tq.name n1
  ·next c1=>
   split
   ·exact kno
   ·next c2=>exact⟨i.Qe (by lia) c1 n1 m1 m2 n2,⟨by rw[zaO];show ks.length+1<=40;lia,e.t⟩⟩
 ·split
  ·next ht=>
   obtain⟨a,b,c,rfl⟩:=rz ht;obtain⟨n1,n2,j⟩:=Jt ht;split
   ·exact Tq.name n1
   ·next c1=>
    split
    ·exact Tq.name j
    ·next c2=>
     split
     ·exact Tq.name n2
     ·next c3=>
      split
      ·exact NT
      ·next c4=>exact⟨i.Qc (by lia) (Decidable.not_not.mp c1) (Decidable.not_not.mp c2) n2 c3,⟨e.k,by rw[zaO];show ts.length+1<=300;lia⟩⟩
  ·exact Tq.int l
theorem zp:∀{wss:List (List Str)}{n:Nat}{ks:List Kn}{ts:List Ti},n+wss.length<=400->RO ks ts->Wk ks ts->SE (mw n wss ks ts)
 |[],n,ks,ts,_,ro,wk=>⟨ro,wk⟩
 |ws::r,n,ks,ts,hn,ro,wk=>by
  rw[zbu] at hn;have h:=GY (n:=n) (ws:=ws) (by lia) ro wk;show SE (match gu n ws ks ts with
   |.inl e=>.inl e
   |.inr p=>mw (n+1) r p.1 p.2)
  cases e:gu n ws ks ts with
  |inl q=>rw[e] at h;exact h
  |inr p=>
   rw[e] at h;exact zp (by lia) h.1 h.2
theorem Ra:∀j<9,(decide ((wd j).length<=20)&&P7 (wd j))=true:=by decide+kernel
theorem Q9(j:Nat)(a:j<9):Tq 0 202 (.str (wd j)):=by
 have h:=Ra j a;rw[zbH] at h;exact .asc (of_decide_eq_true h.1) (sN h.2)
theorem EK(a:ls.length<=400):Tq 5 1000000 (MF (mw 0 (ls.map c5) [] [])):=by
 have h:=zp (wss:=ls.map c5) (n:=0) (ks:=[]) (ts:=[]) (by rw[zbN];lia) ⟨by simp,.nil,by simp,.nil,by simp,by simp⟩ ⟨by simp,by simp⟩;cases e:mw 0 (ls.map c5) [] [] with
 |inl q=>
  rw[e] at h;obtain⟨j,d⟩:=q;have:=(rT e).1;refine(Tq.tup (n:=0) (l:=2) (m:=202) ?_ (by simp)).mono (by decide) (by decide);simp only[zcn,zbC,or_false];rintro e (rfl|rfl)
  ·exact Q9 j (by lia)
  ·exact h
 |inr p=>
  rw[e] at h;refine(Tq.tup (n:=4) (l:=2) (m:=372681) ?_ (by simp)).mono (by decide) (by decide);simp only[zcn,zbC,or_false];rintro e (rfl|rfl)
  ·exact(Tq.asc (y:="told") (by decide+kernel) (sN (by decide+kernel))).mono (by decide) (by decide)
  ·exact h.1.tq
theorem Hy{s:Str}{Q:AK}(q:Q (.dat (.bl false)) S):Kp (.str s) (.str s) S Q:=by
 have e:Kp (.str s) (.str s) S Q=Q (.dat (.bl (!decide (s=s)))) S:=rfl;rw[e,yDt rfl];exact q
open PySem PySem.Spec L2 M M6 PyProof.Rows
noncomputable abbrev xh:Stmt:=top 44
noncomputable abbrev FU:List Str:=["_law_script","_law_k","_law_feed_here","_law_marks","_law_names_here","_law_lines_here","_law_turn","_law_handed"]
noncomputable abbrev sW:=FU.take 1
theorem jb:aE FU sW (ah xh):=L2.cL
theorem Ef(h:∀l∈ls,eT n l):fit (.lst (ls.map D.str))=true:=by
 have go:∀i:List Str,(∀l∈i,eT n l)->bQ (i.map D.str)=true/\PyData.canLayAll0 (dY (i.map D.str))=true/\PyData.depthAll (dY (i.map D.str))<=0:=by
  intro i
  induction i with
  |nil=>intro _;simp[bQ,dY,PyData.canLayAll0,PyData.depthAll]
  |cons l i ih=>
   intro h;obtain⟨a,b,c⟩:=ih λx j=>h x (zaA _ j);have m:=(h l (by simp)).all.2;have e:PyData.strOk l=true:=by
    unfold PyData.strOk;rw[<-Array.all_toList];refine zby.mpr λc o=>?_;have:=m c o;exact yDt (by lia)
   refine⟨by simp[bQ,Ui,a],by simp[dY,py,PyData.canLayAll0,PyData.canLay0,e,b],?_⟩;simp only[zco,dY,py,PyData.depthAll,PyData.depth];assumption
 obtain⟨a,b,c⟩:=go ls h;unfold fit PySem.SeqAt.shaped;have y:bY (.lst (ls.map D.str))=true:=by simpa[bY] using a
 have u:(py (.lst (ls.map D.str))).canLay0=true:=by simpa[py,PyData.canLay0] using b
 have q:(py (.lst (ls.map D.str))).depth<=64:=by simp only[py,PyData.depth];lia
 rw[y,u,yDt q];rfl
theorem zJ:∀a:List Str,PyData.eqvAll (dY (a.map D.str)) (dY (a.map D.str))=true
 |[]=>by simp[dY,PyData.eqvAll]
 |l::a=>by simp only[zco,dY,py,PyData.eqvAll,PyData.eqv,zJ a];simp
theorem Pf{Q:AK}(h:∀l∈ls,eT n l)(q:Q (.dat (.bl false)) S):Kp (.lst (ls.map D.str)) (.lst (ls.map D.str)) S Q:=by
 unfold Kp;rw[c6];refine⟨Ef h,Ef h,?_⟩;rw[show PyData.eqv (py (.lst (ls.map D.str))) (py (.lst (ls.map D.str)))=true by simp only[py,PyData.eqv];exact zJ ls];exact q
theorem LF:mw 0 ([("knot a":Str),""].map c5) [] []=.inl (8,.int ((1:Nat):Int)):=by
 have l:c5 "knot a"=[("knot":Str),"a"]:=by decide+kernel
 have j:c5 ""=[("":Str)]:=by decide+kernel
 have i:gu 0 ["knot","a"] [] []=.inr ([("a",[])],[]):=by unfold gu;rw[yIp (by decide+kernel),yIn (by decide+kernel),yIn (by decide)];rfl
 have a:gu 1 [""] [("a",[])] []=.inl (8,.int ((1:Nat):Int)):=by unfold gu;rw[yIn (by decide+kernel),yIn (by decide+kernel)]
 show(match gu 0 (c5 "knot a") [] [] with
   |.inl e=>Sum.inl e
   |.inr p=>mw 1 [c5 ""] p.1 p.2)=_
 rw[l,j,i];show(match gu 1 [""] [("a",[])] [] with
   |.inl e=>Sum.inl e
   |.inr p=>mw 2 [] p.1 p.2)=_
 rw[a]
theorem LG:mw 0 ([("":Str)].map c5) [] []=.inl (8,.int ((0:Nat):Int)):=by
 have i:c5 ""=[("":Str)]:=by decide+kernel
 have a:gu 0 [""] [] []=.inl (8,.int ((0:Nat):Int)):=by unfold gu;rw[yIn (by decide+kernel),yIn (by decide+kernel)]
 show(match gu 0 (c5 "") [] [] with
   |.inl e=>Sum.inl e
   |.inr p=>mw 1 [] p.1 p.2)=_
 rw[i,a]
theorem EG{Q:AK}(a:fit (.tup ds)=true)(e:PyData.eqv (py (.tup ds)) (py (.tup ds))=true)(q:Q (.dat (.bl true)) S):BO (.tup ds) (.tup ds) S Q:=by
 unfold BO;rw[ud];exact⟨a,a,by rw[e];exact q⟩
theorem Eh(h:ls.all (Eg 2)=true):∀l∈ls,pM l:=λl a=>(eT.lit (m:=2) (zby.mp h l a)).ln (by decide)
section
variable {w:yal}{EP:Addr}
def LO(ns:List Int)(rest:List D)(δ:bF)(q:aD):Prop:=∃o n m l j i a:Option D,(∀e∈rest,∃k:Nat,e=.int k/\k<100)/\δ=[some (.kQ ns),o,n,m,l,j,i,a]
def CL:AN:=λa S Q=>∃ns:List Int,a=[.kQ ns]/\S=[]/\∀e,Q (.dat (.bl true)) e
theorem MW{fl:Addr}(T:Txt K mg ec EP C fi)(F:rg K "law" "law" xh fl fd)(u:Def P w K mg base 1 "_law_cell_at" gI (aN K y9))(U:Def P w K mg base 1 "_law_feed" gH (aN K yZ))(n:Def P w K mg base 1 "_law_next" dM (aN K gj))(j:Def P w K mg base 2 "_law_names" iz (aN K t6))(O:Def P w K mg base 2 "_law_rows" kI (aN K CH))(I:Def P w K mg base 1 "_law_great" iE (aN K yY))(y:Def P w K mg base 1 "_law_lines" iB (aN K yU))(W:Def P w K mg base 2 "_law_bent" kK (aN K wQ))(Y:Def P w K mg base 3 "_law_due" pK (aN K JE))(i:Def P w K mg base 6 "_law_caught" gc (aN K t7)):
  bL P w K mg base iF 7 fl fd sW (aN K CL):=by
 refine NZ F jb (λds S Q h=>?_) (λf cdv A outer s H E o=>?_)
 ·obtain⟨ns,rfl,_⟩:=h;rfl
 ·refine⟨_,(Tr (Uu PassesOwn.never rfl (Ut (by rfl) T.range (To (Tz TH Tu (TM (M.Me rfl) T.min (To Tu (To (TM T9 T.len (Tp (Tn 0))) Tt)))) Tt)) (Ul 1 jb.nd) (Tr (TF 2 jb.nd (TJ U o (To (TJ u o (To (Tn 0) (Tp (Tn 1)))) Tt))) (Tr (TF 3 jb.nd (TJ j o (To (Tn 2) (Tp Tu)))) (Tr (TF 4 jb.nd (T5 (To (TJ j o (To (Tn 2) (Tp Tu))) (To (TJ j o (To (Tn 2) (Tp Tu))) (To (TU TV (Tn 3) T4 (TQ Tu)) (Tp (Tn 3))))))) (Tr (TF 5 jb.nd (TJ y o (To (TJ O o (To (Tn 2) (To (Tn 4) (Tp Tu)))) Tt))) (Tr (T6 (UO (M.pw_and (TZ (Ua o) (TJ n o (To (Tn 2) (Tp Tu))) Tu (aS _)) (M.pw_and1 (TZ (Ua o) (Tn 1) Tu (aS _))))) (Tw (TF 5 jb.nd (TJ I o (To (Tn 4) (To (TJ n o (To (Tn 2) (Tp Tu))) Tt))))) (Tw (Uu PassesOwn.never rfl (Ut (by rfl) T.range (To (Tz TH Tu (TJ n o (To (Tn 2) (Tp Tu)))) Tt)) (Ul 6 jb.nd) (Tw (TF 5 jb.nd (TJ W o (To (Tn 2) (To (Tn 5) (Tp (Tn 4)))))))))) (Tr (TF 7 jb.nd (Uo M.uJ T.list (Tp (Tn 5)))) (Tw (T6 (UO (UU (TZ (M.Mb o) (TM (M.DO o) T.repr (To (TJ i o (Tp (Tn 7))) Tt)) (TM (M.DO o) T.repr (To (TJ Y o (Tp (Tn 5))) Tt)) (aS _)) (UW (TZ (M.Mb o) (Tn 7) (Tn 5) (aS _))))) (Tw (TL Uk)) T7))))))))) (Tw (TL (UH (Um (Ua o) (TJ i o (To (T5 (To Tv (Tp Tv))) Tt)) (T8 (To Tv (Tp Tu))) (aS _)) (M.kU (Um (Ua o) (TJ i o (To (T5 (Tp Tv)) Tt)) (T8 (To Tv (Tp Tu))) (aS _))))))),λds S Q h=>?_⟩;obtain⟨ns,rfl,rfl,q⟩:=h;have e0:aL FU [.kQ ns]=[some (.kQ ns),none,none,none,none,none,none,none]:=rfl;rw[e0];refine bW λN2 h2=>?_;push_cast[kG,l0];refine⟨ns.length,rfl,12,ns.length,rfl,?_⟩;obtain⟨mm,em,hm⟩:∃m:Nat,(1:Int)+(if(ns.length:Int)<12 then(ns.length:Int) else 12)=(m:Int)/\m<=13:=by
   by_cases h:(ns.length:Int)<12
   ·exact⟨1+ns.length,by rw[yIp h];simp,by lia⟩
   ·exact⟨13,by rw[yIn h];rfl,by simp⟩
  refine⟨(mm:Int),congrArg D.int em,by lia,by lia,dJ (LO ns) ?_ ?_ _ _ _ ⟨none,none,none,none,none,none,none,?_,rfl⟩⟩
  ·rintro δ S' ⟨v1,v2,v3,v4,v5,Z,v7,_,rfl⟩;refine⟨trivial,h2 _ _ ?_⟩;push_cast[true_and];refine⟨ySz 2,["knot a",""],rfl,by simp,Eh (by decide+kernel),ySz 2,?_⟩;rw[LF];refine EG (by decide+kernel) (by decide+kernel) ⟨_,rfl,u6 ⟨ySz 1,[""],rfl,by simp,Eh (by decide+kernel),ySz 2,?_⟩⟩;rw[LG];exact EG (by decide+kernel) (by decide+kernel) (q _)
  ·clear h2;rintro x xs δ S0 N ⟨v1,v2,v3,v4,v5,Z,v7,hx,rfl⟩ hN;obtain⟨k,rfl,hk⟩:=hx x (by simp);refine⟨trivial,?_⟩;refine bW λN1 h1=>?_;push_cast[true_and];refine⟨ns,k,rfl,by lia,λz=>⟨z,rfl,h1 _ _ ?_⟩⟩;clear h1;refine bW λN1 h1=>?_;push_cast[true_and];generalize hp:S0.length=p;have hf:(S0++[some (MO.feed 0)])[p]? =some (some (.feed 0)):=by rw[<-hp];exact bJ
   refine⟨p,7,0,rfl,hf,by decide,by decide,λX n1 lM nM hn1=>h1 _ _ ?_⟩;clear h1;refine bW λN1 h1=>?_;push_cast[true_and];refine⟨p,8,n1,rfl,bE hf,by lia,by decide,λNA n2 lA nA hn2=>?_⟩;rw[zcD];refine⟨p,3,n2,rfl,bE hf,by lia,by decide,λNB n3 lB nB hn3=>?_⟩;rw[zcD];dsimp only;rw[show(5:Int)=((5:Nat):Int) from rfl];refine AJ ⟨ySz 4,h1 _ _ ?_⟩;clear h1;have hN':tE NA NB X (.lst [.lst (NA.map D.str),.lst (NB.map D.str),.lst ((X.take 5).map D.str),.lst (X.map D.str)]):=⟨rfl,lA,lB,lM,nA,nB,nM⟩
   show fZ _ _ _ [some (D.kQ ns),some (D.int k),some (D.loc p),some (.lst (X.map D.str)),some (.lst [.lst (NA.map D.str),.lst (NB.map D.str),.lst ((X.take 5).map D.str),.lst (X.map D.str)]),v5,Z,v7] _;generalize D.lst [.lst (NA.map D.str),.lst (NB.map D.str),.lst ((X.take 5).map D.str),.lst (X.map D.str)]=XN at hN';refine bW λN1 h1=>?_;push_cast[true_and];refine⟨p,n3,NA,NB,X,_,rfl,hN',bE hf,by lia,λks ts n4 hR hk1 hk8 ab hn4=>?_⟩;rw[zcD];refine⟨ks,ts,rfl,hR,hk1,hk8,ab,λL hL ad=>h1 _ _ ?_⟩;clear h1;have hf4:((S0++[some (MO.feed 0)]).set p (some (.feed n4)))[p]? =some (some (.feed n4)):=bE hf;generalize (S0++[some (MO.feed 0)]).set p (some (.feed n4))=S1 at hf4;clear hf hp;show fZ _ _ _ [some (D.kQ ns),some (D.int k),some (D.loc p),some (.lst (X.map D.str)),some XN,some (.lst (L.map D.str)),Z,v7] _;refine bW λN1 h1=>?_;have go:∀(m:Nat)(L:List Str)(Z v7:Option D)(S:aD),KA m L->m<=60->N1 [some (D.kQ ns),some (D.int k),some (D.loc p),some (.lst (X.map D.str)),some XN,some (.lst (L.map D.str)),Z,v7] S:=λm L Z v7 S hL hm=>h1 _ _ (by
    clear h1;push_cast[true_and];have hok:∀l∈L,pM l:=λl h=>(hL.ok l h).ln hm;have hl:=hL.len;refine⟨_,rfl,L,rfl,by lia,hok,Dj (EK (by lia)) (by decide) (by decide) ⟨L,rfl,by lia,hok,Dj (EK (by lia)) (by decide) (by decide) (Hy ⟨_,rfl,oR (Pf hL.ok ⟨_,rfl,oR (hN _ _ ?_)⟩)⟩)⟩⟩;exact⟨_,_,_,_,_,_,_,λe he=>hx e (zaA _ he),rfl⟩)
   clear h1;have pl:=fu hf4;have lp:∀n5 S2,S2[p]? =some (some (MO.feed n5))->n5<=500->(kG (l0 (fH (yj sV (aC (D.int 1)) (aCall gj (fH (cQ 2) (fH (aC (D.int 2)) jx)))) jx)) (bg 6) (yo (aCall wQ (fH (cQ 2) (fH (cQ 5) (fH (cQ 4) jx)))) (bg 5)) {nx:=N1,rt:=Q,bk:=N2,ct:=N} [some (D.kQ ns),some (D.int k),some (D.loc p),some (.lst (X.map D.str)),some XN,some (.lst (L.map D.str)),Z,v7] S2):=λn5 S2 hf5 h5=>by
    push_cast[kG,l0];refine bI hf5 (by lia) (by decide) (by decide) λz hz=>?_;refine⟨1+(z:Int),rfl,by lia,by lia,?_⟩;rw[show(1+(z:Int)).toNat=1+z by rfl];refine dJ (λrest δ S'=>∃(m n6:Nat)(L:List Str)(Z:Option D),δ=[some (D.kQ ns),some (D.int k),some (D.loc p),some (.lst (X.map D.str)),some XN,some (.lst (L.map D.str)),Z,v7]/\S'[p]? =some (some (.feed n6))/\n6+5*rest.length<=600/\KA m L/\L.length+rest.length<=33/\8<=m/\m<=44/\rest.length<=2/\(rest.length=1->m<=20)/\(rest.length=2->m<=8)) ?_ ?_ _ _ _ ⟨8,n5+1,L,Z,rfl,bE hf5,by rw[eu];lia,hL,by rw[eu];lia,by decide,by decide,by rw[eu];lia,λ_=>by decide,λ_=>by decide⟩
    ·rintro δ S' ⟨m,n6,L,Z,rfl,_,_,hL,_,_,hm,_⟩;exact⟨trivial,go m L Z v7 S' hL (by lia)⟩
    ·rintro x xs δ S' N3 ⟨m,n6,L,Z,rfl,hf6,h6,hL,hll,hm8,ac,hr2,hr1,hr0⟩ hN3;simp only[zbu] at h6 hll hr2 hr1 hr0;refine⟨trivial,?_⟩;push_cast[true_and];refine⟨p,n6,m,NA,NB,X,_,L,rfl,hN',hf6,by lia,hL,by lia,hm8,by lia,λls' n' hL' hl' hn'=>hN3 _ _ ⟨2*m+4,n',ls',_,rfl,bE hf6,by lia,hL',by lia,by lia,by lia,by lia,λh=>by lia,λh=>by lia⟩⟩
   push_cast[true_and];refine bI hf4 (by lia) (by decide) (by decide) λz hz=>?_;show BO (.int z) (.int 0) _ _;refine⟨_,rfl,jq (λh=>jq (λh'=>?_) λh'=>?_) λh=>?_⟩
   ·refine bI (bE hf4) (by lia) (by decide) (by decide) λz2 hz2=>?_;exact⟨NA,NB,X,_,z2,rfl,hN',by lia,λls' hL'=>go 8 ls' Z v7 _ hL' (by decide)⟩
   ·exact lp _ _ (bE hf4) (by lia)
   ·exact lp _ _ (bE hf4) (by lia)
  ·intro e he;simp only[cC,zcE,zcd] at he;obtain⟨a,ha,rfl⟩:=he;exact⟨a,by simp,by lia⟩
def yV(K:yaM):Sp:=λe H Q _=>∃(a:Addr)(ns:List Int),e=[.ref a]/\b9 K H a (ns.map V.int)/\ns.length<=63/\∀i,Q (.bl true) i
theorem KS{k:Nat}(h:bL P w K mg base iF k f fd sW (aN K CL)):bL P w K mg base iF k f fd sW (yV K):=h.imp λu H Q E z=>by
 obtain⟨a,ns,rfl,i,_,q⟩:=z;refine⟨⟨H,λ_=>none⟩,[.kQ ns],[],λr S=>r=.dat (.bl true),⟨cJ.refl _,λn o e=>by simp at e,λn m o y e=>by simp at e,λ_ _=>rfl⟩,?_,⟨ns,rfl,rfl,λ_=>rfl⟩,λr C v l j _ _ rep e=>?_⟩
 ·simp only[av,Rep];exact⟨_,_,rfl,⟨a,rfl,i⟩,rfl⟩
 ·subst e;have:v=.bl true:=nN rep rfl;subst this;exact q j
end
open PySem PySem.Spec L2 PyProof.Rows
noncomputable def pB(K:yaM)(C:Addr):Bool:=excIn K C&&zci K (.ref C) "__getattribute__"==some (some (.builtin "BaseException.__getattribute__"))&&zci K (.ref C) "__getattr__"==some none&&
 zci K (.ref C) "__setattr__"==some (some (.builtin "object.__setattr__"))&&PySem.W.kg K C&&zcz K (.ref C) (.type "BaseException")==some true&&
 zci K (.ref C) "__class__"==some (some (.builtin "object.__class__"))&&zbr K (.builtin "object.__class__") "__get__"==some (some (.builtin "getset_descriptor.__get__"))&&
 PySem.W.takesIn K (.builtin "object.__class__")==some true&&PySem.W.mroIn K C (.type "object")==some true&&zcj K (.ref C)
theorem pB.is(h:pB K C=true):Sy K C/\zcj K (.ref C)=true:=by
 simp only[pB,zbH,beq_iff_eq] at h;obtain⟨⟨⟨⟨⟨⟨⟨⟨⟨⟨a,b⟩,c⟩,d⟩,e⟩,f⟩,g⟩,h⟩,i⟩,j⟩,k⟩:=h;exact⟨⟨⟨a,b,c,d,e,f⟩,g,h,i,j⟩,k⟩
noncomputable def jt(l:List Addr)(i:Nat):Addr:=l.getD i 0
noncomputable def El(K:yaM)(l:List Addr)(a:Addr):Bool:=((zcX 9).all λi=>((zcX 14).all λj=>zck K (.ref (jt l i)) (.ref (jt l j))==some (i==j))&&zck K (.ref (jt l i)) (.type "ValueError")==some true&&pB K (jt l i)&&zci K (.ref (jt l i)) (Ca i)==some none&&zcz K (.ref (jt l i)) (.ref a)==some true)&&excIn K a&&zcz K (.ref a) (.type "BaseException")==some true
structure SG(K:yaM)(l:List Addr)(CP:Addr)(i:Nat):Prop where
 k:∀j,j<14->zck K (.ref (jt l i)) (.ref (jt l j))=some (i==j)
 v:zck K (.ref (jt l i)) (.type "ValueError")=some true
 c:pB K (jt l i)=true
 f:zci K (.ref (jt l i)) (Ca i)=some none
 s:zcz K (.ref (jt l i)) (.ref CP)=some true
theorem El.at_{l:List Addr}(h:El K l CP=true):(∀i,i<9->SG K l CP i)/\excIn K CP=true/\zcz K (.ref CP) (.type "BaseException")=some true:=by
 unfold El at h;rw[zbH,zbH] at h;refine⟨λi n=>?_,h.1.2,eq_of_beq h.2⟩;have a:=zby.mp h.1.1 i (zcd.mpr n);simp only[zbH,beq_iff_eq] at a;obtain⟨⟨⟨⟨a,b⟩,c⟩,d⟩,e⟩:=a;exact⟨λj m=>beq_iff_eq.mp (zby.mp a j (zcd.mpr m)),b,c,d,e⟩
theorem SG.src{l:List Addr}{q:Str}(h:SG K l CP i)(S:M.iZ K (jt l i) "__init__" q ps st):FD K mg x (jt l i) q ps st:=by
 obtain⟨f,fd,F,m,b⟩:=S.ex;have c:=pB.is h.c;exact⟨⟨f,fd,⟨c.1.toXCls,m.at_,m.fn,c.2⟩,F,b⟩⟩
open PySem L2
theorem all_mk{l:PySem.W.OpenLaw}{w:yal}{h:Heap}{fa:Addr}(X:K.In h)(G:h.Ns yar mg)(hfa:mg "law"=some (.ref fa)){X0:Addr}{X1:Addr}{X2:Addr}{X3:Addr}{X4:Addr}{X5:Addr}{X6:Addr}{X7:Addr}{X8:Addr}{X9:Addr}{X10:Addr}{X11:Addr}{X12:Addr}{X13:Addr}{t_L:Tok}{t_K:Tok}{t_T:Tok}{t_M:Tok}(a_C:zcO K yar "Web"=some (some (.ref C)))(d1:zcO K yar "NoKnot"=some (some (.ref X0)))(d0:zcO K yar "NoMark"=some (some (.ref X1)))(dV:zcO K yar "NoName"=some (some (.ref X2)))(dL:zcO K yar "Twice"=some (some (.ref X3)))(dE:zcO K yar "TooMany"=some (some (.ref X4)))(dC:zcO K yar "NoTie"=some (some (.ref X5)))(dA:zcO K yar "NoMeet"=some (some (.ref X6)))(dy:zcO K yar "NoText"=some (some (.ref X7)))(dx:zcO K yar "NoLine"=some (some (.ref X8)))(dv:zcO K yar "NoWay"=some (some (.ref X9)))(dd:zcO K yar "TooLong"=some (some (.ref X10)))(db:zcO K yar "GoesRound"=some (some (.ref X11)))(da:zcO K yar "NoSuch"=some (some (.ref X12)))(c4:zcO K yar "NoPair"=some (some (.ref X13)))(d2:zcO K yar "PathError"=some (some (.ref CP)))(a1:m7 K "is_name" (top 19))(as:m7 K "read_web" (top 26))(cb:m7 K "is_knot_line" (top 27))(b5:m7 K "is_tie_line" (top 28))(ce:m7 K "are_names" (top 29))(a5:m7 K "_law_cell_at" (top 31))(a4:m7 K "_law_feed" (top 32))(ay:m7 K "_law_next" (top 33))(S:m7 K "_law_names" (top 34))(bj:m7 K "_law_own" (top 35))(ar:m7 K "_law_rows" (top 36))(Z:m7 K "_law_is_name" (top 37))(Y:m7 K "_law_lines" (top 38))(ac:m7 K "_law_great" (top 39))(a6:m7 K "_law_bent" (top 40))(cd:m7 K "_law_is_line" (top 41))(bo:m7 K "_law_due" (top 42))(L:m7 K "_law_caught" jG)(bm:m7 K "law" xh)(q:tF K C "__init__" "Web.__init__" uu)(ax:tF K C "put_knot" "Web.put_knot" uo)(aw:tF K C "put_tie" "Web.put_tie" uh)(ab:tF K C "knots" "Web.knots" xm)(U:tF K C "marks" "Web.marks" w9)(bn:tF K C "has_tie" "Web.has_tie" LA)(O:tF K C "rows" "Web.rows" wY)(a0:tF K C "need_knot" "Web.need_knot" uq)(a3:tF K C "lay_knot" "Web.lay_knot" C9)(a2:tF K C "lay_tie" "Web.lay_tie" zh)(I:tF K X0 "__init__" "NoKnot.__init__" rO)(Q:tF K X3 "__init__" "Twice.__init__" wZ)(z:tF K X4 "__init__" "TooMany.__init__" nH)(H:tF K X8 "__init__" "NoLine.__init__" rN)(cn:zcO K yar "len"=some none)(a:zcO K yar "isinstance"=some none)(cf:zcO K yar "str"=some none)(b2:zcO K yar "bool"=some none)(cp:zcO K yar "int"=some none)(bc:zcO K yar "tuple"=some none)(b0:zcO K yar "list"=some none)(b1:zcO K yar "dict"=some none)(cq:zcO K yar "all"=some none)(cm:zcO K yar "max"=some none)(ci:zcO K yar "min"=some none)(bv:zcO K yar "repr"=some none)(bd:zcO K yar "range"=some none)(E:zcO K yar "reversed"=some none)(ad:zcO K yar "sorted"=some none)(m:zcO K yar "ValueError"=some none)(ch:zcO K yar "set"=some none)(y:zcO K yar "enumerate"=some none)(m_L:zcO K yar "LONGEST"=some (some (.int 8 t_L)))(m_K:zcO K yar "MOST_KNOTS"=some (some (.int 40 t_K)))(m_T:zcO K yar "MOST_TIES"=some (some (.int 300 t_T)))(m_M:zcO K yar "MOST_MARKS"=some (some (.int 5 t_M)))(dq:zbJ K C Str.empty=true)(dt:zbp K C=true)(dn:PySem.W.plainOver K C=true)(dl:zci K (.ref C) "__setattr__"=some (some (.builtin "object.__setattr__")))(ae:zci K (.ref C) "marked"=some none)(b3:zci K (.ref C) "tied"=some none)(b4:zci K (.ref C) "near"=some none)(dr:PySem.W.makesIn K C=true)(ds:zcj K (.ref C)=true)(rP:PySem.W.readsIn K CP (.type "type")=true)(fP:PySem.W.findCls K (.ref CP) (.type "type") "__init__"=some (.val (.builtin "ValueError.__init__")))(aP:zbr K (.ref CP) "__getattribute__"=some (some (.builtin "type.__getattribute__")))(kB:El K [X0,X1,X2,X3,X4,X5,X6,X7,X8,X9,X10,X11,X12,X13] CP=true):
  ∃fd:yaq,(∀(s:yai)(v:yaj),yaD s fd ⟨[v],[]⟩ [("_law_script",v)])/\∀base:Heap,K.In base->base.Ns yar mg->bL l.prog w K mg base iF 7 fa fd ["_law_script"] (yV K):=by
 have FH:=a1.src (ps:=kJ) X G λ_ _ _ _ _ _=>J.vK (λ_=>rfl);have vU:=as.src (ps:=fJ) X G λ_ _ _ _ _ _=>J.vK (λ_=>rfl);have Ny:=cb.src (ps:=qY) X G λ_ _ _ _ _ _=>J.vK (λ_=>rfl);have Nx:=b5.src (ps:=qX) X G λ_ _ _ _ _ _=>J.vK (λ_=>rfl);have ND:=ce.src (ps:=qZ) X G λ_ _ _ _ _ _=>J.vK (λ_=>rfl);have FN:=a5.src (ps:=gI) X G λ_ _ _ _ _ _=>J.E9 (λ_ _=>rfl);have FL:=a4.src (ps:=gH) X G λ_ _ _ _ _ _=>J.vK (λ_=>rfl);have FG:=ay.src (ps:=dM) X G λ_ _ _ _ _ _=>J.E9 (λ_ _=>rfl);have BS:=S.src (ps:=iz) X G λ_ _ _ _ _ _=>J.E9 (λ_ _=>rfl);have Je:=bj.src (ps:=pJ) X G λ_ _ _ _ _ _=>J.vK (λ_=>rfl);have FF:=ar.src (ps:=kI) X G λ_ _ _ _ _ _=>J.P1 (λ_ _ _=>rfl);have BW:=Z.src (ps:=iC) X G λ_ _ _ _ _ _=>J.vK (λ_=>rfl);have BV:=Y.src (ps:=iB) X G λ_ _ _ _ _ _=>J.vK (λ_=>rfl);have BY:=ac.src (ps:=iE) X G λ_ _ _ _ _ _=>J.E9 (λ_ _=>rfl);have FO:=a6.src (ps:=kK) X G λ_ _ _ _ _ _=>J.P1 (λ_ _ _=>rfl);have Nz:=cd.src (ps:=vY) X G λ_ _ _ _ _ _=>J.vK (λ_=>rfl);have Jg:=bo.src (ps:=pK) X G λ_ _ _ _ _ _=>J.vK (λ_=>rfl);have yt:=L.src (ps:=gc) X G λ_ _ _ _ _ _=>J.vK (λ_=>rfl);have Qs:=q.src (ps:=fK) λ_ _ _ _ _ _=>J.vK (λ_=>rfl);have vW:=ax.src (ps:=eN) λ_ _ _ _ _ _=>J.P1 (λ_ _ _=>rfl);have vV:=aw.src (ps:=eK) λ_ _ _ _ _ _=>J.by4 (λ_ _ _ _=>rfl);have BX:=ab.src (ps:=iD) λ_ _ _ _ _ _=>J.vK (λ_=>rfl);have BU:=U.src (ps:=iA) λ_ _ _ _ _ _=>J.E9 (λ_ _=>rfl);have Jf:=bn.src (ps:=jA) λ_ _ _ _ _ _=>J.by4 (λ_ _ _ _=>rfl);have BQ:=O.src (ps:=iy) λ_ _ _ _ _ _=>J.vK (λ_=>rfl);have vX:=a0.src (ps:=dj) λ_ _ _ _ _ _=>J.E9 (λ_ _=>rfl);have FJ:=a3.src (ps:=gG) λ_ _ _ _ _ _=>J.P1 (λ_ _ _=>rfl);have FI:=a2.src (ps:=gF) λ_ _ _ _ _ _=>J.by4 (λ_ _ _ _=>rfl);have yr:=I.src (ps:=gb) λ_ _ _ _ _ _=>J.E9 (λ_ _=>rfl);have BR:=Q.src (ps:=f7) λ_ _ _ _ _ _=>J.E9 (λ_ _=>rfl);have vS:=z.src (ps:=dG) λ_ _ _ _ _ _=>J.E9 (λ_ _=>rfl);have yq:=H.src (ps:=f9) λ_ _ _ _ _ _=>J.E9 (λ_ _=>rfl);obtain⟨du,dk,df,am,a7,ag,ba,a9,a8,de,bt,be,bp,bi⟩:=bm.ex;obtain⟨ap,cw,cv,cx,c0,cs,c3,c2,c1,cr,bb,n,u,o,an⟩:=q.ex;have e:=hfa.symm.trans (zcA X G bt);cases e;have F:=jr (st:=xh) be bp bi;obtain⟨qk,q6,q7⟩:=El.at_ kB;have T:Txt K mg (jt [X0,X1,X2,X3,X4,X5,X6,X7,X8,X9,X10,X11,X12,X13]) CP C ap:=⟨zba X G cn,zba X G a,zba X G cf,zba X G b2,zba X G cp,zba X G bc,zba X G b0,zba X G b1,zba X G cq,zba X G cm,zba X G ci,zba X G bv,zba X G bd,zba X G E,zba X G ad,zba X G m,zba X G ch,zba X G y,⟨_,zcA X G m_L⟩,⟨_,zcA X G m_K⟩,⟨_,zcA X G m_T⟩,⟨_,zcA X G m_M⟩,zcA X G a_C,⟨dq,dt,dn,dl⟩,⟨dr,bb,an,ds⟩,ae,b3,b4,zcA X G d2,⟨rP,fP,aP⟩,q6,q7,zcA X G d1,zcA X G d0,zcA X G dV,zcA X G dL,zcA X G dE,zcA X G dC,zcA X G dA,zcA X G dy,zcA X G dx,zcA X G dv,zcA X G dd,zcA X G db,zcA X G da,zcA X G c4,λi hi=>(pB.is (qk i hi).c).1,λi j hi=>(qk i hi).k j,λi hi=>(qk i hi).v,λi hi=>(qk i hi).s,λi hi=>(qk i hi).f⟩
 refine⟨zcN "law" "law" (cI xh) (aT xh) (ah xh) .none am a7 ag ba a9 a8,λs v=>.of_eq rfl,λbase _ _=>?_⟩;have NR:=MR (P:=l.prog) (w:=w) (base:=base) T FG;have NX:=Nh NR;have pP:=ER (P:=l.prog) (w:=w) (base:=base) T ((qk 0 (by decide)).src yr);have iS:=Ij (P:=l.prog) (w:=w) (base:=base) T ((qk 3 (by decide)).src BR);have eV:=BB (P:=l.prog) (w:=w) (base:=base) T ((qk 4 (by decide)).src vS);have pO:=EO (P:=l.prog) (w:=w) (base:=base) T ((qk 8 (by decide)).src yq);have lF:=MS (P:=l.prog) (w:=w) (base:=base) T vX;have SI:=Io T vX pP;have KG:=PJ (P:=l.prog) (w:=w) (base:=base) T Jf;have tK:=Iu (P:=l.prog) (w:=w) (base:=base) T BX;have tH:=Ip T BU lF;have yD:=Ii T BQ tK tH;have F4:=MX (P:=l.prog) (w:=w) (base:=base) T (jr (st:=uu) n u o);have F9:=(jr (st:=uu) n u o).binds (ps:=fK) λ_ _ _ _ _ _=>J.vK (λ_=>rfl);have F6:=MV (P:=l.prog) (w:=w) (base:=base) T FJ;have F5:=MU (P:=l.prog) (w:=w) (base:=base) T FI;have NP:=MP T vV lF KG F5;have NQ:=MQ T vW F6;have QC:=Sk T ND (MT (P:=l.prog) (w:=w) (base:=base) T FH);have Qz:=Si T Ny QC;have Qy:=Sh T Nx QC;have NO:=MN T vU F4 F9 NQ NP Qz Qy;have Jq:=Ik T vU F4 F9 (Im T vW F6 iS eV) (Il T vV lF F5 SI KG iS eV) Qz Qy pO;have QB:=PK T Jg (Sj T Nz (Ir (P:=l.prog) (w:=w) (base:=base) T BW));have F7:=ET T yt NO yD Jq (PF T Je);exact KS (MW T F (Nj (MZ T FN)) (Ni (MY T FL)) NX (ES T BS NX) (MM T FF NX) (Iv T BY) (Iq T BV) (M3 T FO NX) QB F7)
theorem walk{l:PySem.W.OpenLaw}{q:yak}{d:DefRec}{K:Params->yaM}(j:l.most=some 63)(e:d.params.defaults=[])(o:∀(w:yal)(h:Heap),YP w h->(K w.params).In h)(F:∀(w:yal)(mg:Str->Option yaj)(i:Addr)(h:Heap),(K w.params).In h->h.Ns yar mg->mg d.name=some (.ref i)->∃fd:yaq,(∀(s:yai)(u:yaj),yaD s fd ⟨[u],[]⟩ [("_law_script",u)])/\∀base:Heap,(K w.params).In base->base.Ns yar mg->bL l.prog w (K w.params) mg base iF 7 i fd ["_law_script"] (yV (K w.params))):
  PySem.W.WalkO q loose XP YP l.row.toRowW d [] (λf vs=>PySem.call f vs):=
 L2.Gi (n:=63) (k:=7) (x:="_law_script") (CX:=λ_=>iF) (sp:=λw=>yV (K w.params)) j (by decide) e ⟨rfl,by decide,by decide,rfl⟩ o F (λ_ _ a ns m _ y=>⟨a,ns,rfl,y,m,λ_=>rfl⟩) λ_ _ _ _ _ z=>z
end K14
open PySem PySem.W PyProof.Rows
namespace PySem.Challenge.cw_pathask_k14_lines_that_write_no_web_holds
def tw2407133341045214283:=Nat
def tw3560739541723615256:=Nat
def tw12338878207832445875:=Nat
def tw9618366492622133413:=Nat
def tw10058237641628496166:=Nat
def tw1719853274970808045:=Nat
def tw17428478393350642904:=Nat
def tw12318742498059994133:=Nat
def tw4408316479668723121:=Nat
def tw13393463243447831127:=Nat
def tw12415749265781074685:=Nat
def tw1729125826716858762:=Nat
def tw4060378871108469594:=Nat
def tw13338988802754214828:=Nat
def tw17556244701686926696:=Nat
def tw17256556166225670897:=Nat
def tw1450902132546588506:=Nat
def tw3608711780311337210:=Nat
def tw4433645141891719140:=Nat
def tw2431543193802821502:=Nat
def tw3375139505868671027:=Nat
def tw4866674567689743212:=Nat
def tw7420942510632488205:=Nat
def tw7608402370894395:=Nat
def tw9089122100932058012:=Nat
def tw6993305139242548191:=Nat
def tw11633875159176287679:=Nat
def tw10778336257260350392:=Nat
def tw8218264768103416185:=Nat
def tw6550837464541088287:=Nat
def tw7691169929800754398:=Nat
def tw6040222897124329747:=Nat
def tw5237454847398218245:=Nat
def tw2171484363278699181:=Nat
def tw9680541303810933291:=Nat
def tw13042778320408285885:=Nat
def tw17573355565649931493:=Nat
def tw3067896178921259191:=Nat
def tw4478955414689946472:=Nat
def tw3039875625590281685:=Nat
def tw12190329809756529678:=Nat
def tw5572248982630582313:=Nat
def tw597031855509235806:=Nat
def tw10051881956286811088:=Nat
def tw9928345382687643615:=Nat
def tw1217233427782808454:=Nat
def tw15628408293241595383:=Nat
def tw15420278146089472551:=Nat
def tw17555734509891819718:=Nat
def tw11064457045054099848:=Nat
def tw9052387163598150338:=Nat
def tw15810284348619496952:=Nat
def tw13951023596096476384:=Nat
def tw9291022191044568634:=Nat
def tw13271206998096564143:=Nat
def tw10941146791976813173:=Nat
def tw830938974953797524:=Nat
def tw17912266596041912549:=Nat
def tw1885409539924380139:=Nat
def tw580779042210528203:=Nat
def tw13302642215743067881:=Nat
def tw975339696752786937:=Nat
def tw13420061020754631803:=Nat
def tw14937467748895561129:=Nat
def tw8034658401635927257:=Nat
def tw5176781051253084426:=Nat
def tw15013973682712289055:=Nat
def tw12680492562948200076:=Nat
def tw18098751463059482112:=Nat
def tw7695458994012244215:=Nat
def tw17169301804640373584:=Nat
def tw5238458826452640454:=Nat
def tw9668705316156465489:=Nat
def tw4740928118851921143:=Nat
def tw2010768664649083934:=Nat
def tw1617541913881056241:=Nat
def tw1172374712179648809:=Nat
def tw10223490691659819776:=Nat
def tw10140278905525063045:=Nat
def tw15113355031018007745:=Nat
def tw8585697821802774144:=Nat
def tw13044930034683112452:=Nat
def tw15818072085825497098:=Nat
def tw1182774027053586377:=Nat
def tw16591330006747133511:=Nat
def tw11923601046860217344:=Nat
def tw14992238606233689801:=Nat
def tw4756335071956617084:=Nat
def tw14019005380840276589:=Nat
def tw11180394772655925346:=Nat
def tw1458940579764517405:=Nat
def tw11952180950290750379:=Nat
def tw3861409812288273276:=Nat
def tw9188493588535542604:=Nat
def tw6550540348465974836:=Nat
def tw9008865010745153770:=Nat
def tw16813930079705216767:=Nat
def tw14253575136951831326:=Nat
def tw12016825410410444438:=Nat
def tw1603623760336383554:=Nat
def tw554668657507902192:=Nat
def tw10207458835955024175:=Nat
def tw12463403715270687306:=Nat
def tw9901012833716421661:=Nat
def tw4108117047437960143:=Nat
def tw12640749283708571539:=Nat
def tw5560577762987273715:=Nat
def tw9135710099805128483:=Nat
def tw1109287941275720938:=Nat
def tw3936205531232656798:=Nat
def tw16057913723993844365:=Nat
def tw8266037507238224057:=Nat
def tw16938851459845033099:=Nat
def tw3475151047370083355:=Nat
def tw11545391285864966808:=Nat
def tw17281926721401815375:=Nat
def tw15243783859462069955:=Nat
def tw2049396261220113971:=Nat
def tw2245238992401999808:=Nat
def tw2149903140252106464:=Nat
def tw17469952337935488764:=Nat
def tw4423417250014931055:=Nat
def tw2449179859541484898:=Nat
def tw4747049144636365026:=Nat
def tw11417359511454369384:=Nat
def tw15147141483300906695:=Nat
def tw4860245978141923418:=Nat
def tw3675827913023530569:=Nat
def tw7848804306441485990:=Nat
def tw7312824920116118635:=Nat
def tw2446989676852666552:=Nat
def tw12930253301810295021:=Nat
def tw13687007698365034821:=Nat
def tw17112205346608116237:=Nat
def tw11680023943564198868:=Nat
def tw18121338888436518993:=Nat
def tw3734748728158459750:=Nat
def tw861824041085860635:=Nat
def tw14312026600914503598:=Nat
def tw9153693955007688819:=Nat
def tw15922250845151498889:=Nat
def tw13323853558523248401:=Nat
def tw8292343385491657638:=Nat
def tw13794359649151229434:=Nat
def tw10205931020227694180:=Nat
def tw10456909833856292737:=Nat
def tw10587898835540671659:=Nat
def tw2352982899066613099:=Nat
def tw2894426593520236979:=Nat
def tw18214877106170825066:=Nat
def tw15934207207931746931:=Nat
def tw7718524044833247185:=Nat
def tw9287192275925051091:=Nat
def tw16524293290542072026:=Nat
def tw16556826922250675393:=Nat
def tw2864485706708820471:=Nat
def tw11600413439757860201:=Nat
def tw13126347603652798276:=Nat
def tw6031850587136501685:=Nat
def tw11026448836833459867:=Nat
def tw13929974939565571265:=Nat
def tw16034864863373311157:=Nat
def tw8914380720501254722:=Nat
def tw9305361384337434337:=Nat
def tw9731095471127782727:=Nat
def tw1589110002895239234:=Nat
def tw10880148589912101003:=Nat
def tw11704974657569661263:=Nat
def tw7145305136120498634:=Nat
def tw7714349380353740797:=Nat
def tw17388519607544312385:=Nat
def tw3736585714214346710:=Nat
def tw7320138360209705375:=Nat
def tw4011577128627308611:=Nat
def tw8118993911028984410:=Nat
def tw4574386896281728704:=Nat
def tw8998935259530047973:=Nat
def tw3389260757629566898:=Nat
def tw17893368503310296379:=Nat
def tw16476876249733754833:=Nat
def tw1828500459870771063:=Nat
def tw10273334401421268066:=Nat
def tw9095223939305038730:=Nat
def tw6794942188118194053:=Nat
def tw221253446091964186:=Nat
def tw12053524485160716958:=Nat
def tw1484007838753631836:=Nat
def tw277919459642614235:=Nat
def tw13864118529646095323:=Nat
def tw7529443735394171571:=Nat
def tw13598014405403806818:=Nat
def tw9353733208892662509:=Nat
def tw10042361964448472834:=Nat
def tw14724955945285319349:=Nat
def tw8632018698312912762:=Nat
def tw7079224546885767719:=Nat
def tw13080071695494884618:=Nat
def tw1584250997067566794:=Nat
def tw11102035416757871466:=Nat
def tw16809384401040475208:=Nat
def tw3352577855158908253:=Nat
def tw10034774756942855507:=Nat
def tw9579975224754200253:=Nat
def tw14620564731910769585:=Nat
def tw9941429466940711818:=Nat
def tw8395535987932760291:=Nat
def tw12904578696867159820:=Nat
def tw7600574670886665550:=Nat
def tw1612919968436299521:=Nat
def tw4380305561135832505:=Nat
def tw8350232106817646252:=Nat
def tw7721824824453124206:=Nat
def tw7494922454272490801:=Nat
def tw16672303637573650876:=Nat
def tw5004493583499097700:=Nat
def tw2796869328651541054:=Nat
def tw1482739869115659660:=Nat
def tw17668686465111803148:=Nat
def tw11022054856121505168:=Nat
def tw16919412071460891786:=Nat
def tw7673334429164997942:=Nat
def tw15264420490811902595:=Nat
def tw2640534026482200684:=Nat
def tw13302483403779622899:=Nat
def tw4222556574696202944:=Nat
def tw2139100625610106174:=Nat
def tw14203645450288252831:=Nat
def tw258529706545724370:=Nat
def tw16929085625985319541:=Nat
def tw6152430345400040087:=Nat
def tw17894379392020271687:=Nat
def tw8473318099586033418:=Nat
def tw6671633605089955861:=Nat
def tw296122826499003287:=Nat
def tw13458315516756054437:=Nat
def tw3284156314249392603:=Nat
def tw11384361759882146976:=Nat
def tw7577655054797148949:=Nat
def tw884050220604811403:=Nat
def tw3495747385213337204:=Nat
def tw15360617078416563527:=Nat
def tw13184168037286623068:=Nat
def tw15455417116847896808:=Nat
def tw14415247198930452097:=Nat
def tw4621256927092733472:=Nat
def tw12094547674652762992:=Nat
def tw17440998526191903141:=Nat
def tw16977644287894049274:=Nat
def tw2577161971429869367:=Nat
def tw4346924854457043563:=Nat
def tw9641799026880506438:=Nat
def tw8796475063195506257:=Nat
def tw5282652770931204027:=Nat
def tw14537476161243804779:=Nat
def tw417312074376601082:=Nat
def tw16480860606418429427:=Nat
def tw16701579872820561912:=Nat
def tw14707650863925910484:=Nat
def tw3821881522672593572:=Nat
def tw1504811267235197610:=Nat
def tw11407390526886566694:=Nat
def tw9665196688011235204:=Nat
def tw11050107347802639286:=Nat
def tw6156947407449943943:=Nat
def tw9540117179440091161:=Nat
def tw14206478900491346114:=Nat
def tw232232592323695106:=Nat
def tw16586902748648138645:=Nat
def tw6952557361264366745:=Nat
def tw17973104490674205262:=Nat
def tw2435119614995904484:=Nat
def tw2012792305962331844:=Nat
def tw16994770091808591730:=Nat
def tw16407125508735147730:=Nat
def tw16535203888324536699:=Nat
def tw17544338255027101346:=Nat
def tw11356522010631045139:=Nat
def tw14208493607465080134:=Nat
def tw1272987627560280208:=Nat
def tw13431319104669913743:=Nat
def tw14239870161625291534:=Nat
def tw9646092367039212366:=Nat
def tw5234708730529358750:=Nat
def tw1234150789773316759:=Nat
def tw6236169516819216645:=Nat
def tw11566781710934428527:=Nat
def tw2608210234851725279:=Nat
def tw16381760167069494257:=Nat
def tw3383098973548767804:=Nat
def tw1279121044683019920:=Nat
def tw10393872439326498121:=Nat
def tw13446039335548218934:=Nat
def tw15939308643547120722:=Nat
def tw12121560564259085976:=Nat
def tw18077989826512729912:=Nat
def tw11583166970238965223:=Nat
def tw8560815401847226308:=Nat
def tw10929863546742301303:=Nat
def tw3377843879079181044:=Nat
def tw8381807740375097719:=Nat
def tw13054765913452763050:=Nat
def tw4817877260091894481:=Nat
def tw6035601212997801873:=Nat
def tw7447913913168202696:=Nat
def tw7354475842781728392:=Nat
def tw12653686054153790288:=Nat
def tw1908528821517837901:=Nat
def tw15512040963656102485:=Nat
def tw1989946341949764715:=Nat
def tw13370664466876526922:=Nat
def tw17292507011220222881:=Nat
def tw1227499913476879093:=Nat
def tw4919306963112374363:=Nat
def tw2984953550391761348:=Nat
def tw10237513229595893870:=Nat
def tw7248976828923803041:=Nat
def tw12029615426513933322:=Nat
def tw9980646207622314110:=Nat
def tw15087910473078544088:=Nat
def tw15361509900933552449:=Nat
def tw6044190918599707375:=Nat
def tw6906271970423056443:=Nat
def tw9115399526189037580:=Nat
def tw5992929759720345103:=Nat
def tw17479333509750826927:=Nat
def tw16795147484150737283:=Nat
def tw7551542161590605638:=Nat
def tw1768881144274921509:=Nat
def tw12658454581347909292:=Nat
def tw12035761016197616564:=Nat
def tw3763064873783138580:=Nat
def tw4526085866589648838:=Nat
def tw17474105145519699876:=Nat
def tw11034438843495828237:=Nat
def tw7889948527245770741:=Nat
def tw11079210840586986014:=Nat
def tw13663111391634272260:=Nat
def tw13564041148874200445:=Nat
def tw14660792857971785905:=Nat
def tw1884100375574434088:=Nat
def tw11273852660202224454:=Nat
def tw69578478846834953:=Nat
def tw3154162765594333874:=Nat
def tw2186167494146278254:=Nat
def tw5278658566417353295:=Nat
def tw15828037012288239916:=Nat
def tw13753274088841422290:=Nat
def tw791266844034941364:=Nat
def tw9681827616083660309:=Nat
def tw5518115399699025822:=Nat
def tw3347263490315847529:=Nat
def tw17776485317077121340:=Nat
def tw8189122620161045271:=Nat
def tw8091099540972090654:=Nat
def tw13153935762381239942:=Nat
def tw16513047973405642463:=Nat
def tw15766962425457796313:=Nat
def tw5670728505838459987:=Nat
def tw18173566316997007080:=Nat
def tw8178032595763177506:=Nat
def tw18000095290602327859:=Nat
def tw15829818891808546918:=Nat
def tw4980373211282806287:=Nat
def tw16612520136313038146:=Nat
def tw12719996869408085681:=Nat
def tw847337169643648832:=Nat
def tw6374751801676552082:=Nat
def tw5321307241669385748:=Nat
def tw13840870846670579748:=Nat
def tw2851309779823203596:=Nat
def tw17627334292475215240:=Nat
def tw16511838863904831893:=Nat
def tw13925205339621240945:=Nat
def tw481988758996894162:=Nat
def tw14114959663051340714:=Nat
def tw11924861222463744307:=Nat
def tw2989456427300650993:=Nat
def tw4385875834946450330:=Nat
def tw18025217388736399655:=Nat
def tw13748830570307544774:=Nat
def tw10699042567289804364:=Nat
def tw13482355055328794354:=Nat
def tw7360630034926481572:=Nat
def tw8076773239489771192:=Nat
def tw6389857916932495207:=Nat
def tw8287269935724198193:=Nat
def tw17077682919637233739:=Nat
def tw5167445383187809447:=Nat
def tw10849015614404827262:=Nat
def tw16791997471219168570:=Nat
def tw14548685818716857817:=Nat
def tw13955172983284287998:=Nat
def tw18171651941665639800:=Nat
end PySem.Challenge.cw_pathask_k14_lines_that_write_no_web_holds
set_option Elab.async true in
set_option maxRecDepth 100000 in
set_option maxHeartbeats 0 in
theorem PySem.Challenge.cw_pathask_k14_lines_that_write_no_web_holds : PySem.Challenge.rw_pathask_k14_lines_that_write_no_web.Holds := by
 w_on;o_law;k_head;(case hw=>w_witness2)
 k_fill
 refine K14.walk (l:=PySem.Challenge.rw_pathask_k14_lines_that_write_no_web) rfl rfl (λw h Y=>PySem.W.kIn_of Y) ?F
 case F =>
  intro w mg fa h KX G hmg
  refine' K14.all_mk KX G hmg ?_ ?_ ?_ ?_ ?_ ?_ ?_ ?_ ?_ ?_ ?_ ?_ ?_ ?_ ?_ ?_ ?_ ?_ ?_ ?_ ?_ ?_ ?_ ?_ ?_ ?_ ?_ ?_ ?_ ?_ ?_ ?_ ?_ ?_ ?_ ?_ ?_ ?_ ?_ ?_ ?_ ?_ ?_ ?_ ?_ ?_ ?_ ?_ ?_ ?_ ?_ ?_ ?_ ?_ ?_ ?_ ?_ ?_ ?_ ?_ ?_ ?_ ?_ ?_ ?_ ?_ ?_ ?_ ?_ ?_ ?_ ?_ ?_ ?_ ?_ ?_ ?_ ?_ ?_ ?_ ?_ ?_ ?_ ?kB
  (case kB=>kernel_rfl)
  all_goals try first | (refine' L2.m7.of ?a ?l ?c ?k;(case a=>k_is);(case l=>k_is);(case c=>k_is);(case k=>k_is)) | (refine' L2.tF.of ?a ?l ?c ?k ?i;(case a=>k_is);(case l=>k_is);(case c=>k_is);(case k=>k_is);(case i=>k_is)) | k_is
